import PyProof.Rows.All
import Wide.All
import OpenK.AllK
import Wide.FinOn
import Lean
import PyProof.EqAt
import PyProof.EqKinds
import PyProof.TupleCall
import PySem.Challenge.RW_disposehall_k03_no_day_no_length
set_option Elab.async false
set_option linter.all false
set_option maxRecDepth 100000
/-! THE HAND LAYER, for ints, bools, texts, own classes, LISTS and tuples (index, slices, in, append, pop ..), calls, loops. Paste it whole ahead of your own text; what your proof does not reach may be deleted. -/
namespace L2
open PySem PySem.Spec PyProof.Rows

/-- a key: an int or a str -/
abbrev Key := Sum Int Str
def keyIs : Key → Value → Bool
  | .inl k, v => Value.isInt k v
  | .inr x, v => Value.isStrOf x v
def keyH (w : World) : Key → Int
  | .inl k => hashInt k
  | .inr x => hashStr w x
theorem keyIs_shape : ∀ {k : Key} {v : Value}, keyIs k v = true → (∃ i t, k = Sum.inl i ∧ v = Value.int i t) ∨ (∃ x t, k = Sum.inr x ∧ v = Value.str x t)
  | .inl i, v, h => by
    obtain ⟨t, e⟩ := Value.isInt_shape (k := i) (v := v) h
    exact .inl ⟨i, t, rfl, e⟩
  | .inr x, v, h => by
    obtain ⟨t, e⟩ := Value.isStrOf_shape (x := x) (v := v) h
    exact .inr ⟨x, t, rfl, e⟩
theorem key_ll (a b : Int) : decide ((Sum.inl a : Key) = Sum.inl b) = (a == b) := by
  by_cases e : a = b
  · subst e; simp
  · have h : ¬ (Sum.inl a : Key) = Sum.inl b := fun q => e (Sum.inl.inj q)
    rw [decide_eq_false h]
    exact (beq_eq_false_iff_ne.mpr e).symm
theorem key_rr (a b : Str) : decide ((Sum.inr a : Key) = Sum.inr b) = decide (a = b) := by
  by_cases e : a = b
  · subst e; simp
  · have h : ¬ (Sum.inr a : Key) = Sum.inr b := fun q => e (Sum.inr.inj q)
    rw [decide_eq_false h, decide_eq_false e]
theorem key_lr (a : Int) (b : Str) : decide ((Sum.inl a : Key) = Sum.inr b) = false := decide_eq_false (fun q => nomatch q)
theorem key_rl (a : Str) (b : Int) : decide ((Sum.inr a : Key) = Sum.inl b) = false := decide_eq_false (fun q => nomatch q)

def mixKind (prog : Program) (w : World) : PySem.KeyKind prog w Key where
  is := keyIs
  hash := keyH w
  inj := fun v a b ha hb => by
    rcases keyIs_shape ha with ⟨i, t, rfl, rfl⟩ | ⟨x, t, rfl, rfl⟩
    · rcases keyIs_shape hb with ⟨j, u, rfl, e⟩ | ⟨y, u, rfl, e⟩
      · injection e with e1 _; rw [e1]
      · exact nomatch e
    · rcases keyIs_shape hb with ⟨j, u, rfl, e⟩ | ⟨y, u, rfl, e⟩
      · exact nomatch e
      · injection e with e1 _; rw [e1]
  byValue := fun k v h => by
    rcases keyIs_shape h with ⟨i, t, rfl, rfl⟩ | ⟨x, t, rfl, rfl⟩ <;> rfl
  pyHash := fun hv h => by
    rcases keyIs_shape hv with ⟨i, t, rfl, rfl⟩ | ⟨x, t, rfl, rfl⟩
    · exact wpAny_pyHash_int h
    · exact wpAny_pyHash_str h
  eqBool := fun hu hv h => by
    rcases keyIs_shape hu with ⟨i, t, rfl, rfl⟩ | ⟨x, t, rfl, rfl⟩
    · rcases keyIs_shape hv with ⟨j, u, rfl, rfl⟩ | ⟨y, u, rfl, rfl⟩
      · rw [key_ll] at h; exact wpAny_eqBool_int h
      · rw [key_lr] at h; exact SeqAt.EqAt.int_str i t y u _ _ _ _ h
    · rcases keyIs_shape hv with ⟨j, u, rfl, rfl⟩ | ⟨y, u, rfl, rfl⟩
      · rw [key_rl] at h; exact SeqAt.EqAt.str_int x t j u _ _ _ _ h
      · rw [key_rr] at h; exact wpAny_eqBool_str h
  «strs» := fun k x t v h => by
    rcases keyIs_shape h with ⟨i, u, rfl, e⟩ | ⟨y, u, rfl, e⟩
    · exact nomatch e
    · injection e with e1 _
      subst e1
      cases v <;> rfl

end L2

namespace L2
open PySem PySem.Spec PyProof.Rows

/-- a value, without the heap -/
inductive V where
  | non | bl (b : Bool) | int (i : Int) | str (x : Str) | byt (b : Array UInt8) | flt (b : UInt64) | ref (a : Addr) | ty (n : String)
  deriving DecidableEq

def RelV : V → Value → Prop
  | .non, u => u = Value.none
  | .bl b, u => u = Value.bool b
  | .int i, u => ∃ t, u = Value.int i t
  | .str x, u => ∃ t, u = Value.str x t
  | .byt b, u => ∃ t, u = Value.bytes b t
  | .flt b, u => ∃ t, u = Value.float b t
  | .ref a, u => u = Value.ref a
  | .ty n, u => u = Value.type n

abbrev Vals : List V → List Value → Prop := Paired RelV
theorem Vals.length {xs : List V} {us : List Value} (r : Vals xs us) : xs.length = us.length := Paired.length r
theorem Vals.get : ∀ {xs : List V} {us : List Value} {i : Nat} {x : V}, Vals xs us → xs[i]? = some x → ∃ u, us[i]? = some u ∧ RelV x u
  | _, _, _, _, .nil, e => by simp at e
  | _, _, 0, _, .cons r _, e => by simp at e; subst e; exact ⟨_, rfl, r⟩
  | _, _, i + 1, x, .cons _ t, e => by
    obtain ⟨u, h1, h2⟩ := Vals.get (i := i) (x := x) t (by simpa using e)
    exact ⟨u, by simpa using h1, h2⟩
theorem Vals.append : ∀ {xs ys : List V} {us ws : List Value}, Vals xs us → Vals ys ws → Vals (xs ++ ys) (us ++ ws)
  | _, _, _, _, .nil, s => s
  | _, _, _, _, .cons r t, s => .cons r (Vals.append t s)
def RelO : Option V → Option Value → Prop
  | some v, some u => RelV v u
  | none, none => True
  | _, _ => False
def KV {κ : Type} : List (κ × V) → List (κ × Value) → Prop := Paired fun (p : κ × V) (q : κ × Value) => p.1 = q.1 ∧ RelV p.2 q.2

/-- a key of a dict (00_mix): an int or a text -/
def kV : Key → V
  | .inl i => .int i
  | .inr x => .str x

/-- what stands at a tracked address -/
inductive HO where
  /-- a list -/
  | lst (xs : List V)
  /-- a tuple (never changes) -/
  | tup (xs : List V)
  /-- a dict whose keys are ints and texts; one whose keys are tuples of ints and texts (the empty one is both) -/
  | dK (kvs : List (Key × V)) | dT (kvs : List (List Key × V))
  /-- a set of ints: its members, its size -/
  | set (S : Int → Bool) (n : Nat)
  /-- an instance of the class at C, its dict at dx, its attributes -/
  | ins (C dx : Addr) (fs : List (Str × V))
  /-- the dict of the instance at x -/
  | own (x : Addr)
  /-- the dict of an exception -/
  | xd (fs : List (Str × V))
  /-- a bound method, f of x -/
  | met (f x : Addr)
  /-- a range object lo, lo + 1, .. below hi -/
  | rng (lo hi : Int)
  /-- a thing that is known to the object (the script; a dict while a loop walks it): read, never written while it is so -/
  | frz (o : Obj) (u : HO)
  /-- a code object's table -/
  | tbl (ps : Array Value)
  /-- any other thing, by what is true of its one object (a def of one's own: SetO a S n := HO.ext fun h => ..) -/
  | ext (φ : Heap → Prop)

abbrev Hp := Addr → Option HO
def upd (H : Hp) (a : Addr) (o : HO) : Hp := fun b => if b = a then some o else H b
theorem upd_same {H : Hp} {a : Addr} {o : HO} : upd H a o a = some o := by unfold upd; rw [if_pos rfl]
theorem upd_ne {H : Hp} {a b : Addr} {o : HO} (h : b ≠ a) : upd H a o b = H b := by unfold upd; rw [if_neg h]
theorem upd_upd {H : Hp} {a : Addr} {o u : HO} : upd (upd H a o) a u = upd H a u := by
  funext b; unfold upd; split <;> rfl
theorem ne_of_none {H : Hp} {a b : Addr} {o : HO} (h : H a = some o) (h' : H b = none) : a ≠ b := by
  intro e; subst e; rw [h] at h'; cases h'

section
variable (P : Program) (w : World)
def ObjOk (H : Hp) (h : Heap) (a : Addr) : HO → Prop
  | .lst xs => xs.length ≤ sizeLine ∧ ∃ (its : List Value) (n : Nat), Vals xs its ∧ h.get? a = some { cls := .type "list", data := .seq its.toArray n }
  | .tup xs => xs.length ≤ sizeLine ∧ ∃ its : List Value, Vals xs its ∧ IsTup h a its.toArray
  | .dK kvs => kvs.length ≤ sizeLine ∧ (a == sysModules) = false ∧ ∃ vs, KV kvs vs ∧ h.DictOf (mixKind P w) a vs
  | .dT kvs => kvs.length ≤ sizeLine ∧ (a == sysModules) = false ∧ ∃ xs : List (List Key × Addr × Value),
      Paired (fun (p : List Key × V) (q : List Key × Addr × Value) => p.1 = q.1 ∧ H q.2.1 = some (.tup (p.1.map kV)) ∧ RelV p.2 q.2.2) kvs xs ∧
      ∃ o es ep, h.get? a = some o ∧ o.ExactDict ∧ o.data = .dict es ep ∧ es.toList = xs.map (entryOfKey (tupleKind (mixKind P w))) ∧ (xs.map (·.1)).Nodup
  | .set S n => h.SetOf (intKind P w) a S n
  | .ins C dx fs => H dx = some (.own a) ∧ fs.length ≤ 1000 ∧ dx ≠ a ∧ h.get? a = some (PySem.W.instObj C dx) ∧
      ∃ mA, h.Ns1 dx mA ∧ (∀ f, RelO (fs.lookup f) (mA f)) ∧ PySem.Within mA (fs.map (·.1))
  | .own _ => ∃ o, h.get? a = some o
  | .xd fs => ∃ mA, h.Ns1 a mA ∧ ∀ f, RelO (fs.lookup f) (mA f)
  | .rng lo hi => ∃ t u v, h.get? a = some { cls := .type "range", data := .fields #[.int lo t, .int hi u, .int 1 v] }
  | .frz o u => h.get? a = some o ∧ ObjOk H h a u
  | .tbl ps => h.get? a = some { cls := .none, data := .fields ps }
  | .met f x => h.get? a = some (PySem.W.methodObj (.ref f) (.ref x))
  | .ext φ => φ h ∧ (∃ o, h.get? a = some o) ∧ ∀ h1 h2 : Heap, φ h1 → (∀ o, h1.get? a = some o → h2.get? a = some o) → φ h2
/-- the abstract heap is held -/
def HOk (H : Hp) (h : Heap) : Prop := ∀ a o, H a = some o → ObjOk P w H h a o
end

section
variable {P : Program} {w : World} {H H' : Hp} {h h' : Heap} {a : Addr} {o : HO}
theorem ObjOk.lt (x : ObjOk P w H h a o) : a < h.objs.size := by
  cases o with
  | lst xs => obtain ⟨_, _, _, _, e⟩ := x; exact Heap.lt_size e
  | tup xs => obtain ⟨_, _, _, p⟩ := x; exact p.lt
  | dK kvs => obtain ⟨_, _, _, _, o, _, _, e, _⟩ := x; exact Heap.lt_size e
  | dT kvs => obtain ⟨_, _, _, _, o, _, _, e, _⟩ := x; exact Heap.lt_size e
  | set S n => obtain ⟨o, _, _, _, e, _⟩ := x; exact Heap.lt_size e
  | ins C dx fs => obtain ⟨_, _, _, e, _⟩ := x; exact Heap.lt_size e
  | own y => obtain ⟨_, e⟩ := x; exact Heap.lt_size e
  | xd fs => obtain ⟨_, ⟨_, _, _, e, _⟩, _⟩ := x; exact Heap.lt_size e
  | rng lo hi => obtain ⟨_, _, _, e⟩ := x; exact Heap.lt_size e
  | frz ob u => obtain ⟨e, _⟩ := x; exact Heap.lt_size e
  | tbl ps => exact Heap.lt_size (show h.get? a = some _ from x)
  | met f y => exact Heap.lt_size (show h.get? a = some _ from x)
  | ext φ => obtain ⟨_, ⟨_, e⟩, _⟩ := x; exact Heap.lt_size e
theorem Paired.mapP {α β : Type} {F G : α → β → Prop} : ∀ {l₁ : List α} {l₂ : List β}, Paired F l₁ l₂ → (∀ a b, F a b → G a b) → Paired G l₁ l₂
  | _, _, .nil, _ => .nil
  | _, _, .cons r t, f => .cons (f _ _ r) (Paired.mapP t f)
/-- what an object's description leans on: its own object, its own dict, the tuples -/
theorem ObjOk.stay (x : ObjOk P w H h a o) (k : ∀ b u, (b = a ∨ H b = some (.own a)) → h.get? b = some u → h'.get? b = some u)
    (ho : ∀ b, H b = some (.own a) → H' b = some (.own a)) (ht : ∀ b xs, H b = some (.tup xs) → H' b = some (.tup xs)) : ObjOk P w H' h' a o := by
  induction o with
  | lst xs => obtain ⟨z, its, n, r, e⟩ := x; exact ⟨z, its, n, r, k _ _ (.inl rfl) e⟩
  | tup xs => obtain ⟨z, its, r, ob, e, c⟩ := x; exact ⟨z, its, r, ob, k _ _ (.inl rfl) e, c⟩
  | dK kvs => obtain ⟨z, y, vs, r, ob, es, ep, e, c⟩ := x; exact ⟨z, y, vs, r, ob, es, ep, k _ _ (.inl rfl) e, c⟩
  | dT kvs =>
    obtain ⟨z, y, xs, r, ob, es, ep, e, c⟩ := x
    exact ⟨z, y, xs, Paired.mapP r fun p q z => ⟨z.1, ht _ _ z.2.1, z.2.2⟩, ob, es, ep, k _ _ (.inl rfl) e, c⟩
  | set S n => obtain ⟨ob, es, ep, t, e, c⟩ := x; exact ⟨ob, es, ep, t, k _ _ (.inl rfl) e, c⟩
  | ins C dx fs =>
    obtain ⟨d, z, ne, e, mA, ⟨od, es, ep, e2, c⟩, r⟩ := x
    exact ⟨ho _ d, z, ne, k _ _ (.inl rfl) e, mA, ⟨od, es, ep, k _ _ (.inr d) e2, c⟩, r⟩
  | own y => obtain ⟨ob, e⟩ := x; exact ⟨ob, k _ _ (.inl rfl) e⟩
  | xd fs => obtain ⟨mA, ⟨od, es, ep, e, c⟩, r⟩ := x; exact ⟨mA, ⟨od, es, ep, k _ _ (.inl rfl) e, c⟩, r⟩
  | rng lo hi => obtain ⟨t, u, v, e⟩ := x; exact ⟨t, u, v, k _ _ (.inl rfl) e⟩
  | frz ob u ih => obtain ⟨e, q⟩ := x; exact ⟨k _ _ (.inl rfl) e, ih q⟩
  | tbl ps =>
    have e : h.get? a = some { cls := .none, data := .fields ps } := x
    show h'.get? a = some { cls := .none, data := .fields ps }
    exact k a _ (.inl rfl) e
  | met f y =>
    have e : h.get? a = some (PySem.W.methodObj (.ref f) (.ref y)) := x
    show h'.get? a = some (PySem.W.methodObj (.ref f) (.ref y))
    exact k a _ (.inl rfl) e
  | ext φ => obtain ⟨p, ⟨o, e⟩, st⟩ := x; exact ⟨st _ _ p fun o q => k _ _ (.inl rfl) q, ⟨o, k _ _ (.inl rfl) e⟩, st⟩
theorem HOk.lt (x : HOk P w H h) (e : H a = some o) : a < h.objs.size := (x a o e).lt
theorem HOk.fresh (x : HOk P w H h) (e : h.objs.size ≤ a) : H a = none := by
  cases q : H a with
  | none => rfl
  | some u => exact absurd (Nat.lt_of_lt_of_le (x.lt q) e) (Nat.lt_irrefl _)
/-- every object of the heap is kept -/
theorem HOk.kept (x : HOk P w H h) (k : ∀ b u, h.get? b = some u → h'.get? b = some u) : HOk P w H h' := fun a o e =>
  (x a o e).stay (fun b u _ q => k b u q) (fun _ q => q) fun _ _ q => q
/-- a new object is laid and tracked -/
theorem HOk.laid (x : HOk P w H h) (k : ∀ b u, h.get? b = some u → h'.get? b = some u) (hp : h.objs.size ≤ a) (new : ObjOk P w (upd H a o) h' a o) : HOk P w (upd H a o) h' := fun b u e => by
  have hn := x.fresh hp
  by_cases hb : b = a
  · subst hb; rw [upd_same] at e; cases e; exact new
  · rw [upd_ne hb] at e
    exact (x b u e).stay (fun c v _ q => k c v q) (fun c q => by rw [upd_ne (ne_of_none q hn)]; exact q) fun c xs q => by rw [upd_ne (ne_of_none q hn)]; exact q
end

/-- what may be read as u: it is u, or a known u -/
def Rd (H : Hp) (a : Addr) (u : HO) : Prop := H a = some u ∨ ∃ o, H a = some (.frz o u)
theorem Rd.ok {P : Program} {w : World} {H : Hp} {h : Heap} {a : Addr} {u : HO} (r : Rd H a u) (x : HOk P w H h) : ObjOk P w H h a u := by
  rcases r with r | ⟨o, r⟩
  · exact x a u r
  · obtain ⟨_, q⟩ := x a _ r
    exact q
/-- what may be written -/
def Mut : Option HO → Prop
  | some (.lst _) => True
  | some (.dK _) => True
  | some (.dT _) => True
  | some (.set _ _) => True
  | some (.ins _ _ _) => True
  | some (.ext _) => True
  | _ => False
section
variable {P : Program} {w : World} {H : Hp} {h h' : Heap} {x e : Addr} {o' : HO}
/-- the object at e is changed: x itself, or the dict of the instance x -/
theorem HOk.write (ok : HOk P w H h) (mu : Mut (H x)) (he : e = x ∨ H e = some (.own x)) (k : ∀ b u, b ≠ e → h.get? b = some u → h'.get? b = some u) (heo : ∃ u, h'.get? e = some u)
    (new : ObjOk P w (upd H x o') h' x o') : HOk P w (upd H x o') h' := fun b u q => by
  have nown : ∀ c y, H c = some (.own y) → c ≠ x := fun c y r z => by subst z; rw [r] at mu; exact mu
  have ntup : ∀ c xs, H c = some (.tup xs) → c ≠ x := fun c xs r z => by subst z; rw [r] at mu; exact mu
  by_cases hb : b = x
  · subst hb; rw [upd_same] at q; cases q; exact new
  · rw [upd_ne hb] at q
    by_cases hbe : b = e
    · have q' : H b = some (.own x) := by
        rcases he with z | z
        · exact absurd (hbe.trans z) hb
        · rw [hbe]; exact z
      rw [q] at q'; cases q'
      obtain ⟨v, hv⟩ := heo
      exact ⟨v, by rw [hbe]; exact hv⟩
    · refine (ok b u q).stay (fun c v hc r => k c v ?_ r) (fun c r => by rw [upd_ne (nown c b r)]; exact r) fun c xs r => by rw [upd_ne (ntup c xs r)]; exact r
      rcases hc with rfl | hc
      · exact hbe
      · rintro rfl
        rcases he with z | z
        · exact nown c b hc z
        · rw [hc] at z; cases z; exact hb rfl
end

/-! ### kept unless tracked; of the frames at fs (the callers') the slots may change (an exception that passes writes there); of the records at ex (iterators) nothing is said -/
structure Un (fs ex : List Addr) (H H' : Hp) (h h' : Heap) : Prop where
  keep : ∀ b o, h.get? b = some o → H b = none → b ∉ fs → b ∉ ex → h'.get? b = some o
  slot : ∀ b o, h.get? b = some o → H b = none → b ∈ fs → b ∉ ex → ∃ sl, h'.get? b = some { o with slots := sl }
  free : ∀ b o, h.get? b = some o → H b = none → b ∉ ex → H' b = none
  there : ∀ b o, h.get? b = some o → b ∉ ex → ∃ o', h'.get? b = some o'
  tups : ∀ b xs, H b = some (.tup xs) → H' b = some (.tup xs)
  frzs : ∀ b o u, H b = some (.frz o u) → H' b = some (.frz o u)
  tbls : ∀ b ps, H b = some (.tbl ps) → ∃ more, H' b = some (.tbl (ps ++ more))
section
variable {fs fs' ex ex' : List Addr} {H H1 H2 : Hp} {h h1 h2 h' : Heap} {a x e : Addr} {o : HO}
theorem Un.any (u : Un fs ex H H1 h h1) {b : Addr} {ob : Obj} (q : h.get? b = some ob) (n : H b = none) (hx : b ∉ ex) : ∃ sl, h1.get? b = some { ob with slots := sl } := by
  by_cases hb : b ∈ fs
  · exact u.slot b ob q n hb hx
  · exact ⟨ob.slots, u.keep b ob q n hb hx⟩
theorem Un.kept (k : ∀ b u, h.get? b = some u → h'.get? b = some u) : Un fs ex H H h h' :=
  ⟨fun b ob q _ _ _ => k b ob q, fun b ob q _ _ _ => ⟨ob.slots, k b ob q⟩, fun _ _ _ n _ => n, fun b ob q _ => ⟨ob, k b ob q⟩, fun _ _ q => q, fun _ _ _ q => q, fun _ ps q => ⟨#[], by rw [q]; simp⟩⟩
theorem Un.refl : Un fs ex H H h h := Un.kept fun _ _ q => q
theorem Un.laid (k : ∀ b u, h.get? b = some u → h'.get? b = some u) (hp : h.objs.size ≤ a) (hn : H a = none) : Un fs ex H (upd H a o) h h' where
  keep := fun b u q _ _ _ => k b u q
  slot := fun b u q _ _ _ => ⟨u.slots, k b u q⟩
  free := fun b u q n _ => by rw [upd_ne (Nat.ne_of_lt (Nat.lt_of_lt_of_le (Heap.lt_size q) hp))]; exact n
  there := fun b u q _ => ⟨u, k b u q⟩
  tups := fun b xs q => by rw [upd_ne (ne_of_none q hn)]; exact q
  frzs := fun b u xs q => by rw [upd_ne (ne_of_none q hn)]; exact q
  tbls := fun b ps q => ⟨#[], by rw [upd_ne (ne_of_none q hn), q]; simp⟩
theorem Un.write (mu : Mut (H x)) (he : e = x ∨ H e = some (.own x)) (k : ∀ b u, b ≠ e → h.get? b = some u → h'.get? b = some u) (heo : ∃ u, h'.get? e = some u) : Un fs ex H (upd H x o) h h' := by
  have hx : ∀ b, H b = none → b ≠ x := fun b n z => by subst z; rw [n] at mu; exact mu
  have hb : ∀ b, H b = none → b ≠ e := fun b n z => by
    subst z
    rcases he with r | r
    · exact hx b n r
    · rw [n] at r; cases r
  have hm : ∀ b u, H b = some u → ¬ Mut (some u) → b ≠ x := fun b u q nm z => by subst z; rw [q] at mu; exact nm mu
  refine ⟨fun b u q n _ _ => k b u (hb b n) q, fun b u q n _ _ => ⟨u.slots, k b u (hb b n) q⟩, fun b u q n _ => by rw [upd_ne (hx b n)]; exact n, fun b u q _ => ?_,
    fun b xs q => by rw [upd_ne (hm b _ q fun z => z)]; exact q, fun b u xs q => by rw [upd_ne (hm b _ q fun z => z)]; exact q, fun b ps q => ⟨#[], by rw [upd_ne (hm b _ q fun z => z), q]; simp⟩⟩
  by_cases hbe : b = e
  · subst hbe; exact heo
  · exact ⟨u, k b u hbe q⟩
end

/-! ### the heap without what is tracked -/
def trk (h : Heap) (H : Hp) : List Addr := (List.range h.objs.size).filter fun a => (H a).isSome
def hidT (h : Heap) (H : Hp) : Heap := PySem.W.hideAll h (trk h H)
theorem hidT_size (h : Heap) (H : Hp) : (hidT h H).objs.size = h.objs.size := PySem.W.hideAll_size _ _
theorem hidT_get {h : Heap} {H : Hp} {b : Addr} {o : Obj} (e : h.get? b = some o) (n : H b = none) : (hidT h H).get? b = some o :=
  PySem.W.hideAll_get _ e fun hm => by
    have q : (H b).isSome = true := (List.mem_filter.mp hm).2
    rw [n] at q; simp at q
theorem of_hidT {h : Heap} {H : Hp} {b : Addr} {o : Obj} (e : (hidT h H).get? b = some o) : h.get? b = some o ∧ H b = none := by
  have e' : h.get? b = some o := PySem.W.of_hideAll (trk h H) e
  refine ⟨e', ?_⟩
  cases q : H b with
  | none => rfl
  | some x =>
    have hm : b ∈ trk h H := List.mem_filter.mpr ⟨List.mem_range.mpr (Heap.lt_size e'), by simp [q]⟩
    have z : (hidT h H).get? b = none := PySem.W.hideAll_none (trk h H) hm
    rw [z] at e; cases e

/-! ### OpenK's ledger, filled with every new object but one -/
end L2

namespace L2
open PySem PySem.Spec PyProof.Rows

/-- the module's facts, over the base: the heap at the law's entry without what is tracked there -/
structure Mod (K : PySem.W.Frag) (mg : Str → Option Value) (base : Heap) : Prop where
  kin : K.In base
  glob : base.Ns mainGlobals mg
  blt : ∃ mb, base.Ns builtinsNs mb ∧ ∀ x : Str, x ≠ "__name__" → mb x = bootBuiltins x
  nolimit : base.NoLimit

/-- the context: a def's body (or a comprehension's block) running. base: fixed through the whole law; s₀, H₀: the entry; outer: the frames whose slots others may change (a def's callers); stack: all frames that run;
   ex: iterators that were made ahead of the entry and are walked here (a comprehension's); fn: the names whose cells were made at the entry (a def: all; a comprehension's block: its own); calm: not within an except suite; pn: pins that every state bears; xe: what is wanted of an exception that leaves the code -/
structure Cx where
  prog : Program
  w : World
  K : PySem.W.Frag
  mg : Str → Option Value
  base : Heap
  A : Around
  N : List Str
  s₀ : Shared
  H₀ : Hp
  env : Env
  outer : List Env
  stack : List Env
  ex : List Addr
  fn : Str → Bool
  calm : Bool
  pn : List (Addr × Obj)
  xe : Value → Shared → Prop
/-- the callers' frames -/
def frs (l : List Env) : List Addr := l.filterMap (·.frame)
abbrev Cx.fs (X : Cx) : List Addr := frs X.outer

def Vis (sc : Scope) (x : Str) : Prop := sc.names.lookup x = some .local ∨ sc.names.lookup x = some .cell ∨ sc.names.lookup x = some .free
def Loc (sc : Scope) (x : Str) : Prop := sc.names.lookup x = some .local ∨ sc.names.lookup x = some .cell
def Look (env : Env) (h : Heap) (m : Str → Option Value) (x : Str) (u : Value) : Prop :=
  (env.kindOf x = some .local ∧ m x = some u) ∨ ((env.kindOf x = some .cell ∨ env.kindOf x = some .free) ∧ ∃ c, env.cells.lookup x = some c ∧ h.IsCell c (some u))

structure Cx.Ok (X : Cx) : Prop where
  mod : Mod X.K X.mg X.base
  kind : X.env.scope.kind = .function
  glob : X.env.globals = mainGlobals
  blt : X.env.builtins = builtinsNs
  above : X.s₀.heap.objs.size ≤ X.env.locals
  inj : ∀ x y c, X.env.cells.lookup x = some c → X.env.cells.lookup y = some c → x = y
  has : ∀ x, (X.env.kindOf x = some .cell ∨ X.env.kindOf x = some .free) → ∃ c, X.env.cells.lookup x = some c
  cab : ∀ x c, X.fn x = true → X.env.cells.lookup x = some c → X.s₀.heap.objs.size ≤ c
  hd : X.calm = true → X.A.handled = none
  frames : X.A.frames = some X.stack
  stk : X.stack = X.outer ∨ (X.stack = X.env :: X.outer ∧ X.env.frame = some X.env.locals)
  exf : ∀ b ∈ X.ex, b ≠ X.env.locals ∧ ∀ x c, X.env.cells.lookup x = some c → c ≠ b
  bs : ∀ b o, X.base.get? b = some o → X.s₀.heap.get? b = some o ∧ X.H₀ b = none
  bsz : X.base.objs.size ≤ X.s₀.heap.objs.size
  noex : ∀ b o, X.base.get? b = some o → b ∉ X.ex
  exfs : ∀ b ∈ X.ex, b ∉ X.fs
  funs : X.s₀.heap.FunFrames X.base X.outer
  frf : ∀ b ∈ X.fs, X.H₀ b = none

structure Inv (X : Cx) (pins : List (Addr × Obj)) (σ : List (Option V)) (H : Hp) (s : Shared) : Prop where
  ok : X.Ok
  os : s.os = X.s₀.os
  bare : AllBare s.gens
  base : Un X.fs X.ex X.H₀ H X.s₀.heap s.heap
  loc : ∃ m, s.heap.Ns X.env.locals m ∧ ∀ (i : Nat) (x : Str) (v : V), X.N[i]? = some x → σ[i]? = some (some v) → Vis X.env.scope x → ∃ u, RelV v u ∧ Look X.env s.heap m x u
  cell : ∀ x c, X.env.cells.lookup x = some c → ∃ v, s.heap.IsCell c v
  free : H X.env.locals = none
  freeC : ∀ x c, X.env.cells.lookup x = some c → H c = none
  pin : ∀ p ∈ X.pn ++ pins, s.heap.get? p.1 = some p.2 ∧ H p.1 = none ∧ p.1 ≠ X.env.locals ∧ p.1 ∉ X.fs ∧ ∀ v, p.2.data ≠ .cell v
  hok : HOk X.prog X.w H s.heap
  len : σ.length = X.N.length

section
variable {X : Cx} {pins : List (Addr × Obj)} {σ : List (Option V)} {H H' : Hp} {s : Shared} {h' : Heap}

theorem Cx.Ok.nofr (ok : X.Ok) {b : Addr} {o : Obj} (e : X.base.get? b = some o) : b ∉ X.fs := fun hb => by
  have := (ok.funs.mem hb).1
  rw [e] at this; cases this
theorem Inv.bs (I : Inv X pins σ H s) : ∀ b o, X.base.get? b = some o → s.heap.get? b = some o ∧ H b = none := fun b o e =>
  ⟨I.base.keep b o (I.ok.bs b o e).1 (I.ok.bs b o e).2 (I.ok.nofr e) (I.ok.noex b o e), I.base.free b o (I.ok.bs b o e).1 (I.ok.bs b o e).2 (I.ok.noex b o e)⟩
theorem Inv.bk (I : Inv X pins σ H s) : ∀ b o, X.base.get? b = some o → s.heap.get? b = some o := fun b o e => (I.bs b o e).1
theorem Inv.mod (I : Inv X pins σ H s) : Mod X.K X.mg X.base := I.ok.mod
theorem Inv.kIn (I : Inv X pins σ H s) : X.K.In s.heap := I.ok.mod.kin.keeps I.bk
/-- the frame over the base: for OpenK's rules (K.In X.base is I.mod.kin) -/
theorem Inv.fr (I : Inv X pins σ H s) : ∃ m, Fr X.base X.env.locals s.heap m :=
  let ⟨m, hn, _⟩ := I.loc
  ⟨m, hn, I.bk, Nat.le_trans I.ok.bsz I.ok.above⟩
theorem Inv.lt (I : Inv X pins σ H s) : X.env.locals < s.heap.objs.size := let ⟨_, hn, _⟩ := I.loc; hn.lt
theorem Inv.sz (I : Inv X pins σ H s) : X.s₀.heap.objs.size ≤ s.heap.objs.size := Nat.le_trans I.ok.above (Nat.le_of_lt I.lt)
theorem Inv.nofs (I : Inv X pins σ H s) {a : Addr} (h : s.heap.objs.size ≤ a) : a ∉ X.fs := fun hb => by
  obtain ⟨_, o, ho, _⟩ := I.ok.funs.mem hb
  exact absurd (Nat.lt_of_lt_of_le (Heap.lt_size ho) (Nat.le_trans I.sz h)) (Nat.lt_irrefl _)
theorem Inv.cne (I : Inv X pins σ H s) : ∀ x c, X.env.cells.lookup x = some c → c ≠ X.env.locals := fun x c e z => by
  obtain ⟨v, o, ho, hd⟩ := I.cell x c e
  obtain ⟨m, ⟨o', es, ep, ho', hd', _⟩, _⟩ := I.loc
  rw [z, ho'] at ho; cases ho; rw [hd'] at hd; cases hd
theorem Inv.funs (I : Inv X pins σ H s) : s.heap.FunFrames X.base X.outer := by
  have all : ∀ (l : List Env), (∀ b ∈ frs l, b ∈ X.fs) → X.s₀.heap.FunFrames X.base l → s.heap.FunFrames X.base l := by
    intro l
    induction l with
    | nil => intro _ _; trivial
    | cons env r ih =>
      intro hs hl
      obtain ⟨hk, ⟨L, o, hf, hn, ho, hd⟩, hr⟩ := hl
      have hL : L ∈ X.fs := hs L (by unfold frs; rw [List.filterMap_cons, hf]; exact List.mem_cons_self)
      obtain ⟨sl, e⟩ := I.base.slot L o ho (I.ok.frf L hL) hL fun z => I.ok.exfs L z hL
      exact ⟨hk, ⟨L, _, hf, hn, e, hd⟩, ih (fun b hb => hs b (by unfold frs; rw [List.filterMap_cons, hf]; exact List.mem_cons_of_mem _ hb)) hr⟩
  exact all X.outer (fun _ hb => hb) I.ok.funs

/-- the frames that run, for a call -/
theorem Inv.stack (I : Inv X pins σ H s) : s.heap.FunFrames X.base X.stack := by
  rcases I.ok.stk with e | ⟨e, hf⟩
  · rw [e]; exact I.funs
  · rw [e]
    obtain ⟨m, hn, _⟩ := I.loc
    refine .cons (by rw [I.ok.kind]; decide) hf hn ?_ I.funs
    exact Heap.get?_none_of_le (Nat.le_trans I.ok.bsz I.ok.above)
theorem Inv.stkSub (I : Inv X pins σ H s) : ∀ b ∈ frs X.stack, b ∈ X.env.locals :: X.fs := fun b hb => by
  rcases I.ok.stk with e | ⟨e, hf⟩
  · rw [e] at hb; exact List.mem_cons_of_mem _ hb
  · rw [e] at hb
    unfold frs at hb
    rw [List.filterMap_cons, hf] at hb
    exact hb
theorem Inv.stkFree (I : Inv X pins σ H s) : ∀ b ∈ frs X.stack, H b = none := fun b hb => by
  rcases List.mem_cons.mp (I.stkSub b hb) with e | hb
  · rw [e]; exact I.free
  · obtain ⟨_, o, ho, _⟩ := I.ok.funs.mem hb
    exact I.base.free b o ho (I.ok.frf b hb) fun z => I.ok.exfs b z hb

/-- THE STEP: the untracked objects but the frame and the records at ch are kept (the callers' frames up to slots), the frame's map is kept, the new abstract heap is held -/
theorem Inv.step {g' : Array GenState} {t' : Nat} {d' : Drawn} {ch : List Addr} (I : Inv X pins σ H s)
    (hch : ∀ b ∈ ch, (b ∈ X.ex ∨ X.s₀.heap.objs.size ≤ b) ∧ b ≠ X.env.locals ∧ (∀ x c, X.env.cells.lookup x = some c → c ≠ b) ∧ ∀ p ∈ X.pn ++ pins, p.1 ≠ b)
    (keep : ∀ b o, b ≠ X.env.locals → b ∉ X.fs → b ∉ ch → s.heap.get? b = some o → H b = none → h'.get? b = some o)
    (slot : ∀ b o, b ≠ X.env.locals → b ∈ X.fs → b ∉ ch → s.heap.get? b = some o → H b = none → ∃ sl, h'.get? b = some { o with slots := sl }) (free : ∀ b o, b ∉ ch → s.heap.get? b = some o → H b = none → H' b = none)
    (there : ∀ b o, b ∉ ch → s.heap.get? b = some o → ∃ o', h'.get? b = some o')
    (tups : ∀ b xs, H b = some (.tup xs) → H' b = some (.tup xs)) (frzs : ∀ b o u, H b = some (.frz o u) → H' b = some (.frz o u)) (tbls : ∀ b ps, H b = some (.tbl ps) → ∃ more, H' b = some (.tbl (ps ++ more)))
    (ns : ∀ m, s.heap.Ns X.env.locals m → h'.Ns X.env.locals m) (hok : HOk X.prog X.w H' h') (hg : AllBare g') :
    Inv X pins σ H' { s with heap := h', gens := g', drawn := d', toks := t' } := by
  have neL : ∀ b o, X.s₀.heap.get? b = some o → b ≠ X.env.locals := fun b o e => Nat.ne_of_lt (Nat.lt_of_lt_of_le (Heap.lt_size e) I.ok.above)
  have neC : ∀ b o, X.s₀.heap.get? b = some o → b ∉ X.ex → b ∉ ch := fun b o e hx hb => by
    rcases (hch b hb).1 with z | z
    · exact hx z
    · exact absurd (Nat.lt_of_lt_of_le (Heap.lt_size e) z) (Nat.lt_irrefl _)
  have cellK : ∀ x c, X.env.cells.lookup x = some c → ∀ v, s.heap.IsCell c v → h'.IsCell c v := fun x c e v ⟨o, ho, hd⟩ => by
    have nch : c ∉ ch := fun z => (hch c z).2.2.1 x c e rfl
    by_cases hc : c ∈ X.fs
    · obtain ⟨sl, q⟩ := slot c o (I.cne x c e) hc nch ho (I.freeC x c e)
      exact ⟨_, q, hd⟩
    · exact ⟨o, keep c o (I.cne x c e) hc nch ho (I.freeC x c e), hd⟩
  refine ⟨I.ok, I.os, hg, ⟨fun b o e n hb hx => ?_, fun b o e n hb hx => ?_, fun b o e n hx => ?_, fun b o e hx => ?_, fun b xs e => tups b xs (I.base.tups b xs e), fun b o xs e => frzs b o xs (I.base.frzs b o xs e), fun b ps e => ?_⟩, ?_, fun x c e => ?_, ?_, fun x c e => ?_, fun p hp => ?_, hok, I.len⟩
  · exact keep b o (neL b o e) hb (neC b o e hx) (I.base.keep b o e n hb hx) (I.base.free b o e n hx)
  · obtain ⟨sl, e1⟩ := I.base.slot b o e n hb hx
    obtain ⟨sl', e2⟩ := slot b _ (neL b o e) hb (neC b o e hx) e1 (I.base.free b o e n hx)
    exact ⟨sl', e2⟩
  · obtain ⟨o', e1⟩ := I.base.there b o e hx
    exact free b o' (neC b o e hx) e1 (I.base.free b o e n hx)
  · obtain ⟨o', e1⟩ := I.base.there b o e hx
    exact there b o' (neC b o e hx) e1
  · obtain ⟨m1, e1⟩ := I.base.tbls b ps e
    obtain ⟨m2, e2⟩ := tbls b _ e1
    exact ⟨m1 ++ m2, by rw [e2, Array.append_assoc]⟩
  · obtain ⟨m, hn, hl⟩ := I.loc
    refine ⟨m, ns m hn, fun i x v e1 e2 e3 => ?_⟩
    obtain ⟨u, r, l⟩ := hl i x v e1 e2 e3
    refine ⟨u, r, ?_⟩
    rcases l with l | ⟨k, c, e, z⟩
    · exact .inl l
    · exact .inr ⟨k, c, e, cellK x c e _ z⟩
  · obtain ⟨v, z⟩ := I.cell x c e
    exact ⟨v, cellK x c e v z⟩
  · obtain ⟨m, ⟨o, _, _, ho, _⟩, _⟩ := I.loc
    exact free _ o (fun z => (hch _ z).2.1 rfl) ho I.free
  · obtain ⟨v, o, ho, hd⟩ := I.cell x c e
    exact free c o (fun z => (hch c z).2.2.1 x c e rfl) ho (I.freeC x c e)
  · obtain ⟨e, n, ne, nf, d⟩ := I.pin p hp
    have nch : p.1 ∉ ch := fun z => (hch p.1 z).2.2.2 p hp rfl
    exact ⟨keep p.1 p.2 ne nf nch e n, free p.1 p.2 nch e n, ne, nf, d⟩
/-- .. where the frame's own object is kept too -/
theorem Inv.un {t' : Nat} (I : Inv X pins σ H s) (u : Un X.fs [] H H' s.heap h') (hok : HOk X.prog X.w H' h') : Inv X pins σ H' { s with heap := h', toks := t' } := by
  obtain ⟨m, ⟨o, es, ep, ho, r⟩, _⟩ := id I.loc
  obtain ⟨sl, hL⟩ := u.any ho I.free (by simp)
  exact I.step (g' := s.gens) (d' := s.drawn) (ch := []) (fun _ z => nomatch z) (fun b o _ hb _ e n => u.keep b o e n hb (by simp)) (fun b o _ hb _ e n => u.slot b o e n hb (by simp)) (fun b o _ e n => u.free b o e n (by simp)) (fun b o _ e => u.there b o e (by simp)) u.tups u.frzs u.tbls (fun m' hm => by
    obtain ⟨o', es', ep', ho', r'⟩ := hm
    rw [ho] at ho'; cases ho'
    exact ⟨_, es', ep', hL, r'⟩) hok I.bare
/-- behind a call (or a comprehension's block): the slots of this frame may have changed too, the records at ch may have turned -/
theorem Inv.call {g' : Array GenState} {t' : Nat} {d' : Drawn} {ch : List Addr} (I : Inv X pins σ H s) (u : Un (frs X.stack) ch H H' s.heap h') (hok : HOk X.prog X.w H' h') (hg : AllBare g')
    (hch : ∀ b ∈ ch, (b ∈ X.ex ∨ X.s₀.heap.objs.size ≤ b) ∧ b ≠ X.env.locals ∧ (∀ x c, X.env.cells.lookup x = some c → c ≠ b) ∧ ∀ p ∈ X.pn ++ pins, p.1 ≠ b) :
    Inv X pins σ H' { s with heap := h', gens := g', drawn := d', toks := t' } := by
  obtain ⟨m, ⟨o, es, ep, ho, r⟩, _⟩ := id I.loc
  obtain ⟨sl, hL⟩ := u.any ho I.free fun z => (hch _ z).2.1 rfl
  exact I.step (ch := ch) hch (fun b o hL hb hc e n => u.keep b o e n (fun z => (List.mem_cons.mp (I.stkSub b z)).elim hL hb) hc) (fun b o _ _ hc e n => u.any e n hc) (fun b o hc e n => u.free b o e n hc) (fun b o hc e => u.there b o e hc) u.tups u.frzs u.tbls (fun m' hm => by
    obtain ⟨o', es', ep', ho', r'⟩ := hm
    rw [ho] at ho'; cases ho'
    exact ⟨_, es', ep', hL, r'⟩) hok hg
/-- an untracked record of ours (an iterator) has turned -/
theorem Inv.turned {t' : Nat} {it : Addr} (I : Inv X pins σ H s) (k : ∀ b o, b ≠ it → s.heap.get? b = some o → h'.get? b = some o) (hn : H it = none) (hL : it ≠ X.env.locals)
    (h1 : it ∈ X.ex ∨ X.s₀.heap.objs.size ≤ it) (h2 : ∀ x c, X.env.cells.lookup x = some c → c ≠ it) (h3 : ∀ p ∈ X.pn ++ pins, p.1 ≠ it) : Inv X pins σ H { s with heap := h', toks := t' } := by
  have nit : ∀ b u, H b = some u → b ≠ it := fun b u e z => by rw [z, hn] at e; cases e
  refine I.step (g' := s.gens) (d' := s.drawn) (ch := [it]) (fun b hb => ?_) (fun b o _ _ hc e _ => k b o (fun z => hc (by simp [z])) e) (fun b o _ _ hc e _ => ⟨o.slots, k b o (fun z => hc (by simp [z])) e⟩) (fun _ _ _ _ n => n)
    (fun b o hc e => ⟨o, k b o (fun z => hc (by simp [z])) e⟩) (fun _ _ e => e) (fun _ _ _ e => e) (fun b ps e => ⟨#[], by rw [e]; simp⟩) (fun m hm => ?_) (fun b u e => ?_) I.bare
  · have e : b = it := by simpa using hb
    subst e
    exact ⟨h1, hL, h2, h3⟩
  · obtain ⟨o, es, ep, ho, r⟩ := hm
    exact ⟨o, es, ep, k _ o (Ne.symm hL) ho, r⟩
  · refine (I.hok b u e).stay (fun c v hc q => k c v ?_ q) (fun _ q => q) fun _ _ q => q
    rcases hc with z | z
    · rw [z]; exact nit b u e
    · exact nit c _ z
theorem Inv.tok (I : Inv X pins σ H s) (t : Nat) : Inv X pins σ H { s with toks := t } := I.un (h' := s.heap) (t' := t) Un.refl I.hok
/-- all objects kept -/
theorem Inv.kept {t' : Nat} (I : Inv X pins σ H s) (k : ∀ b u, s.heap.get? b = some u → h'.get? b = some u) : Inv X pins σ H { s with heap := h', toks := t' } := I.un (Un.kept k) (I.hok.kept k)
/-- a new object laid and tracked -/
theorem Inv.laid {a : Addr} {o : HO} {t' : Nat} (I : Inv X pins σ H s) (k : ∀ b u, s.heap.get? b = some u → h'.get? b = some u) (hp : s.heap.objs.size ≤ a) (new : ObjOk X.prog X.w (upd H a o) h' a o) :
    Inv X pins σ (upd H a o) { s with heap := h', toks := t' } := I.un (Un.laid k hp (I.hok.fresh hp)) (I.hok.laid k hp new)
/-- an object written -/
theorem Inv.write {x e : Addr} {o : HO} {t' : Nat} (I : Inv X pins σ H s) (mu : Mut (H x)) (he : e = x ∨ H e = some (.own x)) (k : ∀ b u, b ≠ e → s.heap.get? b = some u → h'.get? b = some u) (heo : ∃ u, h'.get? e = some u)
    (new : ObjOk X.prog X.w (upd H x o) h' x o) : Inv X pins σ (upd H x o) { s with heap := h', toks := t' } := I.un (Un.write mu he k heo) (I.hok.write mu he k heo new)
/-- forgetting slots, pins -/
theorem Inv.weak {σ' : List (Option V)} (I : Inv X pins σ H s) (hl : σ'.length = σ.length) (w : ∀ (i : Nat) v, σ'[i]? = some (some v) → σ[i]? = some (some v)) : Inv X pins σ' H s :=
  ⟨I.ok, I.os, I.bare, I.base, let ⟨m, hn, hl'⟩ := I.loc; ⟨m, hn, fun i x v e1 e2 e3 => hl' i x v e1 (w i v e2) e3⟩, I.cell, I.free, I.freeC, I.pin, I.hok, hl.trans I.len⟩
theorem Inv.pins_of {pins' : List (Addr × Obj)} (I : Inv X pins σ H s) (h : ∀ p ∈ pins', s.heap.get? p.1 = some p.2 ∧ H p.1 = none ∧ p.1 ≠ X.env.locals ∧ p.1 ∉ X.fs ∧ ∀ v, p.2.data ≠ .cell v) : Inv X pins' σ H s :=
  ⟨I.ok, I.os, I.bare, I.base, I.loc, I.cell, I.free, I.freeC, fun p hp => (List.mem_append.mp hp).elim (fun z => I.pin p (List.mem_append_left _ z)) (h p), I.hok, I.len⟩

theorem nodup_ix {N : List Str} (hN : N.Nodup) {i j : Nat} {x : Str} (a : N[i]? = some x) (b : N[j]? = some x) : i = j := by
  obtain ⟨h1, e1⟩ := List.getElem?_eq_some_iff.mp a
  obtain ⟨h2, e2⟩ := List.getElem?_eq_some_iff.mp b
  exact (List.getElem_inj hN).mp (e1.trans e2.symm)

/-- a name is stored; what changed -/
theorem store_ok2 {M : Model} {A : Around} {E : Value → Shared → Prop} {i : Nat} {x : Str} {v : V} {u : Value} {Q : Unit → Shared → Prop} (I : Inv X pins σ H s) (hN : X.N.Nodup) (hi : X.N[i]? = some x) (hx : Loc X.env.scope x) (r : RelV v u)
    (h : ∀ s', Inv X pins (σ.set i (some v)) H s' → (∃ a, Heap.SameBut a s.heap s'.heap ∧ (a = X.env.locals ∨ X.env.cells.lookup x = some a)) → Q () s') (hf : X.fn x = true ∨ X.env.scope.names.lookup x = some .local := by first | exact .inl rfl | exact .inr rfl | assumption) : wpAny M A (storeName X.env x u) Q E s := by
  obtain ⟨m, hn, hl⟩ := id I.loc
  have hcls : (X.env.scope.kind == .class || (X.env.scope.kind == .module && X.env.locals != X.env.globals)) = false := by rw [I.ok.kind]; rfl
  have hiσ : i < σ.length := by rw [I.len]; exact (List.getElem?_eq_some_iff.mp hi).1
  have cne := I.cne
  have tracked : ∀ {a : Addr} {h' : Heap}, (∃ o, s.heap.get? a = some o ∧ H a = none) → Heap.SameBut a s.heap h' → HOk X.prog X.w H h' := fun {a h'} ha hs b ob e => by
    obtain ⟨_, _, hfree⟩ := ha
    refine (I.hok b ob e).stay (fun c w' hc q => (hs.2 c ?_).trans q) (fun _ q => q) fun _ _ q => q
    rintro rfl
    rcases hc with rfl | hc
    · rw [hfree] at e; cases e
    · rw [hfree] at hc; cases hc
  rcases hx with hk | hk
  · refine wpAny_storeName_local hk hn (fun h' hn' hs => ?_) hcls
    obtain ⟨oL, _, _, hoL, _⟩ := id hn
    refine h _ ⟨I.ok, I.os, I.bare, ⟨fun b o e n hb hx => ?_, fun b o e n hb hx => ?_, I.base.free, fun b o e hx => ?_, I.base.tups, I.base.frzs, I.base.tbls⟩, ⟨_, hn', fun j y v' e1 e2 e3 => ?_⟩, fun y c e => ?_, I.free, I.freeC, fun p hp => ?_, tracked ⟨oL, hoL, I.free⟩ hs, by simpa using I.len⟩ ⟨_, hs, .inl rfl⟩
    · exact (hs.2 b (Nat.ne_of_lt (Nat.lt_of_lt_of_le (Heap.lt_size e) I.ok.above))).trans (I.base.keep b o e n hb hx)
    · obtain ⟨sl, e1⟩ := I.base.slot b o e n hb hx
      exact ⟨sl, (hs.2 b (Nat.ne_of_lt (Nat.lt_of_lt_of_le (Heap.lt_size e) I.ok.above))).trans e1⟩
    · obtain ⟨o', e1⟩ := I.base.there b o e hx
      exact ⟨o', (hs.2 b (Nat.ne_of_lt (Nat.lt_of_lt_of_le (Heap.lt_size e) I.ok.above))).trans e1⟩
    · by_cases hj : j = i
      · subst hj
        rw [hi] at e1; cases e1
        rw [List.getElem?_set_self hiσ] at e2
        cases e2
        exact ⟨u, r, .inl ⟨hk, by simp⟩⟩
      · rw [List.getElem?_set_ne (Ne.symm hj)] at e2
        obtain ⟨u', r', q⟩ := hl j y v' e1 e2 e3
        refine ⟨u', r', ?_⟩
        rcases q with ⟨k, e⟩ | ⟨k, c, e, z⟩
        · refine .inl ⟨k, ?_⟩
          have : y ≠ x := fun e => hj (nodup_ix hN e1 (e ▸ hi))
          simp [this, e]
        · exact .inr ⟨k, c, e, z.sameBut hs (cne y c e)⟩
    · obtain ⟨w', z⟩ := I.cell y c e
      exact ⟨w', z.sameBut hs (cne y c e)⟩
    · obtain ⟨e, n, ne, nf, d⟩ := I.pin p hp
      exact ⟨(hs.2 p.1 ne).trans e, n, ne, nf, d⟩
  · have hfn : X.fn x = true := by
      rcases hf with z | z
      · exact z
      · rw [z] at hk; cases hk
    obtain ⟨c, hc⟩ := I.ok.has x (.inl hk)
    obtain ⟨w', z⟩ := I.cell x c hc
    refine wpAny_storeName_cell I.ok.kind hk hc z (fun h' hc' hs => ?_)
    obtain ⟨oc, hoc, hocd⟩ := id z
    refine h { s with heap := h' } ⟨I.ok, I.os, I.bare, ⟨fun b o e n hb hx => ?_, fun b o e n hb hx => ?_, I.base.free, fun b o e hx => ?_, I.base.tups, I.base.frzs, I.base.tbls⟩, ⟨m, hn.sameBut hs (Ne.symm (cne x c hc)), fun j y v' e1 e2 e3 => ?_⟩, fun y c' e => ?_, I.free, I.freeC, fun p hp => ?_, tracked ⟨oc, hoc, I.freeC x c hc⟩ hs, by simpa using I.len⟩ ⟨c, hs, .inr hc⟩
    · exact (hs.2 b (Nat.ne_of_lt (Nat.lt_of_lt_of_le (Heap.lt_size e) (I.ok.cab x c hfn hc)))).trans (I.base.keep b o e n hb hx)
    · obtain ⟨sl, e1⟩ := I.base.slot b o e n hb hx
      exact ⟨sl, (hs.2 b (Nat.ne_of_lt (Nat.lt_of_lt_of_le (Heap.lt_size e) (I.ok.cab x c hfn hc)))).trans e1⟩
    · obtain ⟨o', e1⟩ := I.base.there b o e hx
      exact ⟨o', (hs.2 b (Nat.ne_of_lt (Nat.lt_of_lt_of_le (Heap.lt_size e) (I.ok.cab x c hfn hc)))).trans e1⟩
    · by_cases hj : j = i
      · subst hj
        rw [hi] at e1; cases e1
        rw [List.getElem?_set_self hiσ] at e2
        cases e2
        exact ⟨u, r, .inr ⟨.inl hk, c, hc, hc'⟩⟩
      · rw [List.getElem?_set_ne (Ne.symm hj)] at e2
        obtain ⟨u', r', q⟩ := hl j y v' e1 e2 e3
        refine ⟨u', r', ?_⟩
        rcases q with q | ⟨k, c', e, z'⟩
        · exact .inl q
        · refine .inr ⟨k, c', e, z'.sameBut hs ?_⟩
          rintro rfl
          exact hj (nodup_ix hN e1 (I.ok.inj _ _ _ e hc ▸ hi))
    · by_cases hcc : c' = c
      · subst hcc; exact ⟨_, hc'⟩
      · obtain ⟨w2, z2⟩ := I.cell y c' e
        exact ⟨w2, z2.sameBut hs hcc⟩
    · obtain ⟨e, n, ne, nf, d⟩ := I.pin p hp
      refine ⟨(hs.2 p.1 ?_).trans e, n, ne, nf, d⟩
      intro q
      rw [q, hoc] at e
      have q' : oc = p.2 := Option.some.inj e
      exact d w' (by rw [← q']; exact hocd)
theorem store_ok {M : Model} {A : Around} {E : Value → Shared → Prop} {i : Nat} {x : Str} {v : V} {u : Value} {Q : Unit → Shared → Prop} (I : Inv X pins σ H s) (hN : X.N.Nodup) (hi : X.N[i]? = some x) (hx : Loc X.env.scope x) (r : RelV v u)
    (h : ∀ s', Inv X pins (σ.set i (some v)) H s' → Q () s') (hf : X.fn x = true ∨ X.env.scope.names.lookup x = some .local := by first | exact .inl rfl | exact .inr rfl | assumption) : wpAny M A (storeName X.env x u) Q E s :=
  store_ok2 I hN hi hx r (fun s' I' _ => h s' I') hf
/-- behind a call or a block, the state as it is -/
theorem Inv.call' {s' : Shared} {ch : List Addr} (I : Inv X pins σ H s) (ho : s'.os = s.os) (u : Un (frs X.stack) ch H H' s.heap s'.heap) (hok : HOk X.prog X.w H' s'.heap) (hg : AllBare s'.gens)
    (hch : ∀ b ∈ ch, (b ∈ X.ex ∨ X.s₀.heap.objs.size ≤ b) ∧ b ≠ X.env.locals ∧ (∀ x c, X.env.cells.lookup x = some c → c ≠ b) ∧ ∀ p ∈ X.pn ++ pins, p.1 ≠ b) : Inv X pins σ H' s' := by
  obtain ⟨h', g', d', t', o'⟩ := s'
  have e : o' = s.os := ho
  subst e
  exact I.call (g' := g') (t' := t') (d' := d') u hok hg hch
end

/-! ### the judgements -/
/-- an exception: its class, its own dict's address (where it has one), the abstract heap behind it -/
abbrev XK := Value → Option Addr → Hp → Prop
abbrev St := List (Option V)
abbrev VK := V → Hp → Prop
/-- an expression's reading; a test's; an argument list's -/
abbrev TE := St → Hp → VK → Prop
abbrev TT := St → Hp → (Bool → Hp → Prop) → Prop
abbrev TA := St → Hp → (List V → Hp → Prop) → Prop
/-- what is wanted behind a statement -/
structure Ends where
  nx : St → Hp → Prop
  rt : VK
  bk : St → Hp → Prop := fun _ _ => False
  ct : St → Hp → Prop := fun _ _ => False
abbrev TS := Ends → St → Hp → Prop

def EP (X : Cx) (pins : List (Addr × Obj)) (σ : St) (Q : VK) (u : Value) (s' : Shared) : Prop := ∃ v H', Inv X pins σ H' s' ∧ RelV v u ∧ Q v H'
def TP (X : Cx) (pins : List (Addr × Obj)) (σ : St) (Q : Bool → Hp → Prop) (b : Bool) (s' : Shared) : Prop := ∃ H', Inv X pins σ H' s' ∧ Q b H'
def AP (X : Cx) (pins : List (Addr × Obj)) (σ : St) (Q : List V → Hp → Prop) (us : List Value) (s' : Shared) : Prop := ∃ vs H', Inv X pins σ H' s' ∧ Vals vs us ∧ Q vs H'
def SP (X : Cx) (pins : List (Addr × Obj)) (D : Ends) (f : Flow) (s' : Shared) : Prop :=
  match f with
  | .next => ∃ σ' H', Inv X pins σ' H' s' ∧ D.nx σ' H'
  | .brk => ∃ σ' H', Inv X pins σ' H' s' ∧ D.bk σ' H'
  | .cont => ∃ σ' H', Inv X pins σ' H' s' ∧ D.ct σ' H'
  | .ret u => ∃ v σ' H', Inv X pins σ' H' s' ∧ RelV v u ∧ D.rt v H'

def PE (X : Cx) (e : Expr) (t : TE) : Prop :=
  ∀ (pins : List (Addr × Obj)) (s : Shared) (σ : St) (H : Hp) (Q : VK), Inv X pins σ H s → t σ H Q → wpAny (model X.prog X.w) X.A (eval e X.env) (EP X pins σ Q) X.xe s
def PT (X : Cx) (e : Expr) (t : TT) : Prop :=
  ∀ (pins : List (Addr × Obj)) (s : Shared) (σ : St) (H : Hp) (Q : Bool → Hp → Prop), Inv X pins σ H s → t σ H Q → wpAny (model X.prog X.w) X.A (isTrue e X.env (eval e X.env)) (TP X pins σ Q) X.xe s
/-- a test whatever its 'whole' is (and, or) -/
def PW (X : Cx) (e : Expr) (t : TT) : Prop :=
  ∀ (whole : Sem Value) (pins : List (Addr × Obj)) (s : Shared) (σ : St) (H : Hp) (Q : Bool → Hp → Prop), Inv X pins σ H s → t σ H Q → wpAny (model X.prog X.w) X.A (isTrue e X.env whole) (TP X pins σ Q) X.xe s
theorem PW.pt {X : Cx} {e : Expr} {t : TT} (h : PW X e t) : PT X e t := h _
/-- an argument list (no star), from the left -/
def PA (X : Cx) (es : List Expr) (t : TA) : Prop :=
  ∀ (pos : Pos) (pins : List (Addr × Obj)) (s : Shared) (σ : St) (H : Hp) (Q : List V → Hp → Prop), Inv X pins σ H s → t σ H Q → wpAny (model X.prog X.w) X.A (spliced (backTo pos (starEach es X.env))) (AP X pins σ Q) X.xe s
def PS (X : Cx) (st : Stmt) (t : TS) : Prop :=
  ∀ (pins : List (Addr × Obj)) (s : Shared) (σ : St) (H : Hp) (D : Ends), Inv X pins σ H s → t D σ H → wpAny (model X.prog X.w) X.A (exec st X.env) (SP X pins D) X.xe s
def PSs (X : Cx) (st : List Stmt) (t : TS) : Prop :=
  ∀ (pins : List (Addr × Obj)) (s : Shared) (σ : St) (H : Hp) (D : Ends), Inv X pins σ H s → t D σ H → wpAny (model X.prog X.w) X.A (execs st X.env) (SP X pins D) X.xe s
/-- weaken the end -/
theorem thn {α : Type} {t : Sem α} {Q Q' : α → Shared → Prop} {M : Model} {A : Around} {E : Value → Shared → Prop} {s : Shared} (h : wpAny M A t Q E s) (hQ : ∀ a s, Q a s → Q' a s) : wpAny M A t Q' E s := wpAny_mono h hQ fun _ _ x => x
end L2

namespace L2
open PySem PySem.Spec PyProof.Rows
section
variable {X : Cx}

/-! ### names and constants -/
def tVar (i : Nat) : TE := fun σ H Q => ∃ v, σ[i]? = some (some v) ∧ Q v H
def tC (v : V) : TE := fun _ H Q => Q v H
theorem pe_var {i : Nat} {x : Str} {pos : Pos} (hN : X.N[i]? = some x) (hv : Vis X.env.scope x) (hd : (x == ("__debug__" : Str)) = false := by decide) (hcd : (x == ("__classdict__" : Str)) = false := by decide) : PE X (.Name x pos) (tVar i) := by
  intro pins s σ H Q I h
  obtain ⟨v, e, h⟩ := h
  obtain ⟨m, hn, hl⟩ := I.loc
  obtain ⟨u, r, l⟩ := hl i x v hN e hv
  have fin : EP X pins σ Q u s := ⟨v, H, I, r, h⟩
  rcases l with ⟨hk, hm⟩ | ⟨hk, c, hc, hcell⟩
  · exact wpAny_Name (wpAny_loadName_local I.ok.kind hk hn hm fin) hd
  · rcases hk with hk | hk
    · exact wpAny_Name (wpAny_loadName_cell I.ok.kind hk hc hcell fin) hd
    · exact wpAny_Name (wpAny_loadName_free I.ok.kind hk hc hcell fin hcd) hd
theorem pe_int {i j pos} : PE X (.Constant (.int i) j pos) (tC (.int i)) := fun _ _ _ H _ I h => wpAny_Constant_int ⟨.int i, H, I.tok _, ⟨_, rfl⟩, h⟩
theorem pe_bl {b j pos} : PE X (.Constant (.bool b) j pos) (tC (.bl b)) := fun _ _ _ H _ I h => Constant_bool ⟨.bl b, H, I, rfl, h⟩
theorem pe_non {j pos} : PE X (.Constant .none j pos) (tC .non) := fun _ _ _ H _ I h => Constant_none ⟨.non, H, I, rfl, h⟩
theorem pe_str {x j pos} : PE X (.Constant (.str x) j pos) (tC (.str x)) := fun _ _ _ H _ I h => Calls.Constant_str ⟨.str x, H, I.tok _, ⟨_, rfl⟩, h⟩

/-- a global name of the def -/
def Gl (X : Cx) (x : Str) : Prop := X.env.kindOf x = some .globalImplicit
theorem ld_glob {E : Value → Shared → Prop} {pins : List (Addr × Obj)} {s : Shared} {σ : St} {H : Hp} {x : Str} {u : Value} {pos : Pos} {Q : Value → Shared → Prop} (I : Inv X pins σ H s) (hg : Gl X x) (hm : X.mg x = some u) (h : Q u s)
    (hd : (x == ("__debug__" : Str)) = false := by decide) : wpAny (model X.prog X.w) X.A (eval (.Name x pos) X.env) Q E s :=
  Calls.Name_function_global I.ok.kind hg (Calls.loadGlobal_global (by rw [I.ok.glob]; exact I.mod.glob.keeps I.bk) hm h) hd
theorem ld_blt {E : Value → Shared → Prop} {pins : List (Addr × Obj)} {s : Shared} {σ : St} {H : Hp} {x : Str} {u : Value} {pos : Pos} {Q : Value → Shared → Prop} (I : Inv X pins σ H s) (hg : Gl X x) (hm : X.mg x = none) (hv : bootBuiltins x = some u) (h : Q u s)
    (hn : x ≠ "__name__" := by decide) (hd : (x == ("__debug__" : Str)) = false := by decide) : wpAny (model X.prog X.w) X.A (eval (.Name x pos) X.env) Q E s := by
  obtain ⟨mb, h1, h2⟩ := I.mod.blt
  exact Calls.Name_function_global I.ok.kind hg (Calls.loadGlobal_builtin (by rw [I.ok.glob]; exact I.mod.glob.keeps I.bk) hm (by rw [I.ok.blt]; exact h1.keeps I.bk) ((h2 x hn).trans hv) h) hd
/-- a module's constant, a class, a function, as a value -/
theorem pe_glob {x : Str} {v : V} {u : Value} {pos : Pos} (hg : Gl X x) (hm : X.mg x = some u) (r : RelV v u) (hd : (x == ("__debug__" : Str)) = false := by decide) : PE X (.Name x pos) (tC v) :=
  fun _ _ _ H _ I h => ld_glob I hg hm ⟨v, H, I, r, h⟩ hd
theorem pe_bltn {x : Str} {v : V} {u : Value} {pos : Pos} (hg : Gl X x) (hm : X.mg x = none) (hv : bootBuiltins x = some u) (r : RelV v u) (hn : x ≠ "__name__" := by decide) (hd : (x == ("__debug__" : Str)) = false := by decide) : PE X (.Name x pos) (tC v) :=
  fun _ _ _ H _ I h => ld_blt I hg hm hv ⟨v, H, I, r, h⟩ hn hd

/-! ### arithmetic -/
variable {a b : Expr} {ta tb : TE} {pos : Pos}
/-! ### comparisons -/
/-- a comparison as a value, as a test -/
def tB (t : TE) : TT := fun σ H Q => t σ H fun x H1 => ∃ c, x = .bl c ∧ Q c H1
/-- an expression whose value is a bool, as a test -/
theorem pt_val {e : Expr} {t : TE} (h : PE X e t) (he : ∀ whole, isTrue e X.env whole = (do let v ← whole; standAt e.pos; holding [v] (truthy v)) := by intro _; rfl) : PT X e (tB t) := by
  intro pins s σ H Q I hw
  refine isTrue_plain (thn (h pins s σ H _ I hw) fun v s1 ⟨x, H1, I1, r1, q1⟩ => ?_) (he _)
  obtain ⟨d, rfl, q⟩ := q1
  cases r1
  exact wpAny_truthy_bool ⟨H1, I1, q⟩

/-! ### and, or, not -/
variable {tA tB' : TT} {rest : List Expr}
def tAnd (t u : TT) : TT := fun σ H Q => t σ H fun c H1 => if c = true then u σ H1 Q else Q false H1
def tOr (t u : TT) : TT := fun σ H Q => t σ H fun c H1 => if c = true then Q true H1 else u σ H1 Q
def tNot (t : TT) : TT := fun σ H Q => t σ H fun c H1 => Q (!c) H1
theorem pw_and1 (ha : PT X a tA) : PW X (.BoolOp .And [a] pos) tA := by
  intro wh pins s σ H Q I h
  refine isTrue_and (thn (ha pins s σ H Q I h) fun c s1 e => ?_)
  cases c with
  | true => exact isTrue_and_nil e
  | false => exact e
theorem pw_or1 (ha : PT X a tA) : PW X (.BoolOp .Or [a] pos) tA := by
  intro wh pins s σ H Q I h
  refine isTrue_or (thn (ha pins s σ H Q I h) fun c s1 e => ?_)
  cases c with
  | false => exact isTrue_or_nil e
  | true => exact e
theorem pw_and (ha : PT X a tA) (hb : PW X (.BoolOp .And (b :: rest) pos) tB') : PW X (.BoolOp .And (a :: b :: rest) pos) (tAnd tA tB') := by
  intro wh pins s σ H Q I h
  refine isTrue_and (thn (ha pins s σ H _ I h) fun c s1 ⟨H1, I1, q1⟩ => ?_)
  cases c with
  | true => exact hb wh pins s1 σ H1 Q I1 q1
  | false => exact ⟨H1, I1, q1⟩
theorem pw_or (ha : PT X a tA) (hb : PW X (.BoolOp .Or (b :: rest) pos) tB') : PW X (.BoolOp .Or (a :: b :: rest) pos) (tOr tA tB') := by
  intro wh pins s σ H Q I h
  refine isTrue_or (thn (ha pins s σ H _ I h) fun c s1 ⟨H1, I1, q1⟩ => ?_)
  cases c with
  | true => exact ⟨H1, I1, q1⟩
  | false => exact hb wh pins s1 σ H1 Q I1 q1
theorem pt_not (ha : PT X a tA) : PT X (.UnaryOp .Not a pos) (tNot tA) := by
  intro pins s σ H Q I h
  exact isTrue_not (ha pins s σ H (fun c H1 => Q (!c) H1) I h)
/-- .. as values (bools) -/
def tAndV (ta tb : TE) : TE := fun σ H Q => ta σ H fun x H1 => ∃ c, x = .bl c ∧ if c = true then tb σ H1 Q else Q (.bl false) H1
def tOrV (ta tb : TE) : TE := fun σ H Q => ta σ H fun x H1 => ∃ c, x = .bl c ∧ if c = true then Q (.bl true) H1 else tb σ H1 Q
def tNotV (ta : TE) : TE := fun σ H Q => ta σ H fun x H1 => ∃ c, x = .bl c ∧ Q (.bl (!c)) H1
theorem pe_one {op} {t : TE} (h : PE X a t) : PE X (.BoolOp op [a] pos) t := fun pins s σ H Q I hw => BoolOp_one (h pins s σ H Q I hw)
theorem pe_and (ha : PE X a ta) (hb : PE X (.BoolOp .And (b :: rest) pos) tb) : PE X (.BoolOp .And (a :: b :: rest) pos) (tAndV ta tb) := by
  intro pins s σ H Q I h
  refine BoolOp_and (thn (ha pins s σ H _ I h) fun v s1 ⟨x, H1, I1, r1, q1⟩ => ?_)
  obtain ⟨c, rfl, q1⟩ := q1
  cases r1
  refine wpAny_truthy_bool ?_
  cases c with
  | true => exact hb pins s1 σ H1 Q I1 q1
  | false => exact ⟨.bl false, H1, I1, rfl, q1⟩
theorem pe_or (ha : PE X a ta) (hb : PE X (.BoolOp .Or (b :: rest) pos) tb) : PE X (.BoolOp .Or (a :: b :: rest) pos) (tOrV ta tb) := by
  intro pins s σ H Q I h
  refine BoolOp_or (thn (ha pins s σ H _ I h) fun v s1 ⟨x, H1, I1, r1, q1⟩ => ?_)
  obtain ⟨c, rfl, q1⟩ := q1
  cases r1
  refine wpAny_truthy_bool ?_
  cases c with
  | false => exact hb pins s1 σ H1 Q I1 q1
  | true => exact ⟨.bl true, H1, I1, rfl, q1⟩
theorem pe_not (ha : PE X a ta) : PE X (.UnaryOp .Not a pos) (tNotV ta) := by
  intro pins s σ H Q I h
  refine UnaryOp_ (thn (ha pins s σ H _ I h) fun v s1 ⟨x, H1, I1, r1, q1⟩ => ?_)
  obtain ⟨c, rfl, q1⟩ := q1
  cases r1
  exact not_of (wpAny_truthy_bool ⟨.bl (!c), H1, I1, rfl, q1⟩)
end
end L2

namespace L2
open PySem PySem.Spec PyProof.Rows

/-! ### a list, a tuple that is read: tracked, frozen, or an object of the module -/
def SqL (K : PySem.W.Frag) (H : Hp) (a : Addr) (xs : List V) : Prop :=
  Rd H a (.lst xs) ∨
    ∃ (o : Obj) (its : Array Value) (n : Nat), K.lookup a = some o ∧ o.cls = .type "list" ∧ o.dict = none ∧ o.data = .seq its n ∧ its.size ≤ sizeLine ∧ Vals xs its.toList
def SqT (K : PySem.W.Frag) (H : Hp) (a : Addr) (xs : List V) : Prop :=
  Rd H a (.tup xs) ∨
    ∃ (o : Obj) (its : Array Value) (n : Nat), K.lookup a = some o ∧ o.cls = .type "tuple" ∧ o.data = .seq its n ∧ its.size ≤ sizeLine ∧ Vals xs its.toList
section
variable {X : Cx} {pins : List (Addr × Obj)} {σ : St} {H : Hp} {s : Shared} {a : Addr} {xs ys : List V}
theorem SqL.of {K : PySem.W.Frag} (h : H a = some (.lst xs)) : SqL K H a xs := .inl (.inl h)
theorem SqT.of {K : PySem.W.Frag} (h : H a = some (.tup xs)) : SqT K H a xs := .inl (.inl h)
theorem Inv.list (I : Inv X pins σ H s) (h : SqL X.K H a xs) : ∃ its : List Value, Vals xs its ∧ PlainL s.heap a its.toArray ∧ xs.length ≤ sizeLine := by
  rcases h with h | ⟨o, its, n, hk, hc, hd, hs, hz, r⟩
  · obtain ⟨z, its, n, r, e⟩ := h.ok I.hok
    exact ⟨its, r, ⟨_, n, e, rfl, rfl, rfl⟩, z⟩
  · refine ⟨its.toList, r, ⟨o, n, I.kIn a o hk, hc, hd, by simpa using hs⟩, ?_⟩
    have e := r.length
    simp only [Array.length_toList] at e
    omega
theorem Inv.tuple (I : Inv X pins σ H s) (h : SqT X.K H a xs) : ∃ its : List Value, Vals xs its ∧ IsTup s.heap a its.toArray ∧ xs.length ≤ sizeLine := by
  rcases h with h | ⟨o, its, n, hk, hc, hs, hz, r⟩
  · obtain ⟨z, its, r, p⟩ := h.ok I.hok
    exact ⟨its, r, p, z⟩
  · refine ⟨its.toList, r, ⟨o, I.kIn a o hk, hc, n, by simpa using hs⟩, ?_⟩
    have e := r.length
    simp only [Array.length_toList] at e
    omega
end

/-! ### another wish about exceptions -/
abbrev Cx.wish (X : Cx) (E : Value → Shared → Prop) : Cx := { X with xe := E }
/-- no exception leaves -/
abbrev Cx.nox (X : Cx) : Cx := X.wish fun _ _ => False
theorem Cx.Ok.wish {X : Cx} (ok : X.Ok) (E : Value → Shared → Prop) : (X.wish E).Ok :=
  ⟨ok.mod, ok.kind, ok.glob, ok.blt, ok.above, ok.inj, ok.has, ok.cab, ok.hd, ok.frames, ok.stk, ok.exf, ok.bs, ok.bsz, ok.noex, ok.exfs, ok.funs, ok.frf⟩
theorem Cx.Ok.unwish {X : Cx} {E : Value → Shared → Prop} (ok : (X.wish E).Ok) : X.Ok :=
  ⟨ok.mod, ok.kind, ok.glob, ok.blt, ok.above, ok.inj, ok.has, ok.cab, ok.hd, ok.frames, ok.stk, ok.exf, ok.bs, ok.bsz, ok.noex, ok.exfs, ok.funs, ok.frf⟩
section
variable {X : Cx} {pins : List (Addr × Obj)} {σ : St} {H : Hp} {s : Shared} {E : Value → Shared → Prop}
theorem Inv.wish (I : Inv X pins σ H s) (E : Value → Shared → Prop) : Inv (X.wish E) pins σ H s := ⟨I.ok.wish E, I.os, I.bare, I.base, I.loc, I.cell, I.free, I.freeC, I.pin, I.hok, I.len⟩
theorem Inv.unwish (I : Inv (X.wish E) pins σ H s) : Inv X pins σ H s := ⟨I.ok.unwish, I.os, I.bare, I.base, I.loc, I.cell, I.free, I.freeC, I.pin, I.hok, I.len⟩
theorem SP.unwish {D : Ends} {f : Flow} {s' : Shared} (h : SP (X.wish E) pins D f s') : SP X pins D f s' := by
  cases f with
  | next => obtain ⟨σ', H', I, q⟩ := h; exact ⟨σ', H', I.unwish, q⟩
  | brk => obtain ⟨σ', H', I, q⟩ := h; exact ⟨σ', H', I.unwish, q⟩
  | cont => obtain ⟨σ', H', I, q⟩ := h; exact ⟨σ', H', I.unwish, q⟩
  | ret u => obtain ⟨v, σ', H', I, r, q⟩ := h; exact ⟨v, σ', H', I.unwish, r, q⟩
theorem PSs.nox {st : List Stmt} {t : TS} (h : PSs X.nox st t) : PSs X st t := fun pins s σ H D I hw =>
  wpAny_mono (h pins s σ H D (I.wish _) hw) (fun _ _ q => q.unwish) fun _ _ z => False.elim z
end

/-! ### blocks and small statements -/
section
variable {X : Cx} {st : Stmt} {rest : List Stmt} {t u : TS} {e : Expr} {te : TE} {pos : Pos}
def tNext : TS := fun D σ H => D.nx σ H
def tSeq (t u : TS) : TS := fun D σ H => t { D with nx := u D } σ H
theorem pss_nil : PSs X [] tNext := fun _ _ σ H _ I h => wpAny_execs_nil ⟨σ, H, I, h⟩
theorem pss_cons (h1 : PS X st t) (h2 : PSs X rest u) : PSs X (st :: rest) (tSeq t u) := by
  intro pins s σ H D I h
  refine wpAny_execs_cons (thn (h1 pins s σ H { D with nx := u D } I h) fun f s1 q => ?_)
  cases f with
  | next =>
    obtain ⟨σ', H', I', q⟩ := q
    exact h2 pins s1 σ' H' D I' q
  | ret v => exact q
  | brk => exact q
  | cont => exact q
theorem pss_one (h1 : PS X st t) : PSs X [st] t := by
  intro pins s σ H D I h
  refine wpAny_execs_cons (thn (h1 pins s σ H D I h) fun f s1 q => ?_)
  cases f with
  | next => exact wpAny_execs_nil q
  | ret v => exact q
  | brk => exact q
  | cont => exact q
def tRet (te : TE) : TS := fun D σ H => te σ H D.rt
theorem ps_ret (he : PE X e te) : PS X (.Return (some e) pos) (tRet te) := by
  intro pins s σ H D I h
  exact wpAny_Return_some (thn (he pins s σ H _ I h) fun v s1 ⟨x, H1, I1, r1, q1⟩ => ⟨x, σ, H1, I1, r1, q1⟩)
def tIfS (c : TT) (t u : TS) : TS := fun D σ H => c σ H fun b H1 => if b = true then t D σ H1 else u D σ H1
theorem ps_if {c : Expr} {a b : List Stmt} {tc : TT} (hc : PT X c tc) (ha : PSs X a t) (hb : PSs X b u) : PS X (.If c a b pos) (tIfS tc t u) := by
  intro pins s σ H D I h
  refine wpAny_If (thn (hc pins s σ H _ I h) fun d s1 ⟨H1, I1, q1⟩ => ?_)
  cases d with
  | true => exact ha pins s1 σ H1 D I1 q1
  | false => exact hb pins s1 σ H1 D I1 q1
end

/-! ### targets -/
abbrev TG := V → St → Hp → (St → Hp → Prop) → Prop
abbrev TGs := List V → St → Hp → (St → Hp → Prop) → Prop
def PG (X : Cx) (target : Expr) (t : TG) : Prop :=
  ∀ (pins : List (Addr × Obj)) (s : Shared) (σ : St) (H : Hp) (v : V) (u : Value) (Q : St → Hp → Prop), Inv X pins σ H s → RelV v u → t v σ H Q →
    wpAny (model X.prog X.w) X.A (assign target X.env u) (fun _ s' => ∃ σ' H', Inv X pins σ' H' s' ∧ Q σ' H') X.xe s
/-- several targets, one after another -/
def PGs (X : Cx) (ts : List Expr) (t : TGs) : Prop :=
  ∀ (pins : List (Addr × Obj)) (s : Shared) (σ : St) (H : Hp) (vs : List V) (us : List Value) (Q : St → Hp → Prop), Inv X pins σ H s → Vals vs us → t vs σ H Q →
    wpAny (model X.prog X.w) X.A (assignInOrder ((assignEach ts X.env).map (·.2)) us) (fun _ s' => ∃ σ' H', Inv X pins σ' H' s' ∧ Q σ' H') X.xe s
section
variable {X : Cx} {pos : Pos}
def gName (i : Nat) : TG := fun v σ H Q => Q (σ.set i (some v)) H
theorem pg_name {i : Nat} {x : Str} (hN : X.N.Nodup) (hi : X.N[i]? = some x) (hx : Loc X.env.scope x) (hf : X.fn x = true ∨ X.env.scope.names.lookup x = some .local := by first | exact .inl rfl | exact .inr rfl | assumption) : PG X (.Name x pos) (gName i) := by
  intro pins s σ H v u Q I r h
  exact wpAny_assign_Name (store_ok I hN hi hx r (fun s' I' => ⟨_, H, I', h⟩) hf)
def gNil : TGs := fun vs σ H Q => vs = [] ∧ Q σ H
def gCons (t : TG) (u : TGs) : TGs := fun vs σ H Q => ∃ v r, vs = v :: r ∧ t v σ H fun σ' H' => u r σ' H' Q
theorem pgs_nil : PGs X [] gNil := by
  intro pins s σ H vs us Q I r h
  obtain ⟨e, h⟩ := h
  subst e
  cases r
  exact assignInOrder_nil ⟨σ, H, I, h⟩
theorem pgs_cons {e : Expr} {es : List Expr} {t : TG} {u : TGs} (h1 : PG X e t) (h2 : PGs X es u)
    (hs : (assignEach (e :: es) X.env).map (·.2) = assign e X.env :: (assignEach es X.env).map (·.2) := by rfl) : PGs X (e :: es) (gCons t u) := by
  intro pins s σ H vs us Q I r h
  obtain ⟨v, vr, e1, h⟩ := h
  subst e1
  cases r with
  | cons r rr =>
    rw [hs]
    refine assignInOrder_cons (thn (h1 pins s σ H _ _ _ I r h) fun _ s1 ⟨σ1, H1, I1, q1⟩ => ?_)
    exact h2 pins s1 σ1 H1 _ _ Q I1 rr q1
/-- (a, b, ..) = a tuple of that length -/
def gTup (K : PySem.W.Frag) (n : Nat) (t : TGs) : TG := fun v σ H Q => ∃ a xs, v = .ref a ∧ SqT K H a xs ∧ xs.length = n ∧ t xs σ H Q
theorem pg_tup {es : List Expr} {k : Nat} {t : TGs} {n : Nat} (hc : X.calm = true) (h : PGs X es t)
    (hn : (assignEach es X.env).length = n := by rfl) (hst : (assignEach es X.env).findIdx? (·.1) = none := by rfl) : PG X (.Tuple es k pos) (gTup X.K n t) := by
  intro pins s σ H v u Q I r hw
  obtain ⟨a, xs, e1, hq, hl, hw⟩ := hw
  subst e1
  cases r
  obtain ⟨its, rv, ht, hz⟩ := I.tuple hq
  refine assign_Tuple_tuple (I.ok.hd hc) ht (by simp [hn, ← hl, rv.length]) hst fun h' hx => ?_
  have I1 : Inv X pins σ H { s with heap := h' } := I.kept (t' := s.toks) fun b o e => hx b o (Nat.ne_of_lt (Heap.lt_size e)) e
  exact h pins _ σ H xs _ Q I1 (by simpa using rv) hw
/-- target = value -/
def tAsg (te : TE) (g : TG) : TS := fun D σ H => te σ H fun x H1 => g x σ H1 D.nx
theorem ps_asg {tg e : Expr} {te : TE} {g : TG} (he : PE X e te) (hg : PG X tg g) (hs : swapsWithSole [tg] e pos.line X.env = pure false := by rfl) (hw : swappedStores [tg] e X.env = pure none := by rfl)
    (h1 : (assignEach [tg] X.env).map (·.2) = [assign tg X.env] := by rfl) : PS X (.Assign [tg] e pos) (tAsg te g) := by
  intro pins s σ H D I h
  refine wpAny_Assign_stores (thn (he pins s σ H _ I h) fun v s1 ⟨x, H1, I1, r1, q1⟩ => ?_) hs hw
  rw [h1]
  exact thn (hg pins s1 σ H1 x v _ I1 r1 q1) fun _ s2 q => q
/-- name = value -/
theorem ps_set {i : Nat} {x : Str} {e : Expr} {te : TE} {pos' : Pos} (hN : X.N.Nodup) (hi : X.N[i]? = some x) (hx : Loc X.env.scope x) (he : PE X e te) (hs : swapsWith e (some (.Name x pos')) pos.line X.env = pure false := by rfl) (hf : X.fn x = true ∨ X.env.scope.names.lookup x = some .local := by first | exact .inl rfl | exact .inr rfl | assumption) :
    PS X (.Assign [.Name x pos'] e pos) (tAsg te (gName i)) := by
  intro pins s σ H D I h
  refine wpAny_Assign_Name (thn (he pins s σ H _ I h) fun v s1 ⟨y, H1, I1, r1, q1⟩ => ?_) hs
  exact store_ok I1 hN hi hx r1 (fun s2 I2 => ⟨_, H1, I2, q1⟩) hf
end

/-! ### while -/
section
variable {X : Cx} {pos : Pos}
end

/-! ### what a loop or a comprehension walks -/
/-- at turn i: it yields x (the heap may grow), or it stops -/
structure It where
  go : Nat → Hp → Prop
  yld : Nat → Hp → V → Hp → Prop
  stop : Nat → Hp → Prop
/-- the iterator's own objects may turn: they are not the frame's, not pinned, younger than the entry (or a comprehension's own) -/
def FpOk (X : Cx) (pins : List (Addr × Obj)) (H : Hp) (b : Addr) : Prop :=
  H b = none ∧ b ≠ X.env.locals ∧ b ∉ X.fs ∧ (b ∈ X.ex ∨ X.s₀.heap.objs.size ≤ b) ∧ (∀ x c, X.env.cells.lookup x = some c → c ≠ b) ∧ ∀ p ∈ X.pn ++ pins, p.1 ≠ b
theorem Inv.fpOk {X : Cx} {pins : List (Addr × Obj)} {σ : St} {H H' : Hp} {s : Shared} {b : Addr} (I : Inv X pins σ H s) (hb : s.heap.objs.size ≤ b) (hn : H' b = none) : FpOk X pins H' b := by
  refine ⟨hn, Nat.ne_of_gt (Nat.lt_of_lt_of_le I.lt hb), I.nofs hb, .inr (Nat.le_trans I.sz hb), fun x c e z => ?_, fun p hp z => ?_⟩
  · obtain ⟨v, q⟩ := I.cell x c e
    exact absurd (Nat.lt_of_lt_of_le q.lt (by rw [z]; exact hb)) (Nat.lt_irrefl _)
  · exact absurd (Nat.lt_of_lt_of_le (Heap.lt_size (I.pin p hp).1) (by rw [z]; exact hb)) (Nat.lt_irrefl _)
structure Turn (P : Program) (w : World) (K : PySem.W.Frag) (tg : Expr) (J : It) (fp : List Addr) (it : Addr) (tn : Nat → Heap → Prop) : Prop where
  mem : it ∈ fp
  obj : ∀ i h, tn i h → ∀ b ∈ fp, ∃ o, h.get? b = some o ∧ ∀ v, o.data ≠ .cell v
  keep : ∀ i h h', tn i h → (∀ b ∈ fp, ∀ o, h.get? b = some o → h'.get? b = some o) → tn i h'
  item : ∀ (X : Cx), X.prog = P → X.w = w → X.K = K → X.calm = true → ∀ (i : Nat) (pins : List (Addr × Obj)) (s : Shared) (σ : St) (H : Hp) (E : Value → Shared → Prop), Inv X pins σ H s → (∀ b ∈ fp, FpOk X pins H b) → tn i s.heap → J.go i H →
    wpAny (model P w) X.A (pyNext (.ref it)) (fun r s1 => ∃ u, r = some u ∧
      wpAny (model P w) X.A (letOwnedTupleGo tg (.ref it) u) (fun _ s2 => ∃ x H', Inv X pins σ H' s2 ∧ RelV x u ∧ J.yld i H x H' ∧ tn (i + 1) s2.heap ∧ ∀ b ∈ fp, H' b = none) E s1) E s
  done : ∀ (X : Cx), X.prog = P → X.w = w → X.K = K → X.calm = true → ∀ (i : Nat) (pins : List (Addr × Obj)) (s : Shared) (σ : St) (H : Hp) (E : Value → Shared → Prop), Inv X pins σ H s → (∀ b ∈ fp, FpOk X pins H b) → tn i s.heap → J.stop i H →
    wpAny (model P w) X.A (pyNext (.ref it)) (fun r s1 => r = none ∧ Inv X pins σ H s1) E s
  self : ∀ (A : Around) (i : Nat) (s : Shared) (Q : Value → Shared → Prop) (E : Value → Shared → Prop), tn i s.heap → Q (.ref it) s → wpAny (model P w) A (pyIter (.ref it)) Q E s
abbrev TI := St → Hp → (It → Hp → Prop) → Prop
/-- an iterator has come -/
def PIE (X : Cx) (pins : List (Addr × Obj)) (σ : St) (tg : Expr) (R : It → Hp → Prop) (itv : Value) (s2 : Shared) : Prop :=
  ∃ (it : Addr) (fp : List Addr) (tn : Nat → Heap → Prop) (J : It) (H' : Hp), itv = .ref it ∧ Inv X pins σ H' s2 ∧ Turn X.prog X.w X.K tg J fp it tn ∧ tn 0 s2.heap ∧ (∀ b ∈ fp, FpOk X pins H' b) ∧ R J H'
def PI (X : Cx) (tg iter : Expr) (wi : TI) : Prop :=
  ∀ (pins : List (Addr × Obj)) (s : Shared) (σ : St) (H : Hp) (R : It → Hp → Prop), Inv X pins σ H s → wi σ H R →
    wpAny (model X.prog X.w) X.A (eval iter X.env) (fun v s1 => wpAny (model X.prog X.w) X.A (pyIter v) (PIE X pins σ tg R) X.xe s1) X.xe s

/-- the step ahead of the store is nothing for an iterator that keeps no tuple -/
theorem go_of {M : Model} {A : Around} {E : Value → Shared → Prop} {s : Shared} {tg : Expr} {it : Addr} {u : Value} {o : Obj} {n : String} {vs : Array Value} {Q : Unit → Shared → Prop} (ho : s.heap.get? it = some o) (hc : o.cls = .type n) (hd : o.data = .fields vs)
    (hn : ["enumerate", "zip", "dict_itemiterator", "dict_reverseitemiterator", "odict_iterator", "itertools.zip_longest", "itertools.pairwise"].contains n = false) (hQ : Q () s) : wpAny M A (letOwnedTupleGo tg (.ref it) u) Q E s := by
  unfold letOwnedTupleGo
  cases tg <;> first
    | exact wpAny_pure hQ
    | (cases u <;> first
        | exact wpAny_pure hQ
        | (refine wpAny_bind (wpAny_load ho ?_)
           rw [hc, hd]
           show wpAny M A (if (["enumerate", "zip", "dict_itemiterator", "dict_reverseitemiterator", "odict_iterator", "itertools.zip_longest", "itertools.pairwise"].contains n && vs[0]? == some (rawInt _)) = true then _ else _) Q E s
           rw [if_neg (by intro h; rw [hn, Bool.false_and] at h; cases h)]
           exact wpAny_pure hQ))

/-- lo, lo + 1, .. (n of them) -/
def Itr (lo : Int) (n : Nat) : It := ⟨fun i _ => i < n, fun i H x H' => H' = H ∧ x = .int (lo + i), fun i _ => n ≤ i⟩
theorem turn_range {P : Program} {w : World} {K : PySem.W.Frag} {tg : Expr} (it : Addr) (lo : Int) (n : Nat) : Turn P w K tg (Itr lo n) [it] it (fun i h => IsRangeIter h it (lo + (i : Nat) * 1) ((n : Int) - (i : Nat)) 1) where
  mem := by simp
  obj := fun i h st b hb => by
    have e : b = it := by simpa using hb
    subst e
    exact ⟨_, st, fun v z => by
      have z' : Data.fields _ = Data.cell v := z
      cases z'⟩
  keep := fun i h h' st k => k it (by simp) _ st
  item := by
    intro X hP hw hK hc i pins s σ H E I hf st hg
    subst hP hw hK
    obtain ⟨f0, f1, f2, f3, f4, f5⟩ := hf it (by simp)
    have W := Walks.range (prog := X.prog) (w := X.w) (I.ok.hd hc) it lo 1 n
    refine W.item i s _ _ hg st fun v h' tk hv st' kk => ?_
    obtain ⟨t, rfl⟩ := hv
    have I1 : Inv X pins σ H { s with heap := h', toks := tk } := I.turned (fun b o hb e => kk b o (by simpa using hb) e) f0 f1 f3 f4 f5
    refine ⟨_, rfl, go_of (s := { s with heap := h', toks := tk }) (n := "range_iterator") st' rfl rfl (by decide) ⟨.int (lo + i), H, I1, ⟨t, ?_⟩, ⟨rfl, rfl⟩, st', fun b hb => (hf b hb).1⟩⟩
    rw [Int.mul_one]
  done := by
    intro X hP hw hK hc i pins s σ H E I hf st hg
    subst hP hw hK
    obtain ⟨f0, f1, f2, f3, f4, f5⟩ := hf it (by simp)
    exact wpAny_pyNext_range_end (I.ok.hd hc) st (by have : n ≤ i := hg; omega) fun h' eb => ⟨rfl, I.turned (t' := s.toks) (fun b o hb e => eb b o hb e) f0 f1 f3 f4 f5⟩
  self := fun _ _ _ _ _ st h => wpAny_pyIter_rangeiter st h
end L2

namespace L2
open PySem PySem.Spec PyProof.Rows
section
variable {X : Cx} {tg : Expr}
/-- a range object just made, walked -/
theorem range_it {pins : List (Addr × Obj)} {σ : St} {H : Hp} {s : Shared} {R : It → Hp → Prop} {E : Value → Shared → Prop} {lo hi : Int} {t u v : Tok} {tk : Nat} (I : Inv X pins σ H s) (h1 : -(2 ^ 62) ≤ lo) (h2 : lo < 2 ^ 62) (h3 : -(2 ^ 62) ≤ hi) (h4 : hi < 2 ^ 62)
    (q : R (Itr lo (hi - lo).toNat) H) : wpAny (model X.prog X.w) X.A (pyIter (.ref s.heap.objs.size)) (PIE X pins σ tg R) E { s with heap := s.heap.push { cls := .type "range", data := .fields #[.int lo t, .int hi u, .int 1 v] }, toks := tk } := by
  refine wpAny_pyIter_range (IsRange.new ..) (small_one h1 h2 h3 h4) ?_
  have I1 : Inv X pins σ H { s with heap := s.heap.push { cls := .type "range", data := .fields #[.int lo t, .int hi u, .int 1 v] }, toks := tk } := I.kept fun b o e => Heap.get?_push_of_some _ e
  refine ⟨(s.heap.push { cls := .type "range", data := .fields #[.int lo t, .int hi u, .int 1 v] }).objs.size, [(s.heap.push { cls := .type "range", data := .fields #[.int lo t, .int hi u, .int 1 v] }).objs.size], _, _, H, rfl,
    I1.kept (t' := tk) fun b o e => Heap.get?_push_of_some _ e, turn_range _ lo (hi - lo).toNat, ?_, fun b hb => ?_, q⟩
  · have e1 : lo + ((0 : Nat) : Int) * 1 = lo := by simp
    have e2 : (((hi - lo).toNat : Nat) : Int) - ((0 : Nat) : Int) = Builtin.Range.rangeSize lo hi 1 := by rw [rangeSize_one]; split <;> omega
    show IsRangeIter _ _ (lo + ((0 : Nat) : Int) * 1) ((((hi - lo).toNat : Nat) : Int) - ((0 : Nat) : Int)) 1
    rw [e1, e2]
    exact Heap.get?_push_size _ rfl
  · have e : b = (s.heap.push { cls := .type "range", data := .fields #[.int lo t, .int hi u, .int 1 v] }).objs.size := by simpa using hb
    subst e
    exact I1.fpOk (Nat.le_refl _) (I1.hok.fresh (Nat.le_refl _))
def iRng1 (ta : TA) : TI := fun σ H R => ta σ H fun vs H1 => ∃ j : Int, vs = [.int j] ∧ -(2 ^ 62) ≤ j ∧ j < 2 ^ 62 ∧ R (Itr 0 j.toNat) H1
theorem pi_range1 {a : Expr} {ta : TA} {p pos : Pos} (hg : Gl X "range") (hm : X.mg "range" = none) (ha : PA X [a] ta) (hs : starEach [a] X.env = [(false, eval a X.env)] := by rfl) : PI X tg (.Call (.Name "range" p) [a] [] pos) (iRng1 ta) := by
  intro pins s σ H R I h
  refine Call_ (ld_blt I hg hm boot_range (PyProof.Rows.callWith_type1 (thn (ha pos pins s σ H _ I h) fun us s1 ⟨vs, H1, I1, r1, q1⟩ => ?_) hs rfl))
  obtain ⟨j, e, q1, q2, q⟩ := q1
  subst e
  cases r1 with
  | cons r rr =>
    cases rr
    obtain ⟨t, rfl⟩ := r
    exact call_range_1 (range_it I1 (by omega) (by omega) q1 q2 (by simpa using q))
/-! ### for -/
/-- W: the invariant by the turn and a measure; N: what the body is to reach -/
def tFor (wi : TI) (g : TG) (tb : TS) : TS := fun D σ H => wi σ H fun J H1 => ∃ W : Nat → Nat → St → Hp → Prop, (∃ m, W 0 m σ H1) ∧ ∀ i m σ H, W i m σ H →
  (J.stop i H ∧ D.nx σ H) ∨ (J.go i H ∧ ∃ N : St → Hp → Prop, (∀ σ' H', N σ' H' → ∃ m', m' < m ∧ W (i + 1) m' σ' H') ∧ ∀ x H', J.yld i H x H' → g x σ H' fun σ2 H2 => tb { D with nx := N, ct := N, bk := D.nx } σ2 H2)
/-- the records at fp as they stand -/
def pinsAt (fp : List Addr) (h : Heap) : List (Addr × Obj) := fp.filterMap fun b => (h.get? b).map fun o => (b, o)
theorem mem_pinsAt {fp : List Addr} {h : Heap} {b : Addr} {o : Obj} (hb : b ∈ fp) (e : h.get? b = some o) : (b, o) ∈ pinsAt fp h := List.mem_filterMap.mpr ⟨b, hb, by rw [e]; rfl⟩
theorem of_pinsAt {fp : List Addr} {h : Heap} {p : Addr × Obj} (hp : p ∈ pinsAt fp h) : p.1 ∈ fp ∧ h.get? p.1 = some p.2 := by
  obtain ⟨b, hb, e⟩ := List.mem_filterMap.mp hp
  cases q : h.get? b with
  | none => rw [q] at e; cases e
  | some o =>
    rw [q] at e
    have e' : (b, o) = p := Option.some.inj e
    subst e'
    exact ⟨hb, q⟩
theorem Inv.pinned {pins : List (Addr × Obj)} {σ : St} {H : Hp} {s : Shared} {fp : List Addr} (I : Inv X pins σ H s) (hf : ∀ b ∈ fp, FpOk X pins H b) (ho : ∀ b ∈ fp, ∃ o, s.heap.get? b = some o ∧ ∀ v, o.data ≠ .cell v) : Inv X (pins ++ pinsAt fp s.heap) σ H s :=
  I.pins_of fun p hp => (List.mem_append.mp hp).elim (fun z => I.pin p (List.mem_append_right _ z)) fun z => by
    obtain ⟨hb, e⟩ := of_pinsAt z
    obtain ⟨f0, f1, f2, _⟩ := hf p.1 hb
    obtain ⟨o, e', d⟩ := ho p.1 hb
    rw [e] at e'; cases e'
    exact ⟨e, f0, f1, f2, d⟩
theorem Inv.unpinned {pins pl : List (Addr × Obj)} {σ : St} {H : Hp} {s : Shared} (I : Inv X (pins ++ pl) σ H s) : Inv X pins σ H s := I.pins_of fun p hp => I.pin p (List.mem_append_right _ (List.mem_append_left _ hp))
theorem ps_for {iter : Expr} {body : List Stmt} {wi : TI} {g : TG} {tb : TS} {pos : Pos} (hp : PassesOwn (model X.prog X.w) X.A X.env X.xe) (hc : X.calm = true) (hi : PI X tg iter wi) (hg : PG X tg g) (hb : PSs X body tb)
    (hs : ∀ x, foldedSetIterable iter X.env x = pure x := by intro _; rfl) : PS X (.For tg iter body [] pos) (tFor wi g tb) := by
  intro pins s σ H D I h
  refine wpAny_For (thn (hi pins s σ H _ I h) fun v s1 h1 => thn h1 fun itv s2 h2 => ?_) hs
  obtain ⟨it, fp, tn, J, H2, e, I2, T, st2, f2, W, ⟨m0, w0⟩, turn⟩ := h2
  subst e
  -- what stays true of the iterator's objects through the loop
  have stat : ∀ {H' : Hp}, (∀ b ∈ fp, H' b = none) → ∀ b ∈ fp, FpOk X pins H' b := fun hn b hb => ⟨hn b hb, (f2 b hb).2⟩
  refine codeAny_forLoop_any (fun n s' => ∃ i σ' H', Inv X pins σ' H' s' ∧ tn i s'.heap ∧ (∀ b ∈ fp, H' b = none) ∧ W i n σ' H') ?_ m0 ⟨0, σ, H2, I2, st2, fun b hb => (f2 b hb).1, w0⟩
  rintro n s3 ⟨i, σ3, H3, I3, st3, fr3, w3⟩
  rcases turn i n σ3 H3 w3 with ⟨stop, qn⟩ | ⟨go, N, hN, step⟩
  · refine wpAny_passesOwn hp (thn (T.done X rfl rfl rfl hc i pins s3 σ3 H3 X.xe I3 (stat fr3) st3 stop) fun r s4 ⟨hr, I4⟩ => ?_)
    subst hr
    exact wpAny_execs_nil ⟨σ3, H3, I4, qn⟩
  · refine wpAny_passesOwn hp (thn (T.item X rfl rfl rfl hc i pins s3 σ3 H3 X.xe I3 (stat fr3) st3 go) fun r s4 ⟨u, hr, h4⟩ => ?_)
    subst hr
    refine wpAny_passesOwn hp (thn h4 fun _ s5 ⟨x, H5, I5, r5, y5, st5, fr5⟩ => ?_)
    have I5' := I5.pinned (stat fr5) (T.obj _ _ st5)
    refine wpAny_passesOwn hp (thn (hg _ s5 σ3 H5 x u _ I5' r5 (step x H5 y5)) fun _ s6 ⟨σ6, H6, I6, q6⟩ => ?_)
    refine wpAny_passesOwn hp (thn (hb _ s6 σ6 H6 _ I6 q6) fun f s7 q7 => ?_)
    have again : ∀ {σ7 : St} {H7 : Hp}, Inv X (pins ++ pinsAt fp s5.heap) σ7 H7 s7 → N σ7 H7 → ∃ m, m < n ∧ ∃ i σ' H', Inv X pins σ' H' s7 ∧ tn i s7.heap ∧ (∀ b ∈ fp, H' b = none) ∧ W i m σ' H' := fun {σ7 H7} I7 n7 => by
      obtain ⟨m', hm, w7⟩ := hN σ7 H7 n7
      refine ⟨m', hm, i + 1, σ7, H7, I7.unpinned, T.keep _ _ _ st5 fun b hb o e => (I7.pin (b, o) (List.mem_append_right _ (List.mem_append_right _ (mem_pinsAt hb e)))).1, fun b hb => ?_, w7⟩
      obtain ⟨o, e, d⟩ := T.obj _ _ st5 b hb
      exact (I7.pin (b, o) (List.mem_append_right _ (List.mem_append_right _ (mem_pinsAt hb e)))).2.1
    cases f with
    | next => obtain ⟨σ7, H7, I7, n7⟩ := q7; exact again I7 n7
    | cont => obtain ⟨σ7, H7, I7, n7⟩ := q7; exact again I7 n7
    | brk => obtain ⟨σ7, H7, I7, q7⟩ := q7; exact ⟨σ7, H7, I7.unpinned, q7⟩
    | ret v => obtain ⟨x7, σ7, H7, I7, r7, q7⟩ := q7; exact ⟨x7, σ7, H7, I7.unpinned, r7, q7⟩
end

/-! ### the forms one uses -/
theorem for_range {lo : Int} {n : Nat} {g : TG} {tb : TS} {D : Ends} {σ : St} {H : Hp} (Pv : Nat → St → Hp → Prop) (h0 : Pv 0 σ H)
    (hs : ∀ i σ H, i < n → Pv i σ H → g (.int (lo + i)) σ H fun σ2 H2 => tb { D with nx := Pv (i + 1), ct := Pv (i + 1), bk := D.nx } σ2 H2) (hd : ∀ σ H, Pv n σ H → D.nx σ H) :
    ∃ W : Nat → Nat → St → Hp → Prop, (∃ m, W 0 m σ H) ∧ ∀ i m σ H, W i m σ H →
      ((Itr lo n).stop i H ∧ D.nx σ H) ∨ ((Itr lo n).go i H ∧ ∃ N : St → Hp → Prop, (∀ σ' H', N σ' H' → ∃ m', m' < m ∧ W (i + 1) m' σ' H') ∧ ∀ x H', (Itr lo n).yld i H x H' → g x σ H' fun σ2 H2 => tb { D with nx := N, ct := N, bk := D.nx } σ2 H2) := by
  refine ⟨fun i m σ H => m = n - i ∧ i ≤ n ∧ Pv i σ H, ⟨n, by simp, Nat.zero_le _, h0⟩, ?_⟩
  rintro i m σ H ⟨rfl, hi, p⟩
  by_cases hlt : i < n
  · refine .inr ⟨hlt, Pv (i + 1), fun σ' H' p' => ⟨n - (i + 1), by omega, rfl, hlt, p'⟩, fun x H' y => ?_⟩
    obtain ⟨e, y⟩ := y
    subst e y
    exact hs i σ _ hlt p
  · have e : i = n := by omega
    subst e
    exact .inl ⟨Nat.le_refl _, hd σ H p⟩
end L2

namespace L2
open PySem PySem.Spec PyProof.Rows

abbrev R2 := V → V → Hp → VK → Prop
/-- a two-place operation on values: f is binaryOp op, inplaceOp op or compareOp op -/
def OpR (X : Cx) (f : Value → Value → Sem Value) (r : R2) : Prop :=
  ∀ (pins : List (Addr × Obj)) (s : Shared) (σ : St) (H : Hp) (x y : V) (v u : Value) (Q : VK), Inv X pins σ H s → RelV x v → RelV y u → r x y H Q →
    wpAny (model X.prog X.w) X.A (f v u) (EP X pins σ Q) X.xe s
/-- a one-place operation -/
def UnR (X : Cx) (f : Value → Sem Value) (r : V → Hp → VK → Prop) : Prop :=
  ∀ (pins : List (Addr × Obj)) (s : Shared) (σ : St) (H : Hp) (x : V) (v : Value) (Q : VK), Inv X pins σ H s → RelV x v → r x H Q →
    wpAny (model X.prog X.w) X.A (f v) (EP X pins σ Q) X.xe s
/-- a call of a value that is known (a builtin, a type) with values -/
def CallR (X : Cx) (f : Value) (r : List V → Hp → VK → Prop) : Prop :=
  ∀ (pins : List (Addr × Obj)) (s : Shared) (σ : St) (H : Hp) (xs : List V) (us : List Value) (Q : VK), Inv X pins σ H s → Vals xs us → r xs H Q →
    wpAny (model X.prog X.w) X.A (call f us) (EP X pins σ Q) X.xe s
def tOp (r : R2) (ta tb : TE) : TE := fun σ H Q => ta σ H fun x H1 => tb σ H1 fun y H2 => r x y H2 Q
def tUn (r : V → Hp → VK → Prop) (ta : TE) : TE := fun σ H Q => ta σ H fun x H1 => r x H1 Q
/-- ints in, under C, and a value out -/
def rI (C : Int → Int → Prop) (g : Int → Int → V) : R2 := fun x y H Q => ∃ i j, x = .int i ∧ y = .int j ∧ C i j ∧ Q (g i j) H
def rI0 (g : Int → Int → V) : R2 := fun x y H Q => ∃ i j, x = .int i ∧ y = .int j ∧ Q (g i j) H
def rU (g : Int → V) : V → Hp → VK → Prop := fun x H Q => ∃ i, x = .int i ∧ Q (g i) H

section
variable {X : Cx} {a b c : Expr} {ta tb tc : TE} {pos : Pos}

theorem binT (ha : PE X a ta) (hb : PE X b tb) {pins : List (Addr × Obj)} {s : Shared} {σ : St} {H : Hp} {R : V → V → Hp → Prop} (I : Inv X pins σ H s)
    (h : ta σ H fun x H1 => tb σ H1 fun y H2 => R x y H2) {Q : Value → Shared → Prop} {f : Value → Value → Sem Value}
    (hf : ∀ v u s2 x y H2, Inv X pins σ H2 s2 → RelV x v → RelV y u → R x y H2 → wpAny (model X.prog X.w) X.A (f v u) Q X.xe s2) :
    wpAny (model X.prog X.w) X.A (eval a X.env) (fun v s₁ => wpAny (model X.prog X.w) X.A (eval b X.env) (fun u s₂ => wpAny (model X.prog X.w) X.A (f v u) Q X.xe s₂) X.xe s₁) X.xe s := by
  refine thn (ha pins s σ H _ I h) fun v s1 ⟨x, H1, I1, r1, q1⟩ => ?_
  refine thn (hb pins s1 σ H1 _ I1 q1) fun u s2 ⟨y, H2, I2, r2, q2⟩ => ?_
  exact hf v u s2 x y H2 I2 r1 r2 q2

theorem pe_op {op : Operator} {r : R2} (ho : OpR X (binaryOp op) r) (ha : PE X a ta) (hb : PE X b tb) : PE X (.BinOp a op b pos) (tOp r ta tb) := by
  intro pins s σ H Q I h
  exact wpAny_BinOp (binT ha hb I h fun v u s2 x y H2 I2 rx ry q => ho pins s2 σ H2 x y v u Q I2 rx ry q)
theorem pe_un {op : UnaryOp} {r : V → Hp → VK → Prop} (ho : UnR X (unaryOp op) r) (ha : PE X a ta) : PE X (.UnaryOp op a pos) (tUn r ta) := by
  intro pins s σ H Q I h
  exact UnaryOp_ (thn (ha pins s σ H _ I h) fun v s1 ⟨x, H1, I1, r1, q1⟩ => ho pins s1 σ H1 x v Q I1 r1 q1)
/-! ### ints -/
theorem opI {f : Value → Value → Sem Value} {C : Int → Int → Prop} {g : Int → Int → Int}
    (rule : ∀ (i j : Int) (t u : Tok) (s : Shared) (Q : Value → Shared → Prop) (E : Value → Shared → Prop), C i j → Q (.int (g i j) s.toks) { s with toks := s.toks + 1 } → wpAny (model X.prog X.w) X.A (f (.int i t) (.int j u)) Q E s) :
    OpR X f (rI C fun i j => .int (g i j)) := by
  intro pins s σ H x y v u Q I rx ry h
  obtain ⟨i, j, rfl, rfl, hc, q⟩ := h
  obtain ⟨t, rfl⟩ := rx
  obtain ⟨t', rfl⟩ := ry
  exact rule i j t t' s _ _ hc ⟨.int (g i j), H, I.tok _, ⟨_, rfl⟩, q⟩
theorem opI0 {f : Value → Value → Sem Value} {g : Int → Int → Int}
    (rule : ∀ (i j : Int) (t u : Tok) (s : Shared) (Q : Value → Shared → Prop) (E : Value → Shared → Prop), Q (.int (g i j) s.toks) { s with toks := s.toks + 1 } → wpAny (model X.prog X.w) X.A (f (.int i t) (.int j u)) Q E s) :
    OpR X f (rI0 fun i j => .int (g i j)) := by
  intro pins s σ H x y v u Q I rx ry h
  obtain ⟨i, j, rfl, rfl, q⟩ := h
  obtain ⟨t, rfl⟩ := rx
  obtain ⟨t', rfl⟩ := ry
  exact rule i j t t' s _ _ ⟨.int (g i j), H, I.tok _, ⟨_, rfl⟩, q⟩
theorem opB0 {f : Value → Value → Sem Value} {g : Int → Int → Bool}
    (rule : ∀ (i j : Int) (t u : Tok) (s : Shared) (Q : Value → Shared → Prop) (E : Value → Shared → Prop), Q (.bool (g i j)) s → wpAny (model X.prog X.w) X.A (f (.int i t) (.int j u)) Q E s) :
    OpR X f (rI0 fun i j => .bl (g i j)) := by
  intro pins s σ H x y v u Q I rx ry h
  obtain ⟨i, j, rfl, rfl, q⟩ := h
  obtain ⟨t, rfl⟩ := rx
  obtain ⟨t', rfl⟩ := ry
  exact rule i j t t' s _ _ ⟨.bl (g i j), H, I, rfl, q⟩

def CDiv (i j : Int) : Prop := 0 < j ∧ j < 1073741824
def CPow (i j : Int) : Prop := 0 ≤ j ∧ j ≤ 1000000 ∧ i.natAbs < 2 ^ 64
theorem op_add : OpR X (binaryOp .Add) (rI0 fun i j => .int (i + j)) := opI0 fun _ _ _ _ _ _ _ q => add_int q
theorem op_sub : OpR X (binaryOp .Sub) (rI0 fun i j => .int (i - j)) := opI0 fun _ _ _ _ _ _ _ q => sub_int q
/-- // by a positive divisor -/
theorem op_fdiv : OpR X (binaryOp .FloorDiv) (rI CDiv fun i j => .int (i / j)) := opI fun i j _ _ _ _ _ hc q => by
  have h1 : (0 : Int) < j := hc.1
  have h2 : j < 1073741824 := hc.2
  exact floordiv_int (by omega) (by rw [Int.fdiv_eq_ediv_of_nonneg i (by omega)]; exact q) (.inl (PyProof.noPylong_small (by omega)))
/-- % by a positive divisor of any size -/
theorem op_mod : OpR X (binaryOp .Mod) (rI (fun _ j => 0 < j) fun i j => .int (i % j)) := opI fun i j _ _ _ _ _ hc q => by
  have h1 : (0 : Int) < j := hc
  exact mod_int' (by omega) (by rw [Int.fmod_eq_emod_of_nonneg i (by omega)]; exact q)
theorem op_pow : OpR X (binaryOp .Pow) (rI CPow fun i j => .int (i ^ j.toNat)) := opI fun _ _ _ _ _ _ _ hc q => pow_int_small hc.1 hc.2.1 hc.2.2 q
theorem unI {f : Value → Sem Value} {g : Int → Int}
    (rule : ∀ (i : Int) (t : Tok) (s : Shared) (Q : Value → Shared → Prop) (E : Value → Shared → Prop), Q (.int (g i) s.toks) { s with toks := s.toks + 1 } → wpAny (model X.prog X.w) X.A (f (.int i t)) Q E s) :
    UnR X f (rU fun i => .int (g i)) := by
  intro pins s σ H x v Q I rx h
  obtain ⟨i, rfl, q⟩ := h
  obtain ⟨t, rfl⟩ := rx
  exact rule i t s _ _ ⟨.int (g i), H, I.tok _, ⟨_, rfl⟩, q⟩
theorem un_neg : UnR X (unaryOp .USub) (rU fun i => .int (-i)) := unI fun _ _ _ _ _ q => neg_int q
/-! ### bools among ints: n += (a < b) -/
end

/-! ### comparisons -/
/-- the scalars that == tells apart as data does -/
def scal : V → V → Bool
  | .non, .non => true | .non, .int _ => true | .int _, .non => true | .non, .bl _ => true | .bl _, .non => true | .non, .str _ => true | .str _, .non => true
  | .int _, .int _ => true | .bl _, .bl _ => true | .str _, .str _ => true | .byt _, .byt _ => true
  | .int _, .str _ => true | .str _, .int _ => true | .bl _, .str _ => true | .str _, .bl _ => true
  | _, _ => false
def rEq : R2 := fun x y H Q => scal x y = true ∧ Q (.bl (decide (x = y))) H
def rNe : R2 := fun x y H Q => scal x y = true ∧ Q (.bl (!decide (x = y))) H

theorem dec_int {i j : Int} : decide (V.int i = V.int j) = (i == j) := by
  rw [Bool.eq_iff_iff]
  simp
theorem dec_bl {i j : Bool} : decide (V.bl i = V.bl j) = (i == j) := by
  rw [Bool.eq_iff_iff]
  simp
theorem dec_str {i j : Str} : decide (V.str i = V.str j) = (i == j) := by
  rw [Bool.eq_iff_iff]
  simp
theorem dec_byt {i j : Array UInt8} : decide (V.byt i = V.byt j) = (i.toList == j.toList) := by
  rw [Bool.eq_iff_iff]
  cases i
  cases j
  simp

section
variable {X : Cx} {a b c : Expr} {ta tb tc : TE} {pos : Pos}
theorem fin_bl {pins : List (Addr × Obj)} {σ : St} {H : Hp} {s : Shared} {Q : VK} {k k' : Bool} (I : Inv X pins σ H s) (q : Q (.bl k) H) (e : k = k') : EP X pins σ Q (.bool k') s := by
  subst e
  exact ⟨.bl k, H, I, rfl, q⟩
theorem op_eq : OpR X (compareOp .Eq) rEq := by
  intro pins s σ H x y v u Q I rx ry h
  obtain ⟨hs, q⟩ := h
  cases x with
  | non =>
    cases rx
    cases y with
    | non => cases ry; exact PySem.EqNone.eq_none_none (fin_bl I q (by simp))
    | bl j => cases ry; exact PySem.EqNone.eq_none_bool (fin_bl I q (by simp))
    | int j => obtain ⟨t', rfl⟩ := ry; exact PySem.EqNone.eq_none_int (fin_bl I q (by simp))
    | str j => obtain ⟨t', rfl⟩ := ry; exact PySem.EqNone.eq_none_str (fin_bl I q (by simp))
    | _ => exact absurd (show false = true from hs) Bool.false_ne_true
  | bl i =>
    cases rx
    cases y with
    | non => cases ry; exact PySem.EqNone.eq_bool_none (fin_bl I q (by simp))
    | bl j => cases ry; exact eq_bool (fin_bl I q dec_bl)
    | str j => obtain ⟨t', rfl⟩ := ry; exact PySem.EqMixed.eq_bool_str (fin_bl I q (by simp))
    | _ => exact absurd (show false = true from hs) Bool.false_ne_true
  | int i =>
    obtain ⟨t, rfl⟩ := rx
    cases y with
    | non => cases ry; exact PySem.EqNone.eq_int_none (fin_bl I q (by simp))
    | int j => obtain ⟨t', rfl⟩ := ry; exact eq_int (fin_bl I q dec_int)
    | str j => obtain ⟨t', rfl⟩ := ry; exact PySem.EqMixed.eq_int_str (fin_bl I q (by simp))
    | _ => exact absurd (show false = true from hs) Bool.false_ne_true
  | str i =>
    obtain ⟨t, rfl⟩ := rx
    cases y with
    | non => cases ry; exact PySem.EqNone.eq_str_none (fin_bl I q (by simp))
    | bl j => cases ry; exact PySem.EqMixed.eq_str_bool (fin_bl I q (by simp))
    | int j => obtain ⟨t', rfl⟩ := ry; exact PySem.EqMixed.eq_str_int (fin_bl I q (by simp))
    | str j => obtain ⟨t', rfl⟩ := ry; exact eq_str (fin_bl I q dec_str)
    | _ => exact absurd (show false = true from hs) Bool.false_ne_true
  | byt i =>
    obtain ⟨t, rfl⟩ := rx
    cases y with
    | byt j => obtain ⟨t', rfl⟩ := ry; exact PySem.W.eq_bytes (fin_bl I q dec_byt)
    | _ => exact absurd (show false = true from hs) Bool.false_ne_true
  | _ => cases y <;> exact absurd (show false = true from hs) Bool.false_ne_true
theorem op_ne : OpR X (compareOp .NotEq) rNe := by
  intro pins s σ H x y v u Q I rx ry h
  obtain ⟨hs, q⟩ := h
  cases x with
  | non =>
    cases rx
    cases y with
    | non => cases ry; exact PySem.EqNone.ne_none_none (fin_bl I q (by simp))
    | bl j => cases ry; exact PySem.EqNone.ne_none_bool (fin_bl I q (by simp))
    | int j => obtain ⟨t', rfl⟩ := ry; exact PySem.EqNone.ne_none_int (fin_bl I q (by simp))
    | str j => obtain ⟨t', rfl⟩ := ry; exact PySem.EqNone.ne_none_str (fin_bl I q (by simp))
    | _ => exact absurd (show false = true from hs) Bool.false_ne_true
  | bl i =>
    cases rx
    cases y with
    | non => cases ry; exact PySem.EqNone.ne_bool_none (fin_bl I q (by simp))
    | bl j => cases ry; exact ne_bool (fin_bl I q (congrArg not dec_bl))
    | str j => obtain ⟨t', rfl⟩ := ry; exact PySem.EqMixed.ne_bool_str (fin_bl I q (by simp))
    | _ => exact absurd (show false = true from hs) Bool.false_ne_true
  | int i =>
    obtain ⟨t, rfl⟩ := rx
    cases y with
    | non => cases ry; exact PySem.EqNone.ne_int_none (fin_bl I q (by simp))
    | int j => obtain ⟨t', rfl⟩ := ry; exact ne_int (fin_bl I q (congrArg not dec_int))
    | str j => obtain ⟨t', rfl⟩ := ry; exact PySem.EqMixed.ne_int_str (fin_bl I q (by simp))
    | _ => exact absurd (show false = true from hs) Bool.false_ne_true
  | str i =>
    obtain ⟨t, rfl⟩ := rx
    cases y with
    | non => cases ry; exact PySem.EqNone.ne_str_none (fin_bl I q (by simp))
    | bl j => cases ry; exact PySem.EqMixed.ne_str_bool (fin_bl I q (by simp))
    | int j => obtain ⟨t', rfl⟩ := ry; exact PySem.EqMixed.ne_str_int (fin_bl I q (by simp))
    | str j => obtain ⟨t', rfl⟩ := ry; exact ne_str (fin_bl I q (congrArg not dec_str))
    | _ => exact absurd (show false = true from hs) Bool.false_ne_true
  | byt i =>
    obtain ⟨t, rfl⟩ := rx
    cases y with
    | byt j => obtain ⟨t', rfl⟩ := ry; exact PySem.W.ne_bytes (fin_bl I q (congrArg not dec_byt))
    | _ => exact absurd (show false = true from hs) Bool.false_ne_true
  | _ => cases y <;> exact absurd (show false = true from hs) Bool.false_ne_true

theorem op_lt : OpR X (compareOp .Lt) (rI0 fun i j => .bl (decide (i < j))) := opB0 fun _ _ _ _ _ _ _ q => lt_int q
theorem op_le : OpR X (compareOp .LtE) (rI0 fun i j => .bl (decide (i ≤ j))) := opB0 fun _ _ _ _ _ _ _ q => le_int q
theorem op_gt : OpR X (compareOp .Gt) (rI0 fun i j => .bl (decide (j < i))) := opB0 fun _ _ _ _ _ _ _ q => gt_int q
theorem op_ge : OpR X (compareOp .GtE) (rI0 fun i j => .bl (decide (j ≤ i))) := opB0 fun _ _ _ _ _ _ _ q => ge_int q
/-- the one string within the other -/
theorem op_in_str : OpR X (compareOp .In) (fun x y H Q => ∃ i j, x = .str i ∧ y = .str j ∧ Q (.bl (!(Builtin.Str.occurrences j i 0 j.length 1).isEmpty)) H) := by
  intro pins s σ H x y v u Q I rx ry h
  obtain ⟨i, j, rfl, rfl, q⟩ := h
  obtain ⟨t, rfl⟩ := rx
  obtain ⟨t', rfl⟩ := ry
  exact in_str (fin_bl I q rfl)

/-- is None, is not None: the right side a value none -/
theorem op_isN : OpR X (compareOp .Is) (fun x y H Q => y = .non ∧ Q (.bl (decide (x = .non))) H) := by
  intro pins s σ H x y v u Q I rx ry h
  obtain ⟨rfl, q⟩ := h
  cases ry
  refine is_none_gen (fin_bl I q ?_)
  cases x <;> first
    | (cases rx; rfl)
    | (obtain ⟨t, rfl⟩ := rx; rfl)
theorem op_notin_str : OpR X (compareOp .NotIn) (fun x y H Q => ∃ i j, x = .str i ∧ y = .str j ∧ Q (.bl (!(!(Builtin.Str.occurrences j i 0 j.length 1).isEmpty))) H) := by
  intro pins s σ H x y v u Q I rx ry h
  obtain ⟨i, j, rfl, rfl, q⟩ := h
  obtain ⟨t, rfl⟩ := rx
  obtain ⟨t', rfl⟩ := ry
  exact notIn_str (fin_bl I q rfl)
theorem nomark (b : Expr) {op : CmpOp} (h : op ≠ .In := by decide) (h2 : op ≠ .NotIn := by decide) : behindInMarks op b = false := by
  have e1 : (op == CmpOp.In) = false := by cases op <;> first | rfl | exact absurd rfl h
  have e2 : (op == CmpOp.NotIn) = false := by cases op <;> first | rfl | exact absurd rfl h2
  cases b <;> simp [behindInMarks, e1, e2]
/-- a comparison as a value; hm: nomark b, or (for in, not in) by with_unfolding_all rfl -/
theorem pe_cmpR {op : CmpOp} {r : R2} (ho : OpR X (compareOp op) r) (ha : PE X a ta) (hb : PE X b tb) (hm : behindInMarks op b = false) : PE X (.Compare a [op] [b] pos) (tOp r ta tb) := by
  intro pins s σ H Q I h
  exact wpAny_Compare1 (binT ha hb I h fun v u s2 x y H2 I2 rx ry q => ho pins s2 σ H2 x y v u Q I2 rx ry q) hm
/-- a reading of a value as a test -/
def tTest (t : TE) : TT := fun σ H Q => t σ H fun x H' => ∃ k, x = .bl k ∧ Q k H'
theorem pt_cmpR {op : CmpOp} {r : R2} (ho : OpR X (compareOp op) r) (ha : PE X a ta) (hb : PE X b tb) (hm : behindInMarks op b = false) : PT X (.Compare a [op] [b] pos) (tTest (tOp r ta tb)) := by
  intro pins s σ H Q I h
  refine wpAny_isTrue_Compare1 (thn (ha pins s σ H _ I h) fun v s1 ⟨x, H1, I1, r1, q1⟩ => thn (hb pins s1 σ H1 _ I1 q1) fun u s2 ⟨y, H2, I2, r2, q2⟩ =>
    thn (ho pins s2 σ H2 x y v u _ I2 r1 r2 q2) fun c s3 ⟨z, H3, I3, r3, k, e, q3⟩ => ?_) hm
  subst e
  cases r3
  exact wpAny_truthy_bool ⟨H3, I3, q3⟩
/-- a op1 b op2 c -/
def tChain (r r' : R2) (ta tb tc : TE) : TE := fun σ H Q => ta σ H fun x H1 => tb σ H1 fun y H2 => r x y H2 fun z H3 => ∃ k, z = .bl k ∧
  (if k = true then tc σ H3 fun w' H4 => r' y w' H4 Q else Q (.bl false) H3)
theorem pt_chain {op op' : CmpOp} {r r' : R2} (ho : OpR X (compareOp op) r) (ho' : OpR X (compareOp op') r') (ha : PE X a ta) (hb : PE X b tb) (hc : PE X c tc)
    (hm : lastMarks [op, op'] [b, c] = false := by with_unfolding_all rfl) : PT X (.Compare a [op, op'] [b, c] pos) (tTest (tChain r r' ta tb tc)) := by
  intro pins s σ H Q I h
  refine isTrue_chain (thn (ha pins s σ H _ I h) fun v s1 ⟨x, H1, I1, r1, q1⟩ => test_link (thn (hb pins s1 σ H1 _ I1 q1) fun u s2 ⟨y, H2, I2, r2, q2⟩ =>
    thn (ho pins s2 σ H2 x y v u _ I2 r1 r2 q2) fun d s3 ⟨z, H3, I3, r3, k, e, q3⟩ => ?_)) hm
  subst e
  cases r3
  refine wpAny_truthy_bool ?_
  cases k with
  | false =>
    obtain ⟨k', e', q'⟩ := q3
    cases e'
    exact ite_ff ⟨H3, I3, q'⟩
  | true =>
    refine ite_tt (test_last (thn (hc pins s3 σ H3 _ I3 q3) fun w' s4 ⟨z', H4, I4, r4, q4⟩ => thn (ho' pins s4 σ H4 y z' u w' _ I4 r2 r4 q4) fun d' s5 ⟨z2, H5, I5, r5, k2, e2, q5⟩ => ?_))
    subst e2
    cases r5
    exact wpAny_truthy_bool ⟨H5, I5, q5⟩

/-! ### truth -/
theorem line63 : (sizeLine : Nat) < 2 ^ 63 := by rw [sizeLine_eq]; decide
/-! ### strs and bytes -/
theorem op_add_str : OpR X (binaryOp .Add) (fun x y H Q => ∃ i j, x = .str i ∧ y = .str j ∧ i.length + j.length ≤ sizeLine ∧ Q (.str (i ++ j)) H) := by
  intro pins s σ H x y v u Q I rx ry h
  obtain ⟨i, j, rfl, rfl, hz, q⟩ := h
  obtain ⟨t, rfl⟩ := rx
  obtain ⟨t', rfl⟩ := ry
  exact add_str (fun t' tk => ⟨.str (i ++ j), H, I.tok _, ⟨_, rfl⟩, q⟩) hz
/-! ### scalar builtins, by CallR -/
theorem vals1 {x : V} {us : List Value} (r : Vals [x] us) : ∃ u, us = [u] ∧ RelV x u := by
  cases r with
  | cons r1 r2 => cases r2; exact ⟨_, rfl, r1⟩
theorem vals2 {x y : V} {us : List Value} (r : Vals [x, y] us) : ∃ u w', us = [u, w'] ∧ RelV x u ∧ RelV y w' := by
  cases r with
  | cons r1 r2 =>
    cases r2 with
    | cons r3 r4 => cases r4; exact ⟨_, _, rfl, r1, r3⟩
theorem call_str_int : CallR X (.type "str") (fun xs H Q => ∃ i, xs = [.int i] ∧ i.natAbs.log2 < 1920 ∧ Q (.str (toString i)) H) := by
  intro pins s σ H xs us Q I r h
  obtain ⟨i, rfl, hz, q⟩ := h
  obtain ⟨u, rfl, t, rfl⟩ := vals1 r
  exact PySem.P.str_of_int hz ⟨.str _, H, I.tok _, ⟨_, rfl⟩, q⟩
/-- len of a str, a bytes, a list, a tuple -/
def LenV (K : PySem.W.Frag) (x : V) (H : Hp) (n : Nat) : Prop :=
  match x with
  | .str y => y.length ≤ sizeLine ∧ n = y.length
  | .byt y => y.size ≤ sizeLine ∧ n = y.size
  | .ref p => (∃ xs, SqL K H p xs ∧ n = xs.length) ∨ ∃ xs, SqT K H p xs ∧ n = xs.length
  | _ => False
theorem call_len : CallR X (.builtin "len") (fun xs H Q => ∃ x n, xs = [x] ∧ LenV X.K x H n ∧ Q (.int n) H) := by
  intro pins s σ H xs us Q I r h
  obtain ⟨x, n, rfl, e, q⟩ := h
  obtain ⟨u, rfl, rx⟩ := vals1 r
  have hl := line63
  have hs : sizeLine = 16777216 := sizeLine_eq
  cases x with
  | str y =>
    obtain ⟨t, rfl⟩ := rx
    obtain ⟨hy, e'⟩ : y.length ≤ sizeLine ∧ n = y.length := e
    subst e'
    exact len_str (by omega) ⟨.int _, H, I.tok _, ⟨_, rfl⟩, q⟩
  | byt y =>
    obtain ⟨t, rfl⟩ := rx
    obtain ⟨hy, e'⟩ : y.size ≤ sizeLine ∧ n = y.size := e
    subst e'
    exact PySem.W.len_bytes (by omega) ⟨.int _, H, I.tok _, ⟨_, rfl⟩, q⟩
  | ref p =>
    cases rx
    have e' : (∃ xs, SqL X.K H p xs ∧ n = xs.length) ∨ ∃ xs, SqT X.K H p xs ∧ n = xs.length := e
    rcases e' with ⟨xs, hx, e'⟩ | ⟨xs, hx, e'⟩
    · subst e'
      obtain ⟨its, r', pl, hz⟩ := I.list hx
      have hlen := r'.length
      exact Calls.call_len_list pl.isList (by simp only [List.size_toArray]; omega) ⟨.int xs.length, H, I.tok _, ⟨_, by simp only [List.size_toArray]; rw [hlen]⟩, q⟩
    · subst e'
      obtain ⟨its, r', pl, hz⟩ := I.tuple hx
      have hlen := r'.length
      exact len_tuple pl (by simp only [List.size_toArray]; omega) ⟨.int xs.length, H, I.tok _, ⟨_, by simp only [List.size_toArray]; rw [hlen]⟩, q⟩
  | _ => exact (show False from e).elim
end
end L2

namespace L2
open PySem PySem.Spec PyProof.Rows

/-! ### an instance, its attributes a map -/
structure ObjM (h : Heap) (x dx C : Addr) (mA : Str → Option Value) : Prop where
  obj : h.get? x = some (PySem.W.instObj C dx)
  ns : h.Ns1 dx mA
  ne : dx ≠ x

theorem lookIn_ns {h : Heap} {dx : Addr} {mA : Str → Option Value} (n : h.Ns1 dx mA) : ∃ od, h.get? dx = some od ∧ ∀ name, PySem.W.lookIn name od = some (mA name) := by
  obtain ⟨o, es, ep, ho, hd, hk, _, hm⟩ := n
  refine ⟨o, ho, fun name => ?_⟩
  have e := hm name
  unfold nsFind findBy at e
  rw [← Array.find?_toList] at e
  unfold PySem.W.lookIn
  rw [hd]
  dsimp only
  split
  · rename_i y q
    rw [q] at e
    exact congrArg some e
  · rename_i q
    rw [q] at e
    have a : es.toList.any (·.refKey) = false := by
      rw [List.any_eq_false]
      intro y hy
      obtain ⟨z, t, hkey⟩ := hk y (Array.mem_toList_iff.mp hy)
      simp [DictEntry.refKey, hkey]
    have a' : ¬ es.toList.any (·.refKey) = true := by rw [a]; exact Bool.false_ne_true
    rw [if_neg a']
    exact congrArg some e

theorem ObjM.look {h : Heap} {x dx C : Addr} {mA : Str → Option Value} (I : ObjM h x dx C mA) : ∃ od, PySem.W.InstAt h x (PySem.W.instObj C dx) C (some od) ∧ ∀ name, PySem.W.lookIn name od = some (mA name) :=
  let ⟨od, ho, hl⟩ := lookIn_ns I.ns
  ⟨od, ⟨I.obj, rfl, rfl, ho⟩, hl⟩

section
variable {prog : Program} {w : World} {A : Around} {E : Value → Shared → Prop} {s : Shared} {K : PySem.W.Frag} {x dx C f : Addr} {mA : Str → Option Value} {name : Str} {v : Value}

end

/-! ### the attributes as a list of pairs -/
section
variable {P : Program} {w : World} {H H' : Hp} {h h' : Heap} {a C dx : Addr} {fs fs' : List (Str × V)}
theorem ins_get (hok : HOk P w H h) (e : H a = some (.ins C dx fs)) : ∃ mA, ObjM h a dx C mA ∧ (∀ f, RelO (fs.lookup f) (mA f)) ∧ PySem.Within mA (fs.map (·.1)) ∧ fs.length ≤ 1000 ∧ H dx = some (.own a) := by
  obtain ⟨d, z, ne, ob, mA, n, r, q⟩ := (show ObjOk P w H h a (.ins C dx fs) from hok a _ e)
  exact ⟨mA, ⟨ob, n, ne⟩, r, q, z, d⟩
end

/-! ### what of the text a class must have -/
structure Cls (K : PySem.W.Frag) (C : Addr) : Prop where
  pg : PySem.W.plainGet K C Str.empty = true
  hd : PySem.W.hasDictIn K C = true
  po : PySem.W.plainOver K C = true
  sa : PySem.W.findIn K (.ref C) "__setattr__" = some (some (.builtin "object.__setattr__"))
theorem Cls.get {K : PySem.W.Frag} {C : Addr} (c : Cls K C) (f : Str) : PySem.W.plainGet K C f = true := c.pg
section
variable {X : Cx} {pins : List (Addr × Obj)} {σ : St} {H : Hp} {s : Shared} {a C dx : Addr} {fs : List (Str × V)} {f : Str} {v : V} {A : Around} {E : Value → Shared → Prop}

end

/-! ### readings and rules -/
section
variable {X : Cx} {o e value : Expr} {f : Str} {pos pos' tpos : Pos} {ta tv : TE}
end

/-! ### isinstance -/
section
variable {X : Cx} {pins : List (Addr × Obj)} {σ : St} {H : Hp} {s : Shared} {A : Around} {E : Value → Shared → Prop} {Q : Value → Shared → Prop} {c : Value} {b : Bool}
/-- the type of a value, as the fragment's deciders take it; for an instance its class -/
inductive TyOf (K : PySem.W.Frag) (H : Hp) : V → Value → Prop where
  | non : TyOf K H .non (.type "NoneType")
  | bl (x : Bool) : TyOf K H (.bl x) (.type "bool")
  | int (i : Int) : TyOf K H (.int i) (.type "int")
  | str (x : Str) : TyOf K H (.str x) (.type "str")
  | flt (x : UInt64) : TyOf K H (.flt x) (.type "float")
  | lst {a : Addr} {xs : List V} (e : H a = some (.lst xs)) : TyOf K H (.ref a) (.type "list")
  | frz {a : Addr} {o : Obj} {xs : List V} (e : H a = some (.frz o (.lst xs))) : TyOf K H (.ref a) (.type "list")
  | tup {a : Addr} {xs : List V} (e : H a = some (.tup xs)) : TyOf K H (.ref a) (.type "tuple")
  | dK {a : Addr} {kvs : List (Key × V)} (e : H a = some (.dK kvs)) : TyOf K H (.ref a) (.type "dict")
  | dT {a : Addr} {kvs : List (List Key × V)} (e : H a = some (.dT kvs)) : TyOf K H (.ref a) (.type "dict")
  | ins {a C dx : Addr} {fs : List (Str × V)} (e : H a = some (.ins C dx fs)) (cl : Cls K C) (ha : PySem.W.findIn K (.ref C) "__class__" = some (some (.builtin "object.__class__")))
      (hn : PySem.W.specialIn K (.builtin "object.__class__") "__get__" = some (some (.builtin "getset_descriptor.__get__"))) (htk : PySem.W.takesIn K (.builtin "object.__class__") = some true)
      (hm : PySem.W.mroIn K C (.type "object") = some true) : TyOf K H (.ref a) (.ref C)
/-- isinstance(x, c) for one class c, a built-in or an own one: kitOne's answer -/
theorem isinst_ok {x : V} {u t : Value} (I : Inv X pins σ H s) (rx : RelV x u) (ty : TyOf X.K H x t) (e : PySem.W.kitOne X.K t c = some b) (h : ∀ tk, Q (.bool b) { s with toks := tk }) :
    wpAny (model X.prog X.w) A (call (.builtin "isinstance") [u, c]) Q E s := by
  cases ty with
  | non => cases (show u = Value.none from rx); exact PySem.W.kia_one PySem.W.kitx_none I.kIn True.intro e (fun z => nomatch z) h
  | bl y => cases (show u = Value.bool y from rx); exact PySem.W.kia_one PySem.W.kitx_bool I.kIn True.intro e (fun z => nomatch z) h
  | int i => obtain ⟨t, q⟩ := (show ∃ t, u = Value.int i t from rx); cases q; exact PySem.W.kia_one PySem.W.kitx_int I.kIn True.intro e (fun z => nomatch z) h
  | str y => obtain ⟨t, q⟩ := (show ∃ t, u = Value.str y t from rx); cases q; exact PySem.W.kia_one PySem.W.kitx_str I.kIn True.intro e (fun z => nomatch z) h
  | flt y => obtain ⟨t, q⟩ := (show ∃ t, u = Value.float y t from rx); cases q; exact PySem.W.kia_one PySem.W.kitx_float I.kIn True.intro e (fun z => nomatch z) h
  | @lst a xs ea =>
    cases (show u = Value.ref a from rx)
    obtain ⟨_, _, n, _, h1⟩ := (show ObjOk X.prog X.w H s.heap a (.lst xs) from I.hok a _ ea)
    exact PySem.W.kia_one PySem.W.kitx_list I.kIn ⟨_, h1, rfl⟩ e (fun z => nomatch z) h
  | @frz a ob xs ea =>
    cases (show u = Value.ref a from rx)
    obtain ⟨_, _, _, n, _, h1⟩ := (show ObjOk X.prog X.w H s.heap a (.frz ob (.lst xs)) from I.hok a _ ea)
    exact PySem.W.kia_one PySem.W.kitx_list I.kIn ⟨_, h1, rfl⟩ e (fun z => nomatch z) h
  | @tup a xs ea =>
    cases (show u = Value.ref a from rx)
    obtain ⟨_, _, _, p⟩ := (show ObjOk X.prog X.w H s.heap a (.tup xs) from I.hok a _ ea)
    obtain ⟨o, h1, h2, _⟩ := p
    exact PySem.W.kia_one PySem.W.kitx_tuple I.kIn ⟨o, h1, h2⟩ e (fun z => nomatch z) h
  | @dK a kvs ea =>
    cases (show u = Value.ref a from rx)
    obtain ⟨_, _, vs, _, p⟩ := (show ObjOk X.prog X.w H s.heap a (.dK kvs) from I.hok a _ ea)
    obtain ⟨o, es, ep, h1, h2, _⟩ := p
    exact PySem.W.kia_one PySem.W.kitx_dict I.kIn ⟨o, h1, h2.1⟩ e (fun z => nomatch z) h
  | @dT a kvs ea =>
    cases (show u = Value.ref a from rx)
    obtain ⟨_, _, xs, _, o, es, ep, h1, h2, _⟩ := (show ObjOk X.prog X.w H s.heap a (.dT kvs) from I.hok a _ ea)
    exact PySem.W.kia_one PySem.W.kitx_dict I.kIn ⟨o, h1, h2.1⟩ e (fun z => nomatch z) h
  | @ins a C dx fs ea cl ha hn htk hm =>
    cases (show u = Value.ref a from rx)
    obtain ⟨mA, O, _⟩ := ins_get I.hok ea
    obtain ⟨od, J, _⟩ := O.look
    exact PySem.W.kia_one (PySem.W.kitx_own (cl.get _) cl.hd ha hn htk hm) I.kIn J e (fun z => nomatch z) h
end
end L2

namespace L2
open PySem PySem.Spec PyProof.Rows

/-! ### room -/
structure Room (k : Nat) (A : Around) : Prop where
  hd : A.handled = none
  dp : A.depth + 3 * k + 5 < recursionLimit
  un : A.units + 16 * k + 200 < cLine
theorem Room.mono {j k : Nat} {A : Around} (r : Room k A) (h : j ≤ k) : Room j A := ⟨r.hd, by have := r.dp; omega, by have := r.un; omega⟩
theorem Room.deeper {k : Nat} {A : Around} (r : Room (k + 1) A) (env : Env) : Room k (A.deeper env) :=
  ⟨r.hd, by have := r.dp; show A.depth + 1 + 3 * k + 5 < _; omega, by have := r.un; show A.units + 3 + 16 * k + 200 < _; omega⟩
theorem Room.depth {k : Nat} {A : Around} (r : Room k A) : A.depth < recursionLimit := by have := r.dp; omega
/-! ### argument lists and displays -/
def tNil : TA := fun _ H Q => Q [] H
def tCons (ta : TE) (tr : TA) : TA := fun σ H Q => ta σ H fun x H1 => tr σ H1 fun xs H2 => Q (x :: xs) H2
section
variable {X : Cx} {e : Expr} {es : List Expr} {te : TE} {t : TA} {pos : Pos}
theorem pa_nil : PA X [] tNil := fun _ _ _ _ H Q I h => Calls.spliced_nil ⟨[], H, I, .nil, h⟩
theorem pa_cons (ha : PE X e te) (hr : PA X es t) (hs : starEach (e :: es) X.env = (false, eval e X.env) :: starEach es X.env := by rfl) : PA X (e :: es) (tCons te t) := by
  intro pos pins s σ H Q I h
  rw [hs]
  show wpAny _ _ (spliced ((false, eval e X.env) :: backTo pos (starEach es X.env))) _ _ s
  refine Calls.spliced_cons (thn (ha pins s σ H _ I h) fun u s1 ⟨x, H1, I1, r1, q1⟩ => ?_)
  exact thn (hr pos pins s1 σ H1 _ I1 q1) fun us s2 ⟨xs, H2, I2, r2, q2⟩ => ⟨x :: xs, H2, I2, .cons r1 r2, q2⟩

/-- a tuple, a list of written items -/
def tTup (t : TA) : TE := fun σ H Q => t σ H fun xs H1 => xs.length ≤ sizeLine ∧ ∀ p, H1 p = none → Q (.ref p) (upd H1 p (.tup xs))
def tLst (t : TA) : TE := fun σ H Q => t σ H fun xs H1 => xs.length ≤ sizeLine ∧ ∀ p, H1 p = none → Q (.ref p) (upd H1 p (.lst xs))
theorem pe_tup {x1} (h : PA X es t) : PE X (.Tuple es x1 pos) (tTup t) := by
  intro pins s σ H Q I hq
  refine wpAny_Tuple_spliced (thn (h pos pins s σ H _ I hq) fun us s1 ⟨xs, H1, I1, r, z, q⟩ => ⟨by rw [← r.length]; exact z, ?_⟩)
  have hf : H1 s1.heap.objs.size = none := I1.hok.fresh (Nat.le_refl _)
  refine ⟨.ref s1.heap.objs.size, upd H1 s1.heap.objs.size (.tup xs), I1.laid (t' := s1.toks) (fun b u e => Heap.get?_push_of_some _ e) (Nat.le_refl _) ?_, rfl, q _ hf⟩
  exact ⟨z, us, r, ⟨_, Heap.get?_push_size _ rfl, rfl, _, rfl⟩⟩
theorem pe_lst (h : PA X es t) : PE X (.List es pos) (tLst t) := by
  intro pins s σ H Q I hq
  refine wpAny_List_spliced (thn (h pos pins s σ H _ I hq) fun us s1 ⟨xs, H1, I1, r, z, q⟩ => ⟨by rw [← r.length]; exact z, ?_⟩)
  have hf : H1 s1.heap.objs.size = none := I1.hok.fresh (Nat.le_refl _)
  refine ⟨.ref s1.heap.objs.size, upd H1 s1.heap.objs.size (.lst xs), I1.laid (t' := s1.toks) (fun b u e => Heap.get?_push_of_some _ e) (Nat.le_refl _) ?_, rfl, q _ hf⟩
  exact ⟨z, us, 0, r, Heap.get?_push_size _ rfl⟩
end

/-! ### what a def promises -/
/-- a def's promise: the bound arguments in the parameters' order, the heap, the wanted end, the wanted exception -/
abbrev Sp := List V → Hp → VK → XK → Prop
/-- how an exception lies behind a call (file 08 gives it): the callers' frames, abstract heap and state ahead of the call, the wish, the exception, the state -/
abbrev CXT := List Env → Hp → Shared → XK → Value → Shared → Prop

/-- the state at a call -/
structure Env0 (P : Program) (w : World) (K : PySem.W.Frag) (mg : Str → Option Value) (base : Heap) (A : Around) (outer : List Env) (s : Shared) (H : Hp) : Prop where
  frames : A.frames = some outer
  mod : Mod K mg base
  bs : ∀ b o, base.get? b = some o → s.heap.get? b = some o ∧ H b = none
  bsz : base.objs.size ≤ s.heap.objs.size
  funs : s.heap.FunFrames base outer
  frf : ∀ b ∈ frs outer, H b = none
  hok : HOk P w H s.heap
  bare : AllBare s.gens
/-- a call's end -/
def CE (outer : List Env) (P : Program) (w : World) (H : Hp) (s : Shared) (Q : VK) (u : Value) (s' : Shared) : Prop :=
  ∃ v H', s'.os = s.os ∧ AllBare s'.gens ∧ Un (frs outer) [] H H' s.heap s'.heap ∧ HOk P w H' s'.heap ∧ RelV v u ∧ Q v H'
def CR (CX : CXT) (outer : List Env) (P : Program) (w : World) (H : Hp) (s : Shared) (Q : VK) (E : XK) (r : Result) (s' : Shared) : Prop :=
  match r with
  | .ok (.ret u) => CE outer P w H s Q u s'
  | .ok _ => False
  | .error e => CX outer H s E e s'
structure FnOk (P : Program) (w : World) (K : PySem.W.Frag) (mg : Str → Option Value) (base : Heap) (CX : CXT) (k : Nat) (f : Addr) (fd : FuncData) (ps : List Str) (sp : Sp) : Prop where
  len : ∀ vs H Q E, sp vs H Q E → vs.length = ps.length
  run : ∀ (A : Around) (outer : List Env) (s : Shared) (H : Hp) (args : Args) (us : List Value) (vs : List V) (Q : VK) (E : XK), Room k A → Env0 P w K mg base A outer s H → BindsTo s fd args (ps.zip us) → Vals vs us → sp vs H Q E →
    codeAny (model P w) A (.call (.ref f) args) (CR CX outer P w H s Q E) s
section
variable {X : Cx} {pins : List (Addr × Obj)} {σ : St} {H : Hp} {s s' : Shared}
/-- from a body: what a callee wants -/
theorem Inv.env0 (I : Inv X pins σ H s) : Env0 X.prog X.w X.K X.mg X.base X.A X.stack s H :=
  ⟨I.ok.frames, I.ok.mod, I.bs, Nat.le_trans I.ok.bsz I.sz, I.stack, I.stkFree, I.hok, I.bare⟩
/-- behind a call -/
theorem Inv.after {Q : VK} {u : Value} (I : Inv X pins σ H s) (h : CE X.stack X.prog X.w H s Q u s') : EP X pins σ Q u s' := by
  obtain ⟨v, H', os, bare, un, hok, r, q⟩ := h
  obtain ⟨hh, g, d, t, os'⟩ := s'
  obtain rfl : os' = s.os := os
  exact ⟨v, H', I.call (h' := hh) (g' := g) (d' := d) (t' := t) (ch := []) un hok bare (fun b z => absurd z (by simp)), r, q⟩
end

/-! ### calls -/
/-- f(..): the written arguments, then the defaults dvs; E: what is wanted of an exception -/
def tCall (sp : Sp) (dvs : List V) (E : XK) (t : TA) : TE := fun σ H Q => t σ H fun vs H1 => sp (vs ++ dvs) H1 Q E
/-- how the parameters are bound: us the positional arguments, kw the keywords' values by name, ds the defaults that fill up -/
def Binds (K : PySem.W.Frag) (fd : FuncData) (ps : List Str) (ds : List Value) : Prop :=
  ∀ (s : Shared) (us : List Value), K.In s.heap → (us ++ ds).length = ps.length → BindsTo s fd ⟨us, []⟩ (ps.zip (us ++ ds))
/-- every parameter is given -/
theorem Binds.all {K : PySem.W.Frag} {fd : FuncData} {ps : List Str} (h : ∀ us : List Value, us.length = ps.length → bindArgs fd ⟨us, []⟩ = pure (ps.zip us)) : Binds K fd ps [] := fun s us _ hl => by
  rw [List.append_nil] at hl ⊢
  exact .of_eq (h us hl)

/-- an exception of a callee reaches what this body wants of exceptions -/
def Passes (CX : CXT) (X : Cx) (E : XK) : Prop := ∀ (pins : List (Addr × Obj)) (σ : St) (H : Hp) (s : Shared) (e : Value) (s' : Shared), Inv X pins σ H s → CX X.stack H s E e s' → X.xe e s'

section
variable {X : Cx} {CX : CXT} {k : Nat} {f C : Addr} {fd : FuncData} {ps : List Str} {sp : Sp} {dvs : List V} {ds : List Value} {E : XK} {x m : Str} {p pos apos : Pos} {e o : Expr} {es : List Expr} {ta : TE} {t : TA}

/-- the callee runs -/
theorem run_fn {pins : List (Addr × Obj)} {σ : St} {H : Hp} {s : Shared} {Q : VK} {us : List Value} {vs : List V} (F : FnOk X.prog X.w X.K X.mg X.base CX k f fd ps sp) (hr : Room k X.A) (hb : Binds X.K fd ps ds) (hd : Vals dvs ds) (hx : Passes CX X E)
    (I : Inv X pins σ H s) (r : Vals vs us) (h : sp (vs ++ dvs) H Q E) : wpAny (model X.prog X.w) X.A (call (.ref f) us) (EP X pins σ Q) X.xe s := by
  have r2 : Vals (vs ++ dvs) (us ++ ds) := r.append hd
  have hl : (us ++ ds).length = ps.length := by rw [← r2.length]; exact F.len _ _ _ _ h
  refine wpAny_call (codeAny_mono (F.run X.A X.stack s H ⟨us, []⟩ (us ++ ds) (vs ++ dvs) Q E hr I.env0 (hb s us I.kIn hl) r2 h) fun r s' hq => ?_)
  cases r with
  | error e => exact hx pins σ H s e s' I hq
  | ok fl =>
    cases fl with
    | ret u => exact I.after hq
    | next => exact False.elim hq
    | brk => exact False.elim hq
    | cont => exact False.elim hq

theorem pe_call (F : FnOk X.prog X.w X.K X.mg X.base CX k f fd ps sp) (hr : Room k X.A) (hg : Gl X x) (hm : X.mg x = some (.ref f)) (hk : PySem.W.keepIn X.K (.ref f) = true) (hb : Binds X.K fd ps ds) (hd : Vals dvs ds) (hx : Passes CX X E)
    (ha : PA X (e :: es) t) (hdb : (x == ("__debug__" : Str)) = false := by decide) (he : starEach (e :: es) X.env = (false, eval e X.env) :: starEach es X.env := by rfl) (hpl : (backTo pos (starEach es X.env)).any (·.1) = false := by rfl) :
    PE X (.Call (.Name x p) (e :: es) [] pos) (tCall sp dvs E t) := by
  intro pins s σ H Q I h
  refine wpAny_Call_Name_kw (ld_glob I hg hm ?_ hdb)
  refine PySem.W.callWith_K (h₀ := X.base) I.ok.mod.kin hk (thn (ha pos pins s σ H _ I h) fun us s1 ⟨vs, H1, I1, r, q⟩ => ⟨I1.kIn, ?_⟩) he hpl
  exact run_fn F hr hb hd hx I1 r q
end

/-! ### keywords -/
section
variable {X : Cx} {CX : CXT} {k : Nat} {f C : Addr} {fd : FuncData} {ps ks : List Str} {sp : Sp} {E : XK} {x m : Str} {p pos apos kpos : Pos} {e o : Expr} {es : List Expr} {kws : List Keyword} {te ta : TE} {t tk : TA} {nm : Option Str}
variable {g : List Value → List Value → List Value} {gV : List V → List V → List V}
end

/-! ### a def's body keeps its promise -/
/-- names: the parameters first -/
structure FnScope (N P : List Str) (sc : Scope) : Prop where
  kind : sc.kind = .function
  co : sc.isCoroutine = false
  gen : sc.isGenerator = false
  nd : N.Nodup
  pre : N.take P.length = P
  par : ∀ x ∈ P, sc.names.lookup x = some .local ∨ sc.names.lookup x = some .cell
  nofree : ∀ y ∈ sc.names, y.2 ≠ .free

theorem bindL_out {kindOf : Str → Option NameKind} {x : Str} : ∀ {binds : List (Str × Value)} {m : Str → Option Value}, (∀ v, (x, v) ∉ binds) → bindL kindOf binds m x = m x
  | [], _, _ => rfl
  | (n, v) :: r, m, h => by
    unfold bindL
    rw [bindL_out fun w hw => h w (List.mem_cons_of_mem _ hw)]
    split
    · have : x ≠ n := by rintro rfl; exact h v List.mem_cons_self
      simp [this]
    · rfl
theorem bindC_out {kindOf : Str → Option NameKind} {x : Str} : ∀ {binds : List (Str × Value)} {m : Str → Option Value}, (∀ v, (x, v) ∉ binds) → bindC kindOf binds m x = m x
  | [], _, _ => rfl
  | (n, v) :: r, m, h => by
    unfold bindC
    rw [bindC_out fun w hw => h w (List.mem_cons_of_mem _ hw)]
    split
    · rfl
    · have : x ≠ n := by rintro rfl; exact h v List.mem_cons_self
      simp [this]
theorem bindL_get {kindOf : Str → Option NameKind} {x : Str} {v : Value} : ∀ {P : List Str} {vs : List Value} {i : Nat} {m : Str → Option Value}, P.Nodup → P[i]? = some x → vs[i]? = some v → kindOf x = some .local →
    bindL kindOf (P.zip vs) m x = some v
  | [], _, _, _, _, h, _, _ => by simp at h
  | _ :: _, [], _, _, _, _, h, _ => by simp at h
  | p :: P, w :: vs, 0, m, nd, h1, h2, hk => by
    simp at h1 h2; subst h1; subst h2
    show bindL kindOf ((p, w) :: P.zip vs) m p = _
    unfold bindL
    rw [bindL_out fun v hv => (List.nodup_cons.mp nd).1 (List.of_mem_zip hv).1, if_pos hk]
    simp
  | p :: P, w :: vs, i + 1, m, nd, h1, h2, hk => by
    show bindL kindOf ((p, w) :: P.zip vs) m x = _
    unfold bindL
    exact bindL_get (i := i) (List.nodup_cons.mp nd).2 (by simpa using h1) (by simpa using h2) hk
theorem bindC_get {kindOf : Str → Option NameKind} {x : Str} {v : Value} : ∀ {P : List Str} {vs : List Value} {i : Nat} {m : Str → Option Value}, P.Nodup → P[i]? = some x → vs[i]? = some v → kindOf x ≠ some .local →
    bindC kindOf (P.zip vs) m x = some v
  | [], _, _, _, _, h, _, _ => by simp at h
  | _ :: _, [], _, _, _, _, h, _ => by simp at h
  | p :: P, w :: vs, 0, m, nd, h1, h2, hk => by
    simp at h1 h2; subst h1; subst h2
    show bindC kindOf ((p, w) :: P.zip vs) m p = _
    unfold bindC
    rw [bindC_out fun v hv => (List.nodup_cons.mp nd).1 (List.of_mem_zip hv).1, if_neg hk]
    simp
  | p :: P, w :: vs, i + 1, m, nd, h1, h2, hk => by
    show bindC kindOf ((p, w) :: P.zip vs) m x = _
    unfold bindC
    exact bindC_get (i := i) (List.nodup_cons.mp nd).2 (by simpa using h1) (by simpa using h2) hk

/-- the names' values at the entry -/
def start (N : List Str) (vs : List V) : St := vs.map some ++ List.replicate (N.length - vs.length) none

/-- the context of a def's body, at its entry; an exception leaves the frame, then lies as CX says -/
def cxOf (CX : CXT) (P : Program) (w : World) (K : PySem.W.Frag) (mg : Str → Option Value) (base : Heap) (N : List Str) (qual : Str) (scope : Scope) (f : Addr) (cd : Value) (A : Around) (outer : List Env) (s : Shared) (H : Hp) (E : XK) : Cx where
  prog := P
  w := w
  K := K
  mg := mg
  base := base
  A := A.deeper (envOfC qual scope s.heap.objs.size f cd)
  N := N
  s₀ := s
  H₀ := H
  env := envOfC qual scope s.heap.objs.size f cd
  outer := outer
  stack := envOfC qual scope s.heap.objs.size f cd :: outer
  ex := []
  calm := true
  fn := fun _ => true
  pn := []
  xe := fun e s' => wpAny (model P w) (A.deeper (envOfC qual scope s.heap.objs.size f cd)) (leaving (envOfC qual scope s.heap.objs.size f cd) e) (fun _ s'' => CX outer H s E e s'') (fun e' s'' => CX outer H s E e' s'') s'

theorem cell_has {sc : Scope} {n : Nat} {x : Str} (h : sc.names.lookup x = some .cell) : ∃ c, (cellsFrom n sc.names []).lookup x = some c := by
  have q := PySem.W.cellsFrom_some sc.names n [] (.inl h)
  exact Option.isSome_iff_exists.mp q

theorem inv_start {CX : CXT} {P : Program} {w : World} {K : PySem.W.Frag} {mg : Str → Option Value} {base : Heap} {N ps : List Str} {qual : Str} {scope : Scope} {f : Addr} {cd : Value} {A : Around} {outer : List Env} {s s1 : Shared} {H : Hp} {E : XK} {us : List Value} {vs : List V}
    (S : FnScope N ps scope) (hd : A.handled = none) (e0 : Env0 P w K mg base A outer s H) (hl : vs.length = ps.length) (r : Vals vs us)
    (x : InCallC s s.heap.objs.size (bindL (envOfC qual scope s.heap.objs.size f cd).kindOf (ps.zip us) fun _ => none) (cellsFrom (s.heap.objs.size + 1) scope.names []) (bindC (envOfC qual scope s.heap.objs.size f cd).kindOf (ps.zip us) fun _ => none) s1) :
    Inv (cxOf CX P w K mg base N qual scope f cd A outer s H E) [] (start N vs) H s1 := by
  have hpl : ps.length ≤ N.length := by have := congrArg List.length S.pre; rw [List.length_take] at this; omega
  obtain ⟨h1, tk, rfl, hk⟩ := x.done
  have noA : ∀ b : Addr, b ∉ (cxOf CX P w K mg base N qual scope f cd A outer s H E).ex := fun b z => absurd (show b ∈ ([] : List Addr) from z) (by simp)
  refine ⟨⟨e0.mod, S.kind, rfl, rfl, Nat.le_refl _, fun y z c h1 h2 => ?_, fun y hy => ?_, fun y c _ h => ?_, fun _ => hd, Around.frames_deeper e0.frames, .inr ⟨rfl, rfl⟩, fun b z => absurd z (noA b), e0.bs, e0.bsz, fun b _ _ => noA b, fun b z => absurd z (noA b), e0.funs, e0.frf⟩,
    rfl, e0.bare, Un.kept hk, ⟨_, x.toInCall.ns, fun i y v h1 h2 h3 => ?_⟩, fun y c h => ⟨_, x.cell y c h⟩, e0.hok.fresh (Nat.le_refl _), fun y c h => ?_, fun p hp => absurd (show p ∈ ([] : List (Addr × Obj)) from hp) (by simp), e0.hok.kept hk, ?_⟩
  · exact name_of_addr x.apart (PySem.mem_of_lookup h1) (PySem.mem_of_lookup h2)
  · have hy : scope.names.lookup y = some .cell ∨ scope.names.lookup y = some .free := hy
    rcases hy with hy | hy
    · exact cell_has hy
    · exact absurd rfl (S.nofree _ (PySem.mem_of_lookup hy))
  · exact Nat.le_of_lt (x.above y c (PySem.mem_of_lookup h))
  · have hi : i < vs.length := by
      unfold start at h2
      by_cases hi : i < vs.length
      · exact hi
      · rw [List.getElem?_append_right (by simpa using hi)] at h2
        rw [List.getElem?_replicate] at h2
        split at h2 <;> cases h2
    have ha : vs[i]? = some v := by
      unfold start at h2
      rw [List.getElem?_append_left (by simpa using hi), List.getElem?_map] at h2
      cases e : vs[i]? with
      | none => rw [e] at h2; cases h2
      | some a => rw [e] at h2; cases h2; rfl
    obtain ⟨u, hu, rv⟩ := r.get ha
    have hp : ps[i]? = some y := by
      rw [← S.pre, List.getElem?_take_of_lt (by omega)]; exact h1
    have ndP : ps.Nodup := by rw [← S.pre]; exact S.nd.sublist (List.take_sublist _ _)
    refine ⟨u, rv, ?_⟩
    rcases S.par y (List.mem_of_getElem? hp) with k | k
    · exact .inl ⟨k, bindL_get ndP hp hu k⟩
    · obtain ⟨c, e⟩ := cell_has (n := s.heap.objs.size + 1) k
      refine .inr ⟨.inl k, c, e, ?_⟩
      have q := x.cell y c e
      rw [bindC_get ndP hp hu (by show scope.names.lookup y ≠ _; rw [k]; decide)] at q
      exact q
  · exact e0.hok.fresh (Nat.le_of_lt (x.above y c (PySem.mem_of_lookup h)))
  · unfold start
    show _ = N.length
    rw [List.length_append, List.length_map, List.length_replicate]
    omega

/-- THE RULE: a def (or a method) of the text, by its body. The body's reading t is chosen for each entry; it is run at the parameters' values -/
theorem fn_of {CX : CXT} {P : Program} {w : World} {K : PySem.W.Frag} {mg : Str → Option Value} {base : Heap} {k : Nat} {f : Addr} {name qual : Str} {params : Arguments} {body : List Stmt} {scope : Scope} {dV kV doc pm cdv ct oc : Value} {an od : Option Addr}
    {osl : Array (Option Value)} {N ps : List Str} {sp : Sp} (lk : K.lookup f = some ⟨oc, od, .func (PySem.W.fnOf name qual params body scope dV kV doc pm an cdv ct), osl⟩) (hcd : PySem.W.codeIn K cdv qual = true) (S : FnScope N ps scope)
    (len : ∀ vs H Q E, sp vs H Q E → vs.length = ps.length)
    (hbody : ∀ (A : Around) (outer : List Env) (s : Shared) (H : Hp) (vs : List V) (Q : VK) (E : XK), Room k (A.deeper (envOfC qual scope s.heap.objs.size f cdv)) → sp vs H Q E →
      ∃ t, PSs (cxOf CX P w K mg base N qual scope f cdv A outer s H E) body t ∧ t { nx := fun _ H' => Q .non H', rt := Q } (start N vs) H) :
    FnOk P w K mg base CX (k + 1) f (PySem.W.fnOf name qual params body scope dV kV doc pm an cdv ct) ps sp := by
  refine ⟨len, fun A outer s H args us vs Q E hr e0 hb r hsp => ?_⟩
  have hl := len _ _ _ _ hsp
  have KX : K.In s.heap := e0.mod.kin.keeps fun b o e => (e0.bs b o e).1
  have lim : s.heap.NoLimit := e0.mod.nolimit.keeps fun b o e => (e0.bs b o e).1
  have hkind : ∀ y ∈ ps.zip us, scope.names.lookup y.1 = some .local ∨ (scope.names.lookup y.1 = some .cell ∧ ((cellsFrom (s.heap.objs.size + 1) scope.names []).lookup y.1).isSome = true) := fun ⟨n, v⟩ hy => by
    rcases S.par n (List.of_mem_zip hy).1 with q | q
    · exact .inl q
    · exact .inr ⟨q, PySem.W.cellsFrom_some _ _ _ (.inl q)⟩
  refine codeAny_call_function hr.depth (KX _ _ lk) rfl S.co S.gen rfl (PySem.W.codeRec_of KX hcd) (hb _ _ _ _ ?_)
  refine wpAny_newFunctionEnv_cells S.kind hkind fun env he s1 x => ?_
  subst he
  refine ⟨lim.keeps x.toInCall.keep, codeAny_func ?_⟩
  obtain ⟨t, ht, hq⟩ := hbody A outer s H vs Q E (hr.deeper _) hsp
  have I : Inv (cxOf CX P w K mg base N qual scope f cdv A outer s H E) [] (start N vs) H s1 := inv_start S hr.hd e0 hl r x
  refine wpAny_mono (ht [] s1 (start N vs) H _ I hq) (fun fl s' hs => ?_) fun e s' hs => hs
  have fin : ∀ {σ' : St} {H' : Hp} {v : V} {u : Value}, Inv (cxOf CX P w K mg base N qual scope f cdv A outer s H E) [] σ' H' s' → RelV v u → Q v H' → CE outer P w H s Q u s' :=
    fun {σ' H' v u} J rv q => ⟨v, H', J.os, J.bare, J.base, J.hok, rv, q⟩
  cases fl with
  | ret u =>
    obtain ⟨v, σ', H', J, rv, q⟩ := hs
    exact fin J rv q
  | next =>
    obtain ⟨σ', H', J, q⟩ := hs
    exact fin (v := V.non) (u := Value.none) J rfl q
  | brk =>
    obtain ⟨_, _, _, q⟩ := hs
    exact False.elim q
  | cont =>
    obtain ⟨_, _, _, q⟩ := hs
    exact False.elim q
end L2

namespace L2
open PySem PySem.Spec PyProof.Rows
section
variable {X : Cx} {x : Str} {p pos : Pos} {e : Expr} {es : List Expr} {t : TA} {id T : String} {r : List V → Hp → VK → Prop}

def tCB (r : List V → Hp → VK → Prop) (t : TA) : TE := fun σ H Q => t σ H fun vs H1 => r vs H1 Q
/-- f(e, ..), f a built-in function -/
theorem pe_callB (hc : CallR X (.builtin id) r) (hg : Gl X x) (hm : X.mg x = none) (hv : bootBuiltins x = some (.builtin id)) (ha : PA X (e :: es) t) (hn : x ≠ "__name__" := by decide) (hdb : (x == ("__debug__" : Str)) = false := by decide)
    (he : starEach (e :: es) X.env = (false, eval e X.env) :: starEach es X.env := by rfl) (hpl : (backTo pos (starEach es X.env)).any (·.1) = false := by rfl) : PE X (.Call (.Name x p) (e :: es) [] pos) (tCB r t) := by
  intro pins s σ H Q I h
  refine wpAny_Call_Name_kw (ld_blt I hg hm hv ?_ hn hdb)
  exact PyProof.Rows.callWith_builtin1 (thn (ha pos pins s σ H _ I h) fun us s1 ⟨vs, H1, I1, r1, q1⟩ => hc pins s1 σ H1 vs us Q I1 r1 q1) he hpl
/-- T(e, ..), T a built-in type -/
theorem pe_callTy (hc : CallR X (.type T) r) (hg : Gl X x) (hm : X.mg x = none) (hv : bootBuiltins x = some (.type T)) (ha : PA X (e :: es) t) (hn : x ≠ "__name__" := by decide) (hdb : (x == ("__debug__" : Str)) = false := by decide)
    (he : starEach (e :: es) X.env = (false, eval e X.env) :: starEach es X.env := by rfl) (hpl : (backTo pos (starEach es X.env)).any (·.1) = false := by rfl) : PE X (.Call (.Name x p) (e :: es) [] pos) (tCB r t) := by
  intro pins s σ H Q I h
  refine wpAny_Call_Name_kw (ld_blt I hg hm hv ?_ hn hdb)
  exact PyProof.Rows.callWith_type1 (thn (ha pos pins s σ H _ I h) fun us s1 ⟨vs, H1, I1, r1, q1⟩ => hc pins s1 σ H1 vs us Q I1 r1 q1) he hpl
end
end L2

namespace HT
open PySem PyProof.Rows

section
open PySem.SeqAt
open PySem.AutoSeq1 (wpAny_loadPart')
open PySem.MeetsSeq PySem.MeetsSeq2 PySem.MeetsSeq3

end

section
variable {prog : Program} {w : World} {A : Around} {E : Value → Shared → Prop} {s : Shared}

/-! ### t[a:b], not the whole -/
end
end HT

namespace L2
open PySem PySem.Spec PyProof.Rows

/-! ### the parts of a slice -/
abbrev TO := St → Hp → (Option Int → Hp → Prop) → Prop
/-- a slice's part (left out, or an int) -/
def PO (X : Cx) (e : Option Expr) (t : TO) : Prop :=
  ∀ (pins : List (Addr × Obj)) (s : Shared) (σ : St) (H : Hp) (Q : Option Int → Hp → Prop), Inv X pins σ H s → t σ H Q →
    wpAny (model X.prog X.w) X.A (evalPart e X.env) (fun u s' => ∃ o H', Inv X pins σ H' s' ∧ IsPart u o ∧ Q o H') X.xe s
def tNoPart : TO := fun _ H Q => Q none H
def tPart (t : TE) : TO := fun σ H Q => t σ H fun x H1 => ∃ i, x = .int i ∧ Q (some i) H1

section
variable {X : Cx} {e : Expr} {te : TE} {lo hi : Option Expr} {tl th : TO} {pos p2 : Pos}

theorem po_none : PO X none tNoPart := by
  intro pins s σ H Q I h
  rw [evalPart_none]
  exact wpAny_pure ⟨none, H, I, .none, h⟩
theorem po_some (h : PE X e te) : PO X (some e) (tPart te) := by
  intro pins s σ H Q I hw
  rw [evalPart_some]
  refine thn (h pins s σ H _ I hw) fun u s1 ⟨x, H1, I1, r1, q1⟩ => ?_
  obtain ⟨i, rfl, q⟩ := q1
  obtain ⟨t, rfl⟩ := r1
  exact ⟨some i, H1, I1, .int i t, q⟩

/-- what a slice of a value is, by values: the slice object stands at sl -/
def SlR (X : Cx) (r : V → Option Int → Option Int → Hp → VK → Prop) : Prop :=
  ∀ (pins : List (Addr × Obj)) (s : Shared) (σ : St) (H : Hp) (x : V) (v vl vu : Value) (lo hi : Option Int) (sl : Addr) (Q : VK), Inv X pins σ H s → RelV x v → s.heap.IsSliceOf sl vl vu .none → IsPart vl lo → IsPart vu hi → r x lo hi H Q →
    ∃ T id, typeLookup (.type T) "__getitem__" = pure (some (.builtin id)) ∧ s.TypeIs v T ∧ wpAny (model X.prog X.w) X.A (getItem v (.ref sl)) (EP X pins σ Q) X.xe s
def tSl (r : V → Option Int → Option Int → Hp → VK → Prop) (te : TE) (tl th : TO) : TE := fun σ H Q => te σ H fun x H1 => tl σ H1 fun l H2 => th σ H2 fun u H3 => r x l u H3 Q
/-- a[lo:hi], any a -/
theorem pe_slice {r : V → Option Int → Option Int → Hp → VK → Prop} (hr : SlR X r) (he : PE X e te) (hl : PO X lo tl) (hu : PO X hi th) : PE X (.Subscript e (.Slice lo hi none p2) pos) (tSl r te tl th) := by
  intro pins s σ H Q I h
  refine Subscript_ (thn (he pins s σ H _ I h) fun v s1 ⟨x, H1, I1, r1, q1⟩ => ?_)
  refine wpAny_Slice (thn (hl pins s1 σ H1 _ I1 q1) fun vl s2 ⟨l, H2, I2, pl, q2⟩ => thn (hu pins s2 σ H2 _ I2 q2) fun vu s3 ⟨u, H3, I3, pu, q3⟩ => ?_)
  rw [evalPart_none]
  refine wpAny_pure ?_
  have I4 : Inv X pins σ H3 { s3 with heap := s3.heap.push { cls := .type "slice", data := .fields #[vl, vu, .none] } } := I3.kept (t' := s3.toks) fun b ob q => Heap.get?_push_of_some _ q
  obtain ⟨T, id, hT, ht, hg⟩ := hr pins { s3 with heap := s3.heap.push { cls := .type "slice", data := .fields #[vl, vu, .none] } } σ H3 x v vl vu l u s3.heap.objs.size Q I4 r1 (Heap.IsSliceOf.new ..) pl pu q3
  show wpAny (model X.prog X.w) X.A (subscriptTail e (.Slice lo hi none p2) v (.ref s3.heap.objs.size)) (EP X pins σ Q) X.xe { s3 with heap := s3.heap.push { cls := .type "slice", data := .fields #[vl, vu, .none] } }
  exact tail_any (ops := [.ref s3.heap.objs.size, v]) ht hT hg (by with_unfolding_all rfl)

/-! ### t < u, t + u -/
end
end L2

namespace L2
open PySem PySem.Spec PyProof.Rows

/-! ### places -/
/-- the place that an index of any sign means -/
def ixN (n : Nat) (i : Int) : Option Nat := if 0 ≤ i then (if i < n then some i.toNat else none) else if -(n : Int) ≤ i then some (i + n).toNat else none
def atI {α : Type} (xs : List α) (i : Int) : Option α := (ixN xs.length i).bind fun j => xs[j]?
theorem ixN_seq {n : Nat} {i : Int} {j : Nat} (h : ixN n i = some j) : seqIndex? i n = some j ∧ j < n ∧ -(n : Int) ≤ i ∧ i < n := by
  unfold ixN at h
  by_cases h0 : 0 ≤ i
  · rw [if_pos h0] at h
    by_cases h1 : i < n
    · rw [if_pos h1] at h
      have e : i.toNat = j := Option.some.inj h
      exact ⟨by rw [seqIndex_of h0 h1, e], by omega, by omega, h1⟩
    · rw [if_neg h1] at h; cases h
  · rw [if_neg h0] at h
    by_cases h1 : -(n : Int) ≤ i
    · rw [if_pos h1] at h
      have e : (i + n).toNat = j := Option.some.inj h
      exact ⟨by rw [seqIndex_neg (by omega) h1, e], by omega, h1, by omega⟩
    · rw [if_neg h1] at h; cases h
theorem atI_get {α : Type} {xs : List α} {i : Int} {v : α} (h : atI xs i = some v) : ∃ j, seqIndex? i xs.length = some j ∧ xs[j]? = some v ∧ j < xs.length ∧ -(xs.length : Int) ≤ i ∧ i < xs.length := by
  unfold atI at h
  cases e : ixN xs.length i with
  | none => rw [e] at h; cases h
  | some j =>
    rw [e] at h
    obtain ⟨h1, h2, h3, h4⟩ := ixN_seq e
    exact ⟨j, h1, h, h2, h3, h4⟩
/-! ### what may be subscripted -/
/-- what stands as an index of a plain subscript -/
def PlainIx (b : Expr) : Prop := ∀ o i, subscripted b false o i = operate [o, i] (getItem o i)
/-- a subscript by values -/
def IxR (X : Cx) (r : R2) : Prop :=
  ∀ (value slice : Expr) (pins : List (Addr × Obj)) (s : Shared) (σ : St) (H : Hp) (x y : V) (v u : Value) (Q : VK), Inv X pins σ H s → RelV x v → RelV y u → r x y H Q →
    subscripted slice false v u = operate [v, u] (getItem v u) → wpAny (model X.prog X.w) X.A (subscriptTail value slice v u) (EP X pins σ Q) X.xe s
/-- a call of a builtin's method by values: the receiver, the arguments -/
def MtR (X : Cx) (id : String) (r : V → List V → Hp → VK → Prop) : Prop :=
  ∀ (pins : List (Addr × Obj)) (s : Shared) (σ : St) (H : Hp) (x : V) (xs : List V) (v : Value) (us : List Value) (Q : VK), Inv X pins σ H s → RelV x v → Vals xs us → r x xs H Q →
    wpAny (model X.prog X.w) X.A (call (.builtin id) (v :: us)) (EP X pins σ Q) X.xe s
section
variable {X : Cx} {a b : Expr} {ta tb : TE} {pos : Pos}
/-- a[b] -/
theorem pe_ix {r : R2} (hr : IxR X r) (ha : PE X a ta) (hb : PE X b tb) (hs : PlainIx b) : PE X (.Subscript a b pos) (tOp r ta tb) := by
  intro pins s σ H Q I h
  exact Subscript_ (binT ha hb I h fun v u s2 x y H2 I2 rx ry q => hr a b pins s2 σ H2 x y v u Q I2 rx ry q (hs _ _))

def rIxL (K : PySem.W.Frag) : R2 := fun x y H Q => ∃ p xs i v, x = .ref p ∧ y = .int i ∧ SqL K H p xs ∧ atI xs i = some v ∧ Q v H
def rIxS : R2 := fun x y H Q => ∃ z i c, x = .str z ∧ y = .int i ∧ z.length ≤ sizeLine ∧ atI z.cps.toList i = some c ∧ Q (.str ⟨#[c]⟩) H
theorem ix_list : IxR X (rIxL X.K) := by
  intro value slice pins s σ H x y v u Q I rx ry h hs
  obtain ⟨p, xs, i, z, rfl, rfl, hq, he, q⟩ := h
  cases rx
  obtain ⟨t, rfl⟩ := ry
  obtain ⟨its, r, pl, hz⟩ := I.list hq
  obtain ⟨j, h1, h2, h3, h4, h5⟩ := atI_get he
  obtain ⟨w, ew, rw'⟩ := r.get h2
  have hl := r.length
  have hn := line63
  have fin : EP X pins σ Q w s := ⟨z, H, I, rw', q⟩
  by_cases h0 : 0 ≤ i
  · have hj : i.toNat = j := by
      rw [seqIndex_of h0 h5] at h1
      exact Option.some.inj h1
    exact item_listR pl.isList h0 (by omega) (by rw [hj]; simpa using ew) fin hs
  · have hj : (i + (its.toArray.size : Int)).toNat = j := by
      rw [seqIndex_neg (by omega) h4] at h1
      rw [List.size_toArray, ← hl]
      exact Option.some.inj h1
    exact subscriptTail_builtinR (x := w) pl.isList.typeIs slot_list_getitem.lookup
      (wpAny_getItem_list_neg (Q := fun r s' => r = w ∧ EP X pins σ Q r s') pl.isList (by omega) (by rw [List.size_toArray] <;> omega) (by omega) (by rw [hj]; simpa using ew) ⟨rfl, fin⟩) hs
theorem ix_str : IxR X rIxS := by
  intro value slice pins s σ H x y v u Q I rx ry h hs
  obtain ⟨z, i, c, rfl, rfl, hz, he, q⟩ := h
  obtain ⟨t, rfl⟩ := rx
  obtain ⟨t', rfl⟩ := ry
  obtain ⟨j, h1, h2, h3, h4, h5⟩ := atI_get he
  have hl : z.cps.toList.length = z.length := by simp [Str.length]
  rw [hl] at h1 h4 h5
  have hn := line63
  exact tail_any (typeIs_str s z t) slot_str_getitem.lookup (getItem_str (c := c) (by
    have e1 : decide (i < -(2 ^ 63 : Int)) = false := decide_eq_false (by omega)
    have e2 : decide (i ≥ 2 ^ 63) = false := decide_eq_false (by omega)
    rw [e1, e2, Bool.or_false]) (by rw [h1]; simpa using h2) ⟨.str ⟨#[c]⟩, H, I.tok _, ⟨_, rfl⟩, q⟩) hs
/-! ### xs[i] = v, any sign -/
/-! ### slices -/
/-! ### in, not in: flat items -/
/-! ### len, list(x), tuple(x) of any list or tuple that is read -/
/-! ### the call of a builtin's method: o.m(..) -/
/-- the value is of that builtin type -/
def tyV (K : PySem.W.Frag) (T : String) (x : V) (H : Hp) : Prop := match x with
  | .str _ => T = "str"
  | .int _ => T = "int"
  | .ref p => (T = "list" ∧ ∃ xs, SqL K H p xs) ∨ (T = "tuple" ∧ ∃ o, K.lookup p = some o ∧ o.cls = .type "tuple" ∧ o.dict = none) ∨
      (T = "dict" ∧ ((∃ kvs, H p = some (.dK kvs)) ∨ ∃ kvs, H p = some (.dT kvs))) ∨ (T = "set" ∧ ∃ S n, H p = some (.set S n))
  | _ => False
theorem tyV_is {pins : List (Addr × Obj)} {σ : St} {H : Hp} {s : Shared} {T : String} {x : V} {v : Value} (I : Inv X pins σ H s) (r : RelV x v) (ty : tyV X.K T x H) :
    s.TypeIs v T ∧ ∀ a, v = .ref a → ∃ ob, s.heap.get? a = some ob ∧ ob.dict = none := by
  cases x with
  | str z =>
    obtain ⟨t, rfl⟩ := r
    cases (show T = "str" from ty)
    exact ⟨typeIs_str s z t, fun _ e => nomatch e⟩
  | int i =>
    obtain ⟨t, rfl⟩ := r
    cases (show T = "int" from ty)
    exact ⟨typeIs_int s i t, fun _ e => nomatch e⟩
  | ref p =>
    cases r
    rcases ty with ⟨rfl, xs, hq⟩ | ⟨rfl, o, hk, hc, hd⟩ | ⟨rfl, hk⟩ | ⟨rfl, S, n, hk⟩
    · obtain ⟨its, _, pl, _⟩ := I.list hq
      refine ⟨pl.isList.typeIs, fun a e => ?_⟩
      cases e
      obtain ⟨o, n, e, c, hd, _⟩ := pl
      exact ⟨o, e, hd⟩
    · refine ⟨⟨o, I.kIn p o hk, hc⟩, fun a e => ?_⟩
      cases e
      exact ⟨o, I.kIn _ o hk, hd⟩
    · have z : ∃ o, s.heap.get? p = some o ∧ o.ExactDict := by
        rcases hk with ⟨kvs, hk⟩ | ⟨kvs, hk⟩
        · obtain ⟨_, _, _, _, o, _, _, e, ex, _⟩ := I.hok p _ hk
          exact ⟨o, e, ex⟩
        · obtain ⟨_, _, _, _, o, _, _, e, ex, _⟩ := I.hok p _ hk
          exact ⟨o, e, ex⟩
      obtain ⟨o, e, ex⟩ := z
      refine ⟨⟨o, e, ex.1⟩, fun a e2 => ?_⟩
      cases e2
      exact ⟨o, e, ex.2.1⟩
    · obtain ⟨o, _, _, _, e, ex, _⟩ := I.hok p _ hk
      refine ⟨⟨o, e, ex.1⟩, fun a e2 => ?_⟩
      cases e2
      exact ⟨o, e, ex.2.1⟩
  | _ => exact False.elim ty
def tBM (K : PySem.W.Frag) (T : String) (r : V → List V → Hp → VK → Prop) (to : TE) (t : TA) : TE := fun σ H Q => to σ H fun x H1 => tyV K T x H1 ∧ t σ H1 fun xs H2 => r x xs H2 Q
variable {o e : Expr} {es : List Expr} {to : TE} {t : TA} {name : Str} {apos cpos : Pos} {T id : String} {r : V → List V → Hp → VK → Prop}
theorem pe_bm (pa : PlainAttrs T) (slot : Slot T name id) (hty : typeOf (.builtin id) = pure (.type "method_descriptor")) (hm : MtR X id r) (ho : PE X o to) (ha : PA X (e :: es) t)
    (hbase : attributeBase o name X.env (eval o X.env) = eval o X.env := by rfl)
    (hfew : ((backTo cpos (starEach (e :: es) X.env)).all (fun x => !x.1) && (backToKw cpos (keywordEach [] X.env)).all (fun x => x.1.isSome)
      && decide ((e :: es).length + ([] : List Keyword).length + (if ([] : List Keyword).isEmpty then 0 else 1) < 30)) = true := by rfl)
    (hline : (apos.endLine == cpos.line) = true := by rfl) (hs : starEach (e :: es) X.env = (false, eval e X.env) :: starEach es X.env := by rfl) (hplain : (backTo cpos (starEach es X.env)).any (·.1) = false := by rfl) :
    PE X (.Call (.Attribute o name apos) (e :: es) [] cpos) (tBM X.K T r to t) := by
  intro pins s σ H Q I h
  refine wpAny_Call_method_late hbase hfew hline rfl (thn (ho pins s σ H _ I h) fun v s1 ⟨x, H1, I1, r1, ty, q1⟩ => ?_)
  obtain ⟨h1, h2⟩ := tyV_is I1 r1 ty
  refine ⟨T, id, pa, slot, hty, h1, h2, ?_⟩
  have hA := ha cpos pins s1 σ H1 _ I1 q1
  rw [hs] at hA ⊢
  refine Calls.callWith_builtin (by show (false || (backTo cpos (starEach es X.env)).any (·.1)) = false; rw [hplain] <;> rfl) (Calls.evalArgs_plain ?_)
  exact thn hA fun us s2 ⟨vs, H2, I2, r2, q2⟩ => hm pins s2 σ H2 x vs v us Q I2 r1 r2 q2
/- xs.append(e), list.index on a module's tuple .. are MtR facts of 06m -/
end
end L2

namespace L2
open PySem PySem.Spec PyProof.Rows

def MtM (X : Cx) (id : String) (r : V → List V → Hp → VK → Prop) : Prop :=
  ∀ (pins : List (Addr × Obj)) (s : Shared) (σ : St) (H : Hp) (x : V) (xs : List V) (v : Value) (us : List Value) (Q : VK), Inv X pins σ H s → RelV x v → Vals xs us → r x xs H Q →
    wpAny (model X.prog X.w) X.A (call (.builtin id) (v :: us)) (EP X pins σ Q) X.xe s

/-! ### lists of values -/
theorem Vals.one : ∀ {x : V} {us : List Value}, Vals [x] us → ∃ u, us = [u] ∧ RelV x u
  | _, _, .cons r .nil => ⟨_, rfl, r⟩
section
variable {X : Cx} {pins : List (Addr × Obj)} {σ : St} {H : Hp} {s : Shared} {l b : Addr} {xs ys zs : List V}

/-! ### the two steps: a tracked list is rewritten, a new list is laid -/
theorem Inv.lset {its its' : List Value} {n : Nat} {f : Array Value → Array Value} {t' : Nat} (I : Inv X pins σ H s) (hH : H l = some (.lst xs))
    (e : s.heap.get? l = some { cls := .type "list", data := .seq its.toArray n }) (hf : f its.toArray = its'.toArray) (hv : Vals ys its') (hz : ys.length ≤ sizeLine) :
    Inv X pins σ (upd H l (.lst ys)) { s with heap := s.heap.update l (Obj.mapSeq f), toks := t' } := by
  have q := PySem.IsL.update e f
  rw [hf] at q
  refine I.write (x := l) (e := l) (by rw [hH]; exact trivial) (.inl rfl) (fun b' u hb hu => (Heap.get?_update_other s.heap (Obj.mapSeq f) (Ne.symm hb)).trans hu) ⟨_, q⟩ ?_
  exact ⟨hz, its', _, hv, q⟩
theorem Inv.lnew {its : List Value} {t' : Nat} (I : Inv X pins σ H s) (hv : Vals ys its) (hz : ys.length ≤ sizeLine) :
    Inv X pins σ (upd H s.heap.objs.size (.lst ys)) { s with heap := s.heap.push { cls := .type "list", data := .seq its.toArray }, toks := t' } :=
  I.laid (fun _ _ q => Heap.get?_push_of_some _ q) (Nat.le_refl _) ⟨hz, its, 0, hv, Heap.get?_push_size _ rfl⟩
theorem Inv.fresh (I : Inv X pins σ H s) : H s.heap.objs.size = none := I.hok.fresh (Nat.le_refl _)
theorem Inv.lstM (I : Inv X pins σ H s) (hH : H l = some (.lst xs)) : xs.length ≤ sizeLine ∧ ∃ (its : List Value) (n : Nat), Vals xs its ∧ xs.length = its.length ∧ s.heap.get? l = some { cls := .type "list", data := .seq its.toArray n } := by
  obtain ⟨z, its, n, r, e⟩ := I.hok l _ hH
  exact ⟨z, its, n, r, r.length, e⟩

end

section
variable {X : Cx}

/-! ### methods -/
def rAppend : V → List V → Hp → VK → Prop := fun x vs H Q => ∃ l xs y, x = .ref l ∧ vs = [y] ∧ H l = some (.lst xs) ∧ xs.length < sizeLine ∧ Q .non (upd H l (.lst (xs ++ [y])))
theorem mt_append : MtM X "list.append" rAppend := by
  intro pins s σ H x vs v us Q I rx rv h
  obtain ⟨l, xs, y, rfl, rfl, hH, hz, q⟩ := h
  cases rx
  obtain ⟨u, rfl, ru⟩ := rv.one
  obtain ⟨z, its, n, r, hl, e⟩ := I.lstM hH
  refine call_meets F.slot_list_append ⟨_, e, rfl⟩ F.entry_list_append (F.args_list_append_2 _ _) (PySem.list_append l its.toArray n u (by rw [List.size_toArray]; omega)) ⟨e, ?_⟩
  refine ⟨.non, _, I.lset (its' := its ++ [u]) hH e (by simp) (r.append (.cons ru .nil)) ?_, rfl, q⟩
  rw [List.length_append, List.length_singleton]
  omega

/-! ### list + list, list += list, list * int -/
/-! ### del xs[i] -/
end

/-! ### xs[a:b] = ys -/
section
variable {prog : Program} {w : World} {A : Around} {E : Value → Shared → Prop} {s : Shared}
end

section
variable {X : Cx}
end
end L2

namespace L2
open PySem PySem.Spec PyProof.Rows

/-! ### lists of pairs as tables -/
section
variable {κ : Type} [DecidableEq κ]
end


/-! ### a tracked dict, its keys ints and texts or tuples of these -/
section
variable {P : Program} {w : World} {H : Hp} {h : Heap} {a : Addr}
end

section
variable {X : Cx} {pins : List (Addr × Obj)} {σ : St} {H : Hp} {s : Shared} {a : Addr} {y v : V} {u r : Value} {o : Option V} {A : Around} {E : Value → Shared → Prop}

end

section
variable {X : Cx} {pins : List (Addr × Obj)} {σ : St} {H : Hp} {s : Shared} {a : Addr} {kvs : List (Key × V)} {k : Key} {u : Value} {A : Around} {E : Value → Shared → Prop}
end


/-! ### readings and rules -/
section
variable {X : Cx} {o i e value : Expr} {pos pos' tpos : Pos} {td ty tv : TE}
end


/-! ### displays -/
section
variable {X : Cx} {pos : Pos}
end

/-! ### methods -/
section
variable {X : Cx} {pins : List (Addr × Obj)} {σ : St} {H : Hp} {s : Shared} {a : Addr} {y d : V} {u r : Value} {o : Option V} {A : Around} {E : Value → Shared → Prop}
end

section
variable {X : Cx} {o e f : Expr} {apos cpos : Pos} {td ty tx : TE}
end

/-! ### dict(d): a copy -/
section
variable {X : Cx} {pins : List (Addr × Obj)} {σ : St} {H : Hp} {s : Shared} {a : Addr} {kvs : List (Key × V)} {A : Around} {E : Value → Shared → Prop}
end


section
variable {X : Cx} {pins : List (Addr × Obj)} {σ : St} {H : Hp} {s : Shared} {a : Addr} {y : V} {u : Value} {A : Around} {E : Value → Shared → Prop}
end
end L2

namespace Att
open PySem PySem.W PySem.Calls PyProof.Rows

/-! ### the script -/
theorem ints_of_wellAll {P : Params} {h : Heap} : ∀ (ns : List Int) (vs : List Value), WellAll P h vs (ns.map WData.int) → IntsAre vs ns := by
  intro ns
  induction ns with
  | nil =>
    intro vs w
    rw [List.map_nil] at w
    cases w
    exact .nil
  | cons n ns ih =>
    intro vs w
    rw [List.map_cons] at w
    cases w with
    | cons a b =>
      cases a
      exact .cons _ _ (ih _ b)

theorem script_of {l : OpenLaw} {n : Nat} (hn : l.most = some n) {P : Params} {h : Heap} {args : List WData} {vals : List Value}
    (hpre : l.row.toRowW.claim.pre args = true) (hwl : WellAll P h vals args) :
    ∃ a vs ns, vals = [Value.ref a] ∧ args = [WData.list (ns.map WData.int)] ∧ h.get? a = some { cls := .type "list", data := .seq vs.toArray } ∧ IntsAre vs ns ∧ ns.length ≤ n := by
  have hsh : WShape.hasAll [] args [.list .int] = true := (pre_splitW hpre).1
  have hc : l.pre.holds [] { args := args } = true := (pre_splitW hpre).2
  obtain ⟨d, r, rfl, h1, h2⟩ := hasAllW_cons hsh
  obtain rfl := hasAllW_nil h2
  obtain ⟨xs, rfl, h3⟩ := hasW_list h1
  obtain ⟨ns, rfl⟩ := items_int h3
  have hlen : ns.length ≤ n := by
    unfold OpenLaw.pre at hc
    have h4 : (WTm.not (.lt (.lit (.int (n : Int))) (.len (.arg 0)))).holds [] { args := [.list (ns.map .int)] } = true := by
      have h4 := (holds_andW hc).1
      rw [hn] at h4
      exact h4
    have h5 := condW_of h4 (w_not (w_lt w_lit (w_len_list (w_arg rfl))))
    rw [List.length_map] at h5
    refine Nat.le_of_not_lt fun q => ?_
    have q' : (n : Int) < ((ns.length : Nat) : Int) := by omega
    first
      | (rw [decide_eq_true q'] at h5; exact absurd h5 (by decide))
      | (simp at h5; omega)
  cases hwl with
  | cons w1 w2 =>
    cases w2
    cases w1 with
    | list ho hall => exact ⟨_, _, ns, rfl, rfl, ho, ints_of_wellAll ns _ hall, hlen⟩

theorem post_true (l : OpenLaw) (args : List WData) : l.row.toRowW.claim.post args (.bool true) args = true :=
  postW_of (r := l.row.toRowW) (X := (true == true))
    (show WShape.has [] (.bool true) .bool = true by first | rfl | decide | simp [WShape.has, WShape.arms, WShape.armsAll])
    (show (WTm.eq .res (.lit (.bool true))).value [] { args := args, res := some (.bool true), after := args } = some (.bool (true == true)) from w_eq_bool (w_res rfl) w_lit) rfl

/-! ### the attachment: holds_open's last premise (the goal 'hc' behind k_head) from a wpAny of the law's body -/
/-! ### rules over ANY heap (no ledger) from facts about the written part K: the library's own take a ledger (News) for what they write -/
section
variable {prog : Program} {w : World} {A : Around} {E : Value → Shared → Prop} {s : Shared} {K : Frag}

/-! the whole heap as the ledger: makes every rule that writes through a ledger a rule over any heap -/
end
end Att

namespace L2
open PySem PySem.Spec PyProof.Rows

theorem vals_ints : ∀ {vs : List Value} {ns : List Int}, IntsAre vs ns → Vals (ns.map V.int) vs
  | _, _, .nil => .nil
  | _, _, .cons n t h => .cons ⟨t, rfl⟩ (vals_ints h)

/-- nothing is tracked but the script, known to the object (or it is an object of the module) -/
def Only (H : Hp) : Prop := ∀ b, H b = none ∨ ∃ o xs, H b = some (.frz o (.lst xs))

/-- THE HEAD: the law's promise, at the heap behind the top. F, the promise of the law's def, may use that base is part of the heap (so K.In base, base.Ns mainGlobals mg stand in Mod) -/
theorem law_call {P : Program} {w : World} {K : PySem.W.Frag} {mg mb : Str → Option Value} {CX : CXT} {k : Nat} {fa a : Addr} {fd : FuncData} {x : Str} {sp : Sp} {s₁ : Shared} {vs : List Value} {ns : List Int}
    (KX : K.In s₁.heap) (hns : s₁.heap.Ns mainGlobals mg) (hb : s₁.heap.Ns builtinsNs mb) (hbb : ∀ x : Str, x ≠ "__name__" → mb x = bootBuiltins x) (hlim : s₁.heap.NoLimit) (hg : s₁.gens = #[])
    (ha : s₁.heap.get? a = some { cls := .type "list", data := .seq vs.toArray }) (hi : IntsAre vs ns) (hl : ns.length ≤ sizeLine) (hr : Room k callerA)
    (F : ∀ base : Heap, K.In base → base.Ns mainGlobals mg → FnOk P w K mg base CX k fa fd [x] sp) (hbind : ∀ (s : Shared) (u : Value), BindsTo s fd ⟨[u], []⟩ [(x, u)])
    (hsp : ∀ H : Hp, Only H → SqL K H a (ns.map V.int) → sp [.ref a] H (fun v _ => v = .bl true) fun _ _ _ => False)
    (hCX : ∀ H e s', CX [] H s₁ (fun _ _ _ => False) e s' → False) :
    codeAny (model P w) callerA (.call (.ref fa) ⟨[.ref a], []⟩) (fun r s' => r = .ok (.ret (.bool true)) ∧ OldK s₁.heap s'.heap ∧ s'.os = s₁.os ∧ AllBare s'.gens) s₁ := by
  have rv := vals_ints hi
  have lenV := hi.length
  -- from an abstract heap in which nothing but the script may be tracked
  have core : ∀ H : Hp, Only H → SqL K H a (ns.map V.int) → HOk P w H s₁.heap → (∀ b, H b ≠ none → b = a) → (H a ≠ none → K.lookup a = none) →
      codeAny (model P w) callerA (.call (.ref fa) ⟨[.ref a], []⟩) (fun r s' => r = .ok (.ret (.bool true)) ∧ OldK s₁.heap s'.heap ∧ s'.os = s₁.os ∧ AllBare s'.gens) s₁ := by
    intro H hO hS hok hA hK
    have base_of : ∀ {b : Addr} {o : Obj}, s₁.heap.get? b = some o → H b = none → (hidT s₁.heap H).get? b = some o := fun e n => hidT_get e n
    have noA : ∀ {b : Addr} {o : Obj} {es : Array DictEntry} {ep : Nat}, s₁.heap.get? b = some o → o.data = .dict es ep → H b = none := fun {b o es ep} e d => by
      cases q : H b with
      | none => rfl
      | some u =>
        have e' : b = a := hA b (by rw [q]; simp)
        subst e'
        rw [ha] at e; cases e
        have d' : Data.seq vs.toArray _ = Data.dict es ep := d
        cases d'
    have nsK : ∀ {b : Addr} {m : Str → Option Value}, s₁.heap.Ns b m → (hidT s₁.heap H).Ns b m := fun {b m} ⟨o, es, ep, e, d, r⟩ => ⟨o, es, ep, base_of e (noA e d), d, r⟩
    have hKb : K.In (hidT s₁.heap H) := fun b o e => base_of (KX b o e) (by
      cases q : H b with
      | none => rfl
      | some u =>
        have e' : b = a := hA b (by rw [q]; simp)
        subst e'
        rw [hK (by rw [q]; simp)] at e; cases e)
    have hM : Mod K mg (hidT s₁.heap H) := ⟨hKb, nsK hns, ⟨mb, nsK hb, hbb⟩, let ⟨mc, h1, h2⟩ := hlim; ⟨mc, nsK h1, h2⟩⟩
    have e0 : Env0 P w K mg (hidT s₁.heap H) callerA [] s₁ H := ⟨rfl, hM, fun b o e => of_hidT e, Nat.le_of_eq (hidT_size _ _), trivial, fun b hb => absurd (show b ∈ ([] : List Addr) from hb) (by simp), hok, .of_eq hg⟩
    refine codeAny_mono ((F _ hKb (nsK hns)).run callerA [] s₁ H ⟨[.ref a], []⟩ [.ref a] [.ref a] _ _ hr e0 (hbind s₁ (.ref a)) (.cons rfl .nil) (hsp H hO hS)) fun r s' h => ?_
    cases r with
    | error e => exact (hCX H e s' h).elim
    | ok fl =>
      cases fl with
      | next => exact False.elim h
      | brk => exact False.elim h
      | cont => exact False.elim h
      | ret u =>
        obtain ⟨v, H', os, bare, un, hok', r', q⟩ := h
        have q' : v = .bl true := q
        subst q'
        obtain rfl : u = Value.bool true := r'
        refine ⟨rfl, OldK.of_keep fun b o e => ?_, os, bare⟩
        cases q : H b with
        | none => exact un.keep b o e q (by intro z; exact absurd (show b ∈ ([] : List Addr) from z) (by simp)) (by simp)
        | some u =>
          rcases hO b with z | ⟨ob, xs, z⟩
          · rw [q] at z; cases z
          · have z2 := un.frzs b ob _ z
            obtain ⟨e1, _⟩ := hok b _ z
            obtain ⟨e2, _⟩ := hok' b _ z2
            rw [e] at e1; cases e1
            exact e2
  cases hk : K.lookup a with
  | some o =>
    -- the script is one of the module's own objects
    have e := KX a o hk
    rw [ha] at e
    cases e
    refine core (fun _ => none) (fun _ => .inl rfl) (.inr ⟨_, vs.toArray, _, hk, rfl, rfl, rfl, by rw [List.size_toArray, lenV]; exact hl, by simpa using rv⟩) (fun b u z => by have z' : (none : Option HO) = some u := z; cases z') (fun b z => absurd rfl z) fun z => absurd rfl z
  | none =>
    refine core (fun b => if b = a then some (.frz { cls := .type "list", data := .seq vs.toArray } (.lst (ns.map V.int))) else none) (fun b => ?_) (.inl (.inr ⟨{ cls := .type "list", data := .seq vs.toArray }, if_pos rfl⟩)) (fun b u z => ?_) (fun b z => ?_) fun _ => hk
    · by_cases hb : b = a
      · exact .inr ⟨_, _, if_pos hb⟩
      · exact .inl (if_neg hb)
    · by_cases hb : b = a
      · have z' := (if_pos hb).symm.trans z
        cases z'
        subst hb
        exact ⟨ha, by rw [List.length_map]; exact hl, vs, _, rv, ha⟩
      · have z' := (if_neg hb).symm.trans z
        cases z'
    · by_cases hb : b = a
      · exact hb
      · exact absurd (if_neg hb) z
end L2

namespace L2
open PySem PySem.Spec PyProof.Rows

end L2


/-! SHORT WORDS over the layer: a def of the text, its body, what a loop and a test want. -/
namespace L2
open PySem PySem.Spec PyProof.Rows

/-! ### the text by places -/
def defArgs (s : Stmt) : Arguments := match s with
  | .FunctionDef _ a _ _ _ _ _ _ _ _ => a
  | _ => { posonlyargs := [], args := [], vararg := none, kwonlyargs := [], kw_defaults := [], kwarg := none, defaults := [] }
def defBody (s : Stmt) : List Stmt := match s with
  | .FunctionDef _ _ b _ _ _ _ _ _ _ => b
  | _ => []
def defScope (s : Stmt) : Scope := match s with
  | .FunctionDef _ _ _ _ _ _ sc _ _ _ => sc
  | _ => { kind := .function, names := [], isGenerator := false, isCoroutine := false }

/-! ### no exception leaves a def -/
abbrev CX0 : CXT := fun _ _ _ _ _ _ => False
abbrev E0 : XK := fun _ _ _ => False
theorem pass0 {X : Cx} : Passes CX0 X E0 := fun _ _ _ _ _ _ _ h => h.elim

/-! ### a def (or method) of the text as it stands behind the top -/
structure Fun (K : PySem.W.Frag) (x qual : Str) (st : Stmt) (f : Addr) (fd : FuncData) : Prop where
  ex : ∃ (oc : Value) (od : Option Addr) (kV doc pm : Value) (an : Option Addr) (cdv ct : Value) (osl : Array (Option Value)),
    fd = PySem.W.fnOf x qual (defArgs st) (defBody st) (defScope st) .none kV doc pm an cdv ct ∧ K.lookup f = some ⟨oc, od, .func fd, osl⟩ ∧ PySem.W.codeIn K cdv qual = true
  kp : PySem.W.keepIn K (.ref f) = true
section
variable {P : Program} {w : World} {K : PySem.W.Frag} {mg : Str → Option Value} {base : Heap}
/-- THE RULE for a def: its body as a term of rules, and the reading of that term -/
theorem Fun.ok {x qual : Str} {st : Stmt} {f : Addr} {fd : FuncData} {N ps : List Str} {k : Nat} {sp : Sp} (F : Fun K x qual st f fd) (S : FnScope N ps (defScope st)) (len : ∀ vs H Q E, sp vs H Q E → vs.length = ps.length)
    (hbody : ∀ (cdv : Value) (A : Around) (outer : List Env) (s : Shared) (H : Hp) (vs : List V) (Q : VK) (E : XK), Room k (A.deeper (envOfC qual (defScope st) s.heap.objs.size f cdv)) → sp vs H Q E →
      ∃ t, PSs (cxOf CX0 P w K mg base N qual (defScope st) f cdv A outer s H E).nox (defBody st) t ∧ t { nx := fun _ H' => Q .non H', rt := Q } (start N vs) H) : FnOk P w K mg base CX0 (k + 1) f fd ps sp := by
  obtain ⟨oc, od, kV, doc, pm, an, cdv, ct, osl, rfl, lk, hcd⟩ := F.ex
  refine fn_of lk hcd S len fun A outer s H vs Q E hr hsp => ?_
  obtain ⟨t, h, q⟩ := hbody cdv A outer s H vs Q E hr hsp
  exact ⟨t, h.nox, q⟩
/-- how its arguments bind (no defaults): h is «fun _ _ _ _ _ _ us hl => match us, hl with | [_, _], _ => rfl», one _ a parameter -/
theorem Fun.binds {x qual : Str} {st : Stmt} {f : Addr} {fd : FuncData} {ps : List Str} (F : Fun K x qual st f fd)
    (h : ∀ (kV doc pm : Value) (an : Option Addr) (cdv ct : Value) (us : List Value), us.length = ps.length → bindArgs (PySem.W.fnOf x qual (defArgs st) (defBody st) (defScope st) .none kV doc pm an cdv ct) ⟨us, []⟩ = pure (ps.zip us)) : Binds K fd ps [] := by
  obtain ⟨oc, od, kV, doc, pm, an, cdv, ct, osl, rfl, lk, hcd⟩ := F.ex
  exact .all (h kV doc pm an cdv ct)
theorem fun_mk {x qual : Str} {st : Stmt} {f : Addr} {oc : Value} {od an : Option Addr} {osl : Array (Option Value)} {kV doc pm cdv ct : Value} (l : K.lookup f = some ⟨oc, od, .func (PySem.W.fnOf x qual (defArgs st) (defBody st) (defScope st) .none kV doc pm an cdv ct), osl⟩)
    (c : PySem.W.codeIn K cdv qual = true) (k : PySem.W.keepIn K (.ref f) = true) : Fun K x qual st f (PySem.W.fnOf x qual (defArgs st) (defBody st) (defScope st) .none kV doc pm an cdv ct) := ⟨⟨oc, od, kV, doc, pm, an, cdv, ct, osl, rfl, l, c⟩, k⟩
end
/-! ### expressions in short: the name that stands in the i-th slot -/
section
variable {X : Cx}
theorem pv (i : Nat) {x : Str} {pos : Pos} (hN : X.N[i]? = some x := by rfl) (hv : Vis X.env.scope x := by first | exact Or.inl rfl | exact Or.inr (Or.inl rfl) | exact Or.inr (Or.inr rfl)) (hd : (x == ("__debug__" : Str)) = false := by decide)
    (hcd : (x == ("__classdict__" : Str)) = false := by decide) : PE X (.Name x pos) (tVar i) := pe_var hN hv hd hcd
end

/-! ### tests -/
theorem iteF {A B : Prop} (h : B) : if false = true then A else B := by
  rw [if_neg Bool.false_ne_true]
  exact h
theorem iteT {A B : Prop} (h : A) : if true = true then A else B := by
  rw [if_pos rfl]
  exact h
theorem ite2 {c A B : Prop} [Decidable c] (h1 : c → A) (h2 : ¬ c → B) : if c then A else B := by
  by_cases h : c
  · rw [if_pos h]
    exact h1 h
  · rw [if_neg h]
    exact h2 h
theorem iteNS {c A B : Prop} [Decidable c] (hc : c) (h : B) : if (!decide c) = true then A else B := by
  rw [decide_eq_true hc]
  exact iteF h

/-! ### heaps -/
/-- all that was tracked is as it was -/
def Same (H H' : Hp) : Prop := ∀ b o, H b = some o → H' b = some o
theorem Same.refl (H : Hp) : Same H H := fun _ _ h => h
theorem Same.trans {H H1 H2 : Hp} (a : Same H H1) (b : Same H1 H2) : Same H H2 := fun c o h => b c o (a c o h)
theorem Same.seq {K : PySem.W.Frag} {H H' : Hp} {a : Addr} {xs : List V} (e : Same H H') (h : SqL K H a xs) : SqL K H' a xs := by
  rcases h with (h | ⟨o, h⟩) | h
  · exact .inl (.inl (e _ _ h))
  · exact .inl (.inr ⟨o, e _ _ h⟩)
  · exact .inr h

/-! ### a dict's pairs: keys that differ -/
section
variable {κ : Type} [DecidableEq κ]
end
end L2

/-! MY RULES over the layer: products, list +, texts (loops, slices), comprehensions, all, isinstance. -/
namespace L3
open PySem PySem.Spec PyProof.Rows L2

theorem up {α : Type} {M : Model} {A : Around} {t : Sem α} {Q : α → Shared → Prop} {E : Value → Shared → Prop} {s : Shared} (h : wpAny M A t Q (fun _ _ => False) s) : wpAny M A t Q E s := wpAny_mono h (fun _ _ z => z) fun _ _ z => z.elim

theorem cat_any {prog : Program} {w : World} {A : Around} {E : Value → Shared → Prop} {s : Shared} {l b : Addr} {vs ws : List Value} {Q : Value → Shared → Prop} (hl : s.heap.IsList l vs.toArray) (hb : s.heap.IsList b ws.toArray)
    (h : Q (.ref s.heap.objs.size) { s with heap := s.heap.push { cls := .type "list", data := .seq (vs ++ ws).toArray } }) (hz : vs.length + ws.length ≤ sizeLine) : wpAny (model prog w) A (binaryOp .Add (.ref l) (.ref b)) Q E s := by
  obtain ⟨⟨c1, d1, t1, l1⟩, o1, k1, n1, e1⟩ := id hl
  obtain ⟨⟨c2, d2, t2, l2⟩, o2, k2, n2, e2⟩ := id hb
  simp only at k1 e1 k2 e2
  subst k1 e1 k2 e2
  refine concat_meets ⟨_, o1, rfl⟩ ⟨_, o2, rfl⟩ noFill_list_add seq_list_add PySem.F.slot_list_add PySem.F.entry_list_add (PySem.F.args_list_add_2 _ _) (list_addW l b vs.toArray ws.toArray n1 n2 d1 d2 l1 l2 (by simpa using hz)) ⟨o1, o2, ?_⟩
  have ea : vs.toArray ++ ws.toArray = (vs ++ ws).toArray := by simp
  rw [ea]
  exact h

section
variable {X : Cx}
/-- a product whose size is known to fit -/
theorem op_mulK : OpR X (binaryOp .Mult) (rI IntMulOk fun i j => .int (i * j)) := opI fun _ _ _ _ _ _ _ hc q => mul_int q hc

/-- two lists that are read, joined: a new list -/
def rCatS (K : PySem.W.Frag) : R2 := fun x y H Q => ∃ l b xs zs, x = .ref l ∧ y = .ref b ∧ SqL K H l xs ∧ SqL K H b zs ∧ xs.length + zs.length ≤ sizeLine ∧ ∀ p, H p = none → Q (.ref p) (upd H p (.lst (xs ++ zs)))
theorem op_catS : OpR X (binaryOp .Add) (rCatS X.K) := by
  intro pins s σ H x y v u Q I rx ry h
  obtain ⟨l, b, xs, zs, rfl, rfl, h1, h2, hz, q⟩ := h
  cases rx
  cases ry
  obtain ⟨its, r, pl, _⟩ := I.list h1
  obtain ⟨its2, r2, pl2, _⟩ := I.list h2
  obtain ⟨m, F⟩ := I.fr
  have e1 := r.length
  have e2 := r2.length
  refine cat_any pl.isList pl2.isList ?_ (by omega)
  exact ⟨.ref _, _, I.lnew (t' := s.toks) (r.append r2) (by rw [List.length_append]; omega), rfl, q _ I.fresh⟩

/-! ### a loop over a text's signs -/
def Its (z : Str) : It := ⟨fun i _ => i < z.length, fun i H x H' => H' = H ∧ ∃ c, z.cps[i]? = some c ∧ x = .str ⟨#[c]⟩, fun i _ => z.length ≤ i⟩
def iStr (tl : TE) : TI := fun σ H R => tl σ H fun x H1 => ∃ z, x = .str z ∧ R (Its z) H1
theorem cps_some {z : Str} {i : Nat} (h : i < z.length) : ∃ c, z.cps[i]? = some c := ⟨_, Array.getElem?_eq_getElem h⟩
theorem cps_none {z : Str} {i : Nat} (h : z.length ≤ i) : z.cps[i]? = none := Array.getElem?_eq_none h
theorem turn_ascii {P : Program} {w : World} {K : PySem.W.Frag} {tg : Expr} (z : Str) (t : Tok) (it : Addr) : Turn P w K tg (Its z) [it] it (fun i h => h.IsStrIter it "str_ascii_iterator" z t i) where
  mem := by simp
  obj := fun i h st b hb => by
    have e : b = it := by simpa using hb
    subst e
    obtain ⟨o, e, c, d⟩ := st
    exact ⟨o, e, fun v q => by rw [d] at q; cases q⟩
  keep := fun i h h' st k => by
    obtain ⟨o, e, r⟩ := st
    exact ⟨o, k it (by simp) o e, r⟩
  item := by
    intro X hP hw hK hc i pins s σ H E I hf st hg
    subst hP hw hK
    obtain ⟨c, hx⟩ := cps_some (z := z) hg
    obtain ⟨f0, f1, f2, f3, f4, f5⟩ := hf it (by simp)
    refine wpAny_pyNext_ascii_item st hx fun h' st' sb => ?_
    have I1 : Inv X pins σ H { s with heap := h', toks := s.toks + 1 } := I.turned (fun b o hb e => (sb.2 b hb).trans e) f0 f1 f3 f4 f5
    obtain ⟨o, e, cl, d⟩ := id st'
    exact ⟨_, rfl, go_of (s := { s with heap := h', toks := s.toks + 1 }) e cl d (by decide) ⟨.str ⟨#[c]⟩, H, I1, ⟨_, rfl⟩, ⟨rfl, c, hx, rfl⟩, st', fun b hb => (hf b hb).1⟩⟩
  done := by
    intro X hP hw hK hc i pins s σ H E I hf st hg
    subst hP hw hK
    obtain ⟨f0, f1, f2, f3, f4, f5⟩ := hf it (by simp)
    exact wpAny_pyNext_ascii_end (I.ok.hd hc) st (cps_none hg) fun h' eb => ⟨rfl, I.turned (t' := s.toks) (fun b o hb e => eb b o hb e) f0 f1 f3 f4 f5⟩
  self := fun _ _ _ _ _ st h => wpAny_pyIter_striter_ascii st h
theorem turn_wide {P : Program} {w : World} {K : PySem.W.Frag} {tg : Expr} (z : Str) (t : Tok) (it : Addr) : Turn P w K tg (Its z) [it] it (fun i h => h.IsStrIter it "str_iterator" z t i) where
  mem := by simp
  obj := fun i h st b hb => by
    have e : b = it := by simpa using hb
    subst e
    obtain ⟨o, e, c, d⟩ := st
    exact ⟨o, e, fun v q => by rw [d] at q; cases q⟩
  keep := fun i h h' st k => by
    obtain ⟨o, e, r⟩ := st
    exact ⟨o, k it (by simp) o e, r⟩
  item := by
    intro X hP hw hK hc i pins s σ H E I hf st hg
    subst hP hw hK
    obtain ⟨c, hx⟩ := cps_some (z := z) hg
    obtain ⟨f0, f1, f2, f3, f4, f5⟩ := hf it (by simp)
    refine wpAny_pyNext_wide_item st hx fun h' st' sb => ?_
    have I1 : Inv X pins σ H { s with heap := h', toks := s.toks + 1 } := I.turned (fun b o hb e => (sb.2 b hb).trans e) f0 f1 f3 f4 f5
    obtain ⟨o, e, cl, d⟩ := id st'
    exact ⟨_, rfl, go_of (s := { s with heap := h', toks := s.toks + 1 }) e cl d (by decide) ⟨.str ⟨#[c]⟩, H, I1, ⟨_, rfl⟩, ⟨rfl, c, hx, rfl⟩, st', fun b hb => (hf b hb).1⟩⟩
  done := by
    intro X hP hw hK hc i pins s σ H E I hf st hg
    subst hP hw hK
    obtain ⟨f0, f1, f2, f3, f4, f5⟩ := hf it (by simp)
    exact wpAny_pyNext_wide_end (I.ok.hd hc) st (cps_none hg) fun h' eb => ⟨rfl, I.turned (t' := s.toks) (fun b o hb e => eb b o hb e) f0 f1 f3 f4 f5⟩
  self := fun _ _ _ _ _ st h => wpAny_pyIter_striter_wide st h
theorem pi_str {tg l : Expr} {tl : TE} (hl : PE X l tl) : PI X tg l (iStr tl) := by
  intro pins s σ H R I h
  refine thn (hl pins s σ H _ I h) fun v s1 ⟨x, H1, I1, r1, q1⟩ => ?_
  obtain ⟨z, rfl, q⟩ := q1
  obtain ⟨t, rfl⟩ := r1
  have fp : ∀ (o : Obj), ∀ b ∈ [s1.heap.objs.size], FpOk X pins H1 b := fun o b hb => by
    have e : b = s1.heap.objs.size := by simpa using hb
    subst e
    exact I1.fpOk (Nat.le_refl _) (I1.hok.fresh (Nat.le_refl _))
  cases ha : z.cps.all (· < 128)
  · exact wpAny_pyIter_wide ha ⟨s1.heap.objs.size, [s1.heap.objs.size], _, _, H1, rfl, I1.kept (t' := s1.toks) fun b o e => Heap.get?_push_of_some _ e, turn_wide z t _, ⟨_, Heap.get?_push_size _ rfl, rfl, rfl⟩, fp ⟨.none, none, .fields #[], #[]⟩, q⟩
  · exact wpAny_pyIter_ascii ha ⟨s1.heap.objs.size, [s1.heap.objs.size], _, _, H1, rfl, I1.kept (t' := s1.toks) fun b o e => Heap.get?_push_of_some _ e, turn_ascii z t _, ⟨_, Heap.get?_push_size _ rfl, rfl, rfl⟩, fp ⟨.none, none, .fields #[], #[]⟩, q⟩
/-- over a text, by a word of the turn -/
theorem for_str {z : Str} {g : TG} {tb : TS} {D : Ends} {σ : L2.St} {H : Hp} (Pv : Nat → L2.St → Hp → Prop) (h0 : Pv 0 σ H)
    (hs : ∀ i c σ H, z.cps[i]? = some c → Pv i σ H → g (.str ⟨#[c]⟩) σ H fun σ2 H2 => tb { D with nx := Pv (i + 1), ct := Pv (i + 1), bk := D.nx } σ2 H2) (hd : ∀ σ H, Pv z.length σ H → D.nx σ H) :
    ∃ W : Nat → Nat → L2.St → Hp → Prop, (∃ m, W 0 m σ H) ∧ ∀ i m σ H, W i m σ H →
      ((Its z).stop i H ∧ D.nx σ H) ∨ ((Its z).go i H ∧ ∃ N : L2.St → Hp → Prop, (∀ σ' H', N σ' H' → ∃ m', m' < m ∧ W (i + 1) m' σ' H') ∧ ∀ x H', (Its z).yld i H x H' → g x σ H' fun σ2 H2 => tb { D with nx := N, ct := N, bk := D.nx } σ2 H2) := by
  refine ⟨fun i m σ H => m = z.length - i ∧ i ≤ z.length ∧ Pv i σ H, ⟨z.length, by simp, Nat.zero_le _, h0⟩, ?_⟩
  rintro i m σ H ⟨rfl, hi, p⟩
  by_cases hlt : i < z.length
  · refine .inr ⟨hlt, Pv (i + 1), fun σ' H' p' => ⟨z.length - (i + 1), by omega, rfl, hlt, p'⟩, fun x H' y => ?_⟩
    obtain ⟨e, c, hc, ex⟩ := y
    subst e ex
    exact hs i c σ _ hc p
  · have e : i = z.length := by omega
    subst e
    exact .inl ⟨Nat.le_refl _, hd σ H p⟩

/-! ### a slice of a text -/
def rSlS : V → Option Int → Option Int → Hp → VK → Prop := fun x lo hi H Q => ∃ z, x = .str z ∧ z.length ≤ sizeLine ∧ Q (.str (Txt.slice z lo hi)) H
theorem sl_str : SlR X rSlS := by
  intro pins s σ H x v vl vu lo hi sl Q I rx hs pl pu h
  obtain ⟨z, rfl, hz, q⟩ := h
  obtain ⟨t, rfl⟩ := rx
  have fin : ∀ t' k, EP X pins σ Q (.str (Txt.slice z lo hi) t') { s with toks := k } := fun t' k => ⟨.str _, H, I.tok _, ⟨_, rfl⟩, q⟩
  refine ⟨"str", _, F.slot_str_getitem.lookup, typeIs_str _ _ _, ?_⟩
  cases pl with
  | none =>
    cases pu with
    | none => exact wpAny_getItem_str_slice (l := none) (u := none) (st := none) hs rfl (post_val_or_str ⟨Nat.le_trans (Txt.slice_le z _ _) hz, fin⟩)
    | int j uj => exact wpAny_getItem_str_slice (l := none) (u := some (j, uj)) (st := none) hs rfl (post_val_or_str ⟨Nat.le_trans (Txt.slice_le z _ _) hz, fin⟩)
  | int i ui =>
    cases pu with
    | none => exact wpAny_getItem_str_slice (l := some (i, ui)) (u := none) (st := none) hs rfl (post_val_or_str ⟨Nat.le_trans (Txt.slice_le z _ _) hz, fin⟩)
    | int j uj => exact wpAny_getItem_str_slice (l := some (i, ui)) (u := some (j, uj)) (st := none) hs rfl (post_val_or_str ⟨Nat.le_trans (Txt.slice_le z _ _) hz, fin⟩)

/-! ### all, isinstance -/
theorem vals_bools : ∀ {bs : List Bool} {us : List Value}, Vals (bs.map V.bl) us → LSm.BoolsAre us bs
  | [], us, r => by
    rw [List.map_nil] at r
    cases r
    exact .nil
  | b :: bs, us, r => by
    rw [List.map_cons] at r
    cases r with
    | cons r1 r2 =>
      cases (show _ = Value.bool b from r1)
      exact .cons b (vals_bools r2)
theorem call_all_l (hc : X.calm = true) : CallR X (.builtin "all") (fun xs H Q => ∃ (p : Addr) (bs : List Bool), xs = [.ref p] ∧ SqL X.K H p (bs.map V.bl) ∧ Q (.bl (bs.all id)) H) := by
  intro pins s σ H xs us Q I r h
  obtain ⟨p, bs, rfl, hq, q⟩ := h
  obtain ⟨u, rfl, rx⟩ := vals1 r
  cases rx
  obtain ⟨its, r', pl, hz⟩ := I.list hq
  have hb := vals_bools r'
  have hlt : p < s.heap.objs.size := pl.lt
  refine call_all_walk (wpAny_pyIter_list pl.isList ?_)
  refine ⟨s.heap.objs.size, [s.heap.objs.size, p], [s.heap.objs.size], its.toArray.size, _, _, fun i => (bs[i]?).getD true, rfl, Walks.list (A := X.A.in1) (I.ok.hd hc) _ p (Nat.ne_of_lt hlt) its.toArray,
    ⟨⟨_, Heap.get?_push_size _ rfl, rfl, rfl⟩, pl.isList.push _⟩, fun i v s' Q' E' hP hQ => ?_, fun h' tk hk => ?_⟩
  · obtain ⟨bit, ebit, rfl⟩ := hb.get i v (by simpa using hP)
    simp only [ebit, Option.getD_some] at hQ
    exact wpAny_truthy_bool hQ
  · have e : ((List.range its.toArray.size).all fun i => (bs[i]?).getD true) = bs.all id := by
      rw [List.size_toArray, hb.length]
      exact LSm.range_all bs
    rw [e]
    exact ⟨.bl (bs.all id), H, I.kept (LSm.kept_iter hk), rfl, q⟩
/-- the class that is asked, as a value -/
def tyOne : V → Option Value
  | .ty n => some (.type n)
  | .ref a => some (.ref a)
  | _ => none
theorem call_isinst : CallR X (.builtin "isinstance") (fun xs H Q => ∃ x y t c b, xs = [x, y] ∧ tyOne y = some c ∧ TyOf X.K H x t ∧ PySem.W.kitOne X.K t c = some b ∧ Q (.bl b) H) := by
  intro pins s σ H xs us Q I r h
  obtain ⟨x, y, t, c, b, rfl, hy, ty, e, q⟩ := h
  obtain ⟨u, u2, rfl, rx, ry⟩ := vals2 r
  have ec : u2 = c := by
    cases y with
    | ty n => cases hy; exact ry
    | ref a => cases hy; exact ry
    | _ => cases hy
  subst ec
  exact isinst_ok I rx ty e fun tk => ⟨.bl b, H, I.tok _, rfl, q⟩
end

/-! ### comprehensions: [elt for tg in iter if ..] -/
def Ext : L2.St → L2.St → Prop
  | [], [] => True
  | none :: a, _ :: b => Ext a b
  | some v :: a, w :: b => w = some v ∧ Ext a b
  | _, _ => False
theorem Ext.len : ∀ {a b : L2.St}, Ext a b → a.length = b.length
  | [], [], _ => rfl
  | none :: a, _ :: b, h => by
    have h : Ext a b := h
    simp [h.len]
  | some v :: a, w :: b, h => by
    have h : w = some v ∧ Ext a b := h
    simp [h.2.len]
  | [], _ :: _, h => h.elim
  | none :: _, [], h => h.elim
  | some _ :: _, [], h => h.elim
theorem Ext.get : ∀ {a b : L2.St}, Ext a b → ∀ (i : Nat) (v : V), a[i]? = some (some v) → b[i]? = some (some v)
  | [], [], _, i, v, e => by simp at e
  | none :: a, _ :: b, h, i, v, e => by
    have h : Ext a b := h
    cases i with
    | zero => simp at e
    | succ i => simpa using h.get i v (by simpa using e)
  | some z :: a, w :: b, h, i, v, e => by
    have h : w = some z ∧ Ext a b := h
    cases i with
    | zero =>
      have e' : z = v := by simpa using e
      subst e'
      rw [h.1]
      rfl
    | succ i => simpa using h.2.get i v (by simpa using e)
  | [], _ :: _, h, _, _, _ => h.elim
  | none :: _, [], h, _, _, _ => h.elim
  | some _ :: _, [], h, _, _, _ => h.elim
/-- the block's names: its own, then those of the frame about it with their slots there -/
def frY (own : List Str) (fr : List (Str × Nat)) (σ : L2.St) : L2.St := own.map (fun _ => none) ++ fr.map fun p => σ.getD p.2 none
def nmY (own : List Str) (fr : List (Str × Nat)) : List Str := own ++ fr.map (·.1)
def cxComp (X : Cx) (N : List Str) (scope : Scope) (cl : List (Str × Addr)) (C : Addr) (s : Shared) (H : Hp) (fp : List Addr) : Cx :=
  { X with N := N, s₀ := s, H₀ := H, env := compEnvC scope cl C X.env, outer := X.stack, stack := X.stack, ex := fp, fn := fun _ => false, pn := [], xe := fun _ _ => False }
def isCF : Option NameKind → Bool
  | some .cell => true
  | some .free => true
  | _ => false
theorem isCF_or {o : Option NameKind} (h : isCF o = true) : o = some .cell ∨ o = some .free := by
  cases o with
  | none => cases h
  | some k => cases k <;> first | exact .inl rfl | exact .inr rfl | cases h
/-- the names that come from about stand there in their slots, in cells -/
def FrOk (X : Cx) (scope : Scope) : List (Str × Nat) → Prop
  | [] => True
  | p :: r => (X.N[p.2]? = some p.1 ∧ isCF (X.env.scope.names.lookup p.1) = true ∧ isCF ((relabel scope X.env).names.lookup p.1) = true) ∧ FrOk X scope r
theorem FrOk.mem {X : Cx} {scope : Scope} : ∀ {fr : List (Str × Nat)}, FrOk X scope fr → ∀ p ∈ fr, X.N[p.2]? = some p.1 ∧ isCF (X.env.scope.names.lookup p.1) = true ∧ isCF ((relabel scope X.env).names.lookup p.1) = true
  | [], _, p, hp => by simp at hp
  | q :: r, h, p, hp => by
    have h : _ ∧ FrOk X scope r := h
    rcases List.mem_cons.mp hp with rfl | hmore
    · exact h.1
    · exact h.2.mem p hmore
def ClOk (X : Cx) : List (Str × Addr) → Prop
  | [] => True
  | p :: r => X.env.cells.lookup p.1 = some p.2 ∧ ClOk X r
theorem ClOk.get {X : Cx} : ∀ {cl : List (Str × Addr)}, ClOk X cl → ∀ x c, cl.lookup x = some c → X.env.cells.lookup x = some c
  | [], _, x, c, e => by simp at e
  | (n, a) :: r, h, x, c, e => by
    have h : X.env.cells.lookup n = some a ∧ ClOk X r := h
    by_cases hx : x = n
    · subst hx
      simp only [List.lookup_cons, beq_self_eq_true] at e
      cases e
      exact h.1
    · have hb : (x == n) = false := by simpa using hx
      simp only [List.lookup_cons, hb] at e
      exact h.2.get x c e
/-- what is asked of the block's scope, by computing -/
def compOk (scope : Scope) (env : Env) (cl : List (Str × Addr)) : Bool :=
  scope.kind == .function && scope.names.all (fun y => y.2 != .cell) && scope.names.all (fun y => y.2 != .local || scope.names.lookup y.1 == some .local) &&
  (relabel scope env).names.all (fun y => !isCF (some y.2) || (cl.lookup y.1).isSome)
def tTrue : TT := fun _ H Q => Q true H
def PTs (X : Cx) (ifs : List Expr) (t : TT) : Prop :=
  ∀ (pins : List (Addr × Obj)) (s : Shared) (σ : L2.St) (H : Hp) (Q : Bool → Hp → Prop), Inv X pins σ H s → t σ H Q →
    wpAny (model X.prog X.w) X.A (forIn ifs true fun c r => if r = true then do let ok ← isTrue c X.env (eval c X.env); pure (ForInStep.yield ok) else pure (ForInStep.yield r)) (TP X pins σ Q) X.xe s
theorem pts_nil {X : Cx} : PTs X [] tTrue := fun _ _ _ H _ I h => wpAny_tests_nil ⟨H, I, h⟩
/-- the block's loop, its tuple's step kept -/
theorem comp_go {prog : Program} {w : World} {A : Around} {R : Result → Shared → Prop} {s : Shared} {elt tg iter : Expr} {ifs : List Expr} {scope : Scope} {pos : Pos} {it acc : Value} {env : Env} (J : Nat → Shared → Prop)
    (turn : ∀ n s, J n s → ∀ E : Value → Shared → Prop, wpAny (model prog w) A (pyNext it) (fun r s₁ => (r = none ∧ R (.ok .next) s₁) ∨ ∃ v, r = some v ∧
        wpAny (model prog w) A (letOwnedTupleGo tg it v) (fun _ s₂ => wpAny (model prog w) A (assign tg env v) (fun _ s₃ =>
          wpAny (model prog w) A (forIn ifs true fun c r => if r = true then do let ok ← isTrue c env (eval c env); pure (ForInStep.yield ok) else pure (ForInStep.yield r)) (fun ok s₄ =>
            (ok = true ∧ wpAny (model prog w) A (eval elt env) (fun x s₅ => wpAny (model prog w) A (call (.builtin "list.append") [acc, x]) (fun _ s₆ => ∃ m, m < n ∧ J m s₆) E s₅) E s₄) ∨
            (ok = false ∧ ∃ m, m < n ∧ J m s₄)) E s₃) E s₂) E s₁) E s)
    (n : Nat) (h : J n s) : codeAny (model prog w) A (.compLoop (.ListComp elt [⟨tg, iter, ifs, 0⟩] scope pos) 0 it acc env) R s := by
  refine codeAny_loop rfl J (fun n s hJ => ?_) n h
  show wpAny _ A ((compTurn (.ListComp elt [⟨tg, iter, ifs, 0⟩] scope pos) 0 it acc env).onRaise (fun x => do noteFrame x env; theTreesLotGoes x)) _ _ s
  refine wpAny_noted ?_
  rw [compTurn_list]
  refine wpAny_bind (wpAny_standAt (wpAny_bind (thn (turn n s hJ _) fun r s₁ h₁ => ?_)))
  rcases h₁ with ⟨rfl, h₁⟩ | ⟨v, rfl, h₁⟩
  · exact wpAny_pure h₁
  · refine wpAny_bind (thn h₁ fun _ s₂ h₂ => wpAny_bind (thn h₂ fun _ s₃ h₃ => wpAny_bind (thn h₃ fun ok s₄ h₄ => ?_)))
    rcases h₄ with ⟨rfl, h₄⟩ | ⟨rfl, h₄⟩
    · exact wpAny_bind (wpAny_bind (thn h₄ fun x s₅ h₅ => wpAny_bind (thn h₅ fun _ s₆ h₆ => wpAny_pure (wpAny_pure ⟨rfl, h₆⟩))))
    · exact wpAny_pure ⟨rfl, h₄⟩

/-- what a comprehension over the iterator J owes, its new list at D -/
def CompG (J : It) (own : List Str) (fr : List (Str × Nat)) (g : TG) (tc : TT) (te : TE) (σ : L2.St) (H1 : Hp) (Q : VK) : Prop := ∀ D, H1 D = none → ∃ W : Nat → Nat → List V → Hp → Prop, (∃ m, W 0 m [] (upd H1 D (.lst []))) ∧
  ∀ i m ys H2, W i m ys H2 → H2 D = some (.lst ys) ∧ ((J.stop i H2 ∧ Q (.ref D) H2) ∨ (J.go i H2 ∧ ∃ N : List V → Hp → Prop, (∀ zs H', N zs H' → ∃ m', m' < m ∧ W (i + 1) m' zs H') ∧
    ∀ x H', J.yld i H2 x H' → g x (frY own fr σ) H' fun σ3 H3 => Ext (frY own fr σ) σ3 ∧ tc σ3 H3 fun b H4 => if b = true then te σ3 H4 fun v H5 => H5 D = some (.lst ys) ∧ ys.length < sizeLine ∧ N (ys ++ [v]) (upd H5 D (.lst (ys ++ [v]))) else N ys H4))
def tComp (wi : TI) (own : List Str) (fr : List (Str × Nat)) (g : TG) (tc : TT) (te : TE) : TE := fun σ H Q => wi σ H fun J H1 => CompG J own fr g tc te σ H1 Q

theorem comp_core {X : Cx} {elt tg iter : Expr} {ifs : List Expr} {scope : Scope} {pos ipos : Pos} {wi : TI} {g : TG} {tc : TT} {te : TE} {cl : List (Str × Addr)} (own : List Str) (fr : List (Str × Nat)) (hc : X.calm = true) (hi : PI X tg iter wi)
    (hclos : closureFor scope X.env = pure cl) (hcl : ClOk X cl) (hok : compOk scope X.env cl = true) (hfr : FrOk X scope fr)
    (hg : ∀ C s H fp, PG (cxComp X (nmY own fr) scope cl C s H fp) tg g) (ht : ∀ C s H fp, PTs (cxComp X (nmY own fr) scope cl C s H fp) ifs tc) (he : ∀ C s H fp, PE (cxComp X (nmY own fr) scope cl C s H fp) elt te)
    (hs : ∀ x, foldedSetIterable iter X.env x = pure x) {pins : List (Addr × Obj)} {s : Shared} {σ : L2.St} {H : Hp} {Q : VK} {use : Option (Value → Sem Unit)} {PQ : Value → Shared → Prop} (I : Inv X pins σ H s) (h : tComp wi own fr g tc te σ H Q)
    (hend : ∀ (s6 : Shared) (H5 : Hp) (C D : Addr) (m : Str → Option Value), Inv X pins σ H5 s6 → s6.heap.Ns C m → FpOk X pins H5 C → Q (.ref D) H5 → compPost (model X.prog X.w) X.A X.xe use PQ (.ref D) C (.ok .next) s6) :
    wpAny (model X.prog X.w) X.A (comprehension (.ListComp elt [⟨tg, iter, ifs, 0⟩] scope pos) scope X.env ipos (newList []) false (eval iter X.env) use) PQ X.xe s := by
  have ok1 : scope.kind = .function := by
    unfold compOk at hok
    simp only [Bool.and_eq_true, beq_iff_eq] at hok
    exact hok.1.1.1
  have ok2 : ∀ y ∈ scope.names, y.2 ≠ .cell := by
    unfold compOk at hok
    simp only [Bool.and_eq_true, List.all_eq_true] at hok
    intro y hy
    simpa using hok.1.1.2 y hy
  have ok3 : ∀ y ∈ scope.names, y.2 = .local → scope.names.lookup y.1 = some .local := by
    unfold compOk at hok
    simp only [Bool.and_eq_true, List.all_eq_true] at hok
    intro y hy e
    have := hok.1.2 y hy
    simpa [e] using this
  have ok4 : ∀ x, (relabel scope X.env).names.lookup x = some .cell ∨ (relabel scope X.env).names.lookup x = some .free → ∃ c, cl.lookup x = some c := by
    unfold compOk at hok
    simp only [Bool.and_eq_true, List.all_eq_true] at hok
    intro x hx
    have key : ∀ k, (relabel scope X.env).names.lookup x = some k → isCF (some k) = true → ∃ c, cl.lookup x = some c := fun k e hk => by
      have := hok.2 (x, k) (PySem.mem_of_lookup e)
      simp only [hk, Bool.not_true, Bool.false_or] at this
      exact Option.isSome_iff_exists.mp this
    rcases hx with e | e
    · exact key _ e rfl
    · exact key _ e rfl
  refine wpAny_comprehension_free (use := use) rfl hs hclos ok1 ok3 ?_
  refine thn (hi pins s σ H _ I h) fun v s1 h1 => thn h1 fun itv s2 h2 => ?_
  obtain ⟨it, fp, tn, J, H2, e, I2, T, st2, f2, hD⟩ := h2
  subst e
  have lt2 : ∀ b ∈ fp, b < s2.heap.objs.size := fun b hb => by
    obtain ⟨o, e, _⟩ := T.obj _ _ st2 b hb
    exact Heap.lt_size e
  refine wpAny_newObj_type (wpAny_newFunctionEnv ok2 (by intro y hy; simp at hy) (fun h₁ hns₁ hsb₁ => ?_) ok1)
  obtain ⟨W, ⟨m0, w0⟩, turn⟩ := hD s2.heap.objs.size I2.fresh
  have I3 : Inv X pins σ (upd H2 s2.heap.objs.size (.lst [])) { s2 with heap := s2.heap.push { cls := .type "list", data := .seq ([] : List Value).toArray } } := I2.lnew (t' := s2.toks) .nil (Nat.zero_le _)
  have st3 := T.keep 0 _ (s2.heap.push { cls := .type "list", data := .seq ([] : List Value).toArray }) st2 fun b hb o e => Heap.get?_push_of_some _ e
  have f3 : ∀ b ∈ fp, FpOk X pins (upd H2 s2.heap.objs.size (.lst [])) b := fun b hb => ⟨by rw [upd_ne (Nat.ne_of_lt (lt2 b hb))]; exact (f2 b hb).1, (f2 b hb).2⟩
  generalize hs3 : ({ s2 with heap := s2.heap.push { cls := .type "list", data := .seq ([] : List Value).toArray } } : Shared) = s3 at I3
  have es3 : s3.heap = s2.heap.push { cls := .type "list", data := .seq ([] : List Value).toArray } := by rw [← hs3]
  have eg3 : s3.gens = s2.gens := by rw [← hs3]
  have lt3 : ∀ b ∈ fp, b < s3.heap.objs.size := fun b hb => by rw [es3, Heap.size_push]; exact Nat.lt_succ_of_lt (lt2 b hb)
  rw [← es3] at st3
  have hns : h₁.Ns s3.heap.objs.size (fun x => ([] : List (Str × Value)).reverse.lookup x) := by rw [es3]; exact hns₁
  have k34 : ∀ b o, s3.heap.get? b = some o → h₁.get? b = some o := fun b o e => by
    have hsb := hsb₁.extBut b o
    rw [es3] at e
    exact hsb (Nat.ne_of_lt (Heap.lt_size e)) (Heap.get?_push_of_some _ e)
  generalize hs4 : ({ s3 with heap := h₁, toks := s3.toks + ([] : List (Str × Value)).length } : Shared) = s4
  have es4 : s4.heap = h₁ := by rw [← hs4]
  have st4 : tn 0 s4.heap := T.keep 0 _ _ st3 fun b hb o e => by rw [es4]; exact k34 b o e
  have IY : Inv (cxComp X (nmY own fr) scope cl s3.heap.objs.size s3 (upd H2 s2.heap.objs.size (.lst [])) fp) [] (frY own fr σ) (upd H2 s2.heap.objs.size (.lst [])) s4 := by
    refine ⟨⟨I3.ok.mod, ok1, I3.ok.glob, I3.ok.blt, Nat.le_refl _, fun x y c e1 e2 => I3.ok.inj x y c (hcl.get x c e1) (hcl.get y c e2), fun x hx => ok4 x hx, (fun x c z => nomatch z), I3.ok.hd, I3.ok.frames, .inl rfl,
      fun b hb => ⟨Nat.ne_of_lt (lt3 b hb), fun x c e => (f3 b hb).2.2.2.2.1 x c (hcl.get x c e)⟩, I3.bs, Nat.le_trans I3.ok.bsz I3.sz, fun b o e hb => ?_, fun b hb z => ?_, I3.stack, I3.stkFree⟩,
      by rw [← hs4]; rfl, by rw [← hs4]; exact I3.bare, Un.kept (by rw [es4]; exact k34), ⟨_, by rw [es4]; exact hns, fun i x v e1 e2 e3 => ?_⟩, fun x c e => ?_, I3.hok.fresh (Nat.le_refl _), fun x c e => I3.freeC x c (hcl.get x c e), fun p hp => absurd hp (by simp [cxComp]), by rw [es4]; exact I3.hok.kept k34, ?_⟩
    · rcases (f3 b hb).2.2.2.1 with z | z
      · exact I3.ok.noex b o e z
      · exact absurd (Nat.lt_of_lt_of_le (Heap.lt_size (I3.ok.bs b o e).1) z) (Nat.lt_irrefl _)
    · rcases List.mem_cons.mp (I3.stkSub b z) with q | q
      · exact (f3 b hb).2.1 q
      · exact (f3 b hb).2.2.1 q
    · have e1 : (own ++ fr.map (·.1))[i]? = some x := e1
      have e2 : (own.map (fun _ => (none : Option V)) ++ fr.map fun p => σ.getD p.2 none)[i]? = some (some v) := e2
      have hi : own.length ≤ i := by
        refine Nat.le_of_not_lt fun hlt => ?_
        rw [List.getElem?_append_left (by simpa using hlt), List.getElem?_map] at e2
        cases q : own[i]? with
        | none => rw [q] at e2; cases e2
        | some a => rw [q] at e2; cases e2
      rw [List.getElem?_append_right hi, List.getElem?_map] at e1
      rw [List.getElem?_append_right (by simpa using hi), List.getElem?_map, List.length_map] at e2
      cases q : fr[i - own.length]? with
      | none => rw [q] at e1; cases e1
      | some p =>
        rw [q] at e1 e2
        obtain rfl : p.1 = x := Option.some.inj e1
        have e2 : σ.getD p.2 none = some v := Option.some.inj e2
        have e4 : σ[p.2]? = some (some v) := by
          rw [List.getD_eq_getElem?_getD] at e2
          cases z : σ[p.2]? with
          | none => rw [z] at e2; cases e2
          | some a =>
            rw [z] at e2
            have e2 : a = some v := e2
            rw [e2]
        obtain ⟨n1, n2, n3⟩ := hfr.mem p (List.mem_of_getElem? q)
        obtain ⟨m, hn, hl⟩ := I3.loc
        have vis : Vis X.env.scope p.1 := .inr (isCF_or n2)
        obtain ⟨u, r, l⟩ := hl p.2 p.1 v n1 e4 vis
        refine ⟨u, r, ?_⟩
        rcases l with ⟨k, _⟩ | ⟨_, c, e, z⟩
        · have k : X.env.scope.names.lookup p.1 = some .local := k
          rw [k] at n2; cases n2
        · obtain ⟨c', e'⟩ := ok4 p.1 (isCF_or n3)
          have e'' := hcl.get _ _ e'
          rw [e] at e''
          cases e''
          obtain ⟨o, ho, hd⟩ := z
          exact .inr ⟨isCF_or n3, c, e', o, by rw [es4]; exact k34 c o ho, hd⟩
    · obtain ⟨v, o, ho, hd⟩ := I3.cell x c (hcl.get x c e)
      exact ⟨v, o, by rw [es4]; exact k34 c o ho, hd⟩
    · simp [frY, nmY, cxComp]
  have fY : ∀ {H' : Hp} {s' : Shared}, (∀ b ∈ fp, H' b = none) → ∀ b ∈ fp, FpOk (cxComp X (nmY own fr) scope cl s3.heap.objs.size s3 (upd H2 s2.heap.objs.size (.lst [])) fp) [] H' b := fun {H' _} hn b hb =>
    ⟨hn b hb, Nat.ne_of_lt (lt3 b hb), fun z => by
      rcases List.mem_cons.mp (I3.stkSub b z) with q | q
      · exact (f3 b hb).2.1 q
      · exact (f3 b hb).2.2.1 q, .inl hb, fun x c e => (f3 b hb).2.2.2.2.1 x c (hcl.get x c e), fun p hp => absurd hp (by simp [cxComp])⟩
  have loop : codeAny (model X.prog X.w) X.A (.compLoop (.ListComp elt [⟨tg, iter, ifs, 0⟩] scope pos) 0 (.ref it) (.ref s2.heap.objs.size) (compEnvC scope cl s3.heap.objs.size X.env))
      (compPost (model X.prog X.w) X.A X.xe use PQ (.ref s2.heap.objs.size) s3.heap.objs.size) s4 := by
    refine comp_go (fun n s' => ∃ i ys H', Inv (cxComp X (nmY own fr) scope cl s3.heap.objs.size s3 (upd H2 s2.heap.objs.size (.lst [])) fp) [] (frY own fr σ) H' s' ∧ tn i s'.heap ∧ (∀ b ∈ fp, H' b = none) ∧ W i n ys H') ?_ m0
      ⟨0, [], _, IY, st4, fun b hb => (f3 b hb).1, w0⟩
    rintro n s5 ⟨i, ys, H5, I5, st5, fr5, w5⟩ E
    obtain ⟨d5, way⟩ := turn i n ys H5 w5
    rcases way with ⟨stop, q⟩ | ⟨go, N, hN, step⟩
    · refine thn (T.done (cxComp X (nmY own fr) scope cl s3.heap.objs.size s3 (upd H2 s2.heap.objs.size (.lst [])) fp) rfl rfl rfl hc i [] s5 _ H5 E I5 (fY (s' := s5) fr5) st5 stop) fun r s6 ⟨hr, I6⟩ => .inl ⟨hr, ?_⟩
      obtain ⟨m, hn, _⟩ := I6.loc
      have I7 : Inv X pins σ H5 s6 := I3.call' (s' := s6) (ch := fp) I6.os I6.base I6.hok I6.bare (fun b hb => ⟨(f3 b hb).2.2.2.1, (f3 b hb).2.1, (f3 b hb).2.2.2.2.1, (f3 b hb).2.2.2.2.2⟩)
      exact hend s6 H5 _ _ m I7 hn (I3.fpOk (Nat.le_refl _) I6.free) q
    · refine thn (T.item (cxComp X (nmY own fr) scope cl s3.heap.objs.size s3 (upd H2 s2.heap.objs.size (.lst [])) fp) rfl rfl rfl hc i [] s5 _ H5 E I5 (fY (s' := s5) fr5) st5 go) fun r s6 ⟨u, hr, h6⟩ => .inr ⟨u, hr, ?_⟩
      refine thn h6 fun _ s7 ⟨x, H7, I7, r7, y7, st7, fr7⟩ => ?_
      have I7' := I7.pinned (fY (s' := s7) fr7) (T.obj _ _ st7)
      refine up (thn (hg _ _ _ _ _ s7 _ H7 x u _ I7' r7 (step x H7 y7)) fun _ s8 ⟨σ8, H8, I8, x8, q8⟩ => ?_)
      refine up (thn (ht _ _ _ _ _ s8 σ8 H8 _ I8 q8) fun ok s9 ⟨H9, I9, q9⟩ => ?_)
      have again : ∀ {σ' : L2.St} {H' : Hp} {s' : Shared} {zs : List V}, Inv (cxComp X (nmY own fr) scope cl s3.heap.objs.size s3 (upd H2 s2.heap.objs.size (.lst [])) fp) ([] ++ pinsAt fp s7.heap) σ' H' s' → Ext (frY own fr σ) σ' → N zs H' →
          ∃ m, m < n ∧ ∃ i ys H', Inv (cxComp X (nmY own fr) scope cl s3.heap.objs.size s3 (upd H2 s2.heap.objs.size (.lst [])) fp) [] (frY own fr σ) H' s' ∧ tn i s'.heap ∧ (∀ b ∈ fp, H' b = none) ∧ W i m ys H' := fun {σ' H' s' zs} I' x' n' => by
        obtain ⟨m', hm, w'⟩ := hN zs H' n'
        refine ⟨m', hm, i + 1, zs, H', I'.unpinned.weak x'.len fun j v e => x'.get j v e, T.keep _ _ _ st7 fun b hb o e => (I'.pin (b, o) (List.mem_append_right _ (List.mem_append_right _ (mem_pinsAt hb e)))).1, fun b hb => ?_, w'⟩
        obtain ⟨o, e, _⟩ := T.obj _ _ st7 b hb
        exact (I'.pin (b, o) (List.mem_append_right _ (List.mem_append_right _ (mem_pinsAt hb e)))).2.1
      cases ok with
      | false =>
        rw [if_neg Bool.false_ne_true] at q9
        exact .inr ⟨rfl, again I9 x8 q9⟩
      | true =>
        rw [if_pos rfl] at q9
        refine .inl ⟨rfl, up (thn (he _ _ _ _ _ s9 σ8 H9 _ I9 q9) fun y s10 ⟨v10, H10, I10, r10, d10, z10, n10⟩ => ?_)⟩
        refine up (thn (mt_append _ s10 σ8 H10 (.ref s2.heap.objs.size) [v10] _ [y] (fun _ H' => N (ys ++ [v10]) H') I10 rfl (.cons r10 .nil) ⟨s2.heap.objs.size, ys, v10, rfl, rfl, d10, z10, n10⟩) fun _ s11 ⟨v11, H11, I11, _, n11⟩ => ?_)
        exact again I11 x8 n11
  have start : codeAny (model X.prog X.w) X.A (.compStart (.ListComp elt [⟨tg, iter, ifs, 0⟩] scope pos) 0 (.ref it) (.ref s2.heap.objs.size) (compEnvC scope cl s3.heap.objs.size X.env))
      (compPost (model X.prog X.w) X.A X.xe use PQ (.ref s2.heap.objs.size) s3.heap.objs.size) s4 := codeAny_compStart_list loop (T.self _ _ _ _ _ st4 loop)
  exact start

theorem pe_comp {X : Cx} {elt tg iter : Expr} {ifs : List Expr} {scope : Scope} {pos : Pos} {wi : TI} {g : TG} {tc : TT} {te : TE} {cl : List (Str × Addr)} (own : List Str) (fr : List (Str × Nat)) (hc : X.calm = true) (hi : PI X tg iter wi)
    (hclos : closureFor scope X.env = pure cl) (hcl : ClOk X cl) (hok : compOk scope X.env cl = true) (hfr : FrOk X scope fr)
    (hg : ∀ C s H fp, PG (cxComp X (nmY own fr) scope cl C s H fp) tg g) (ht : ∀ C s H fp, PTs (cxComp X (nmY own fr) scope cl C s H fp) ifs tc) (he : ∀ C s H fp, PE (cxComp X (nmY own fr) scope cl C s H fp) elt te)
    (hs : ∀ x, foldedSetIterable iter X.env x = pure x := by intro _; rfl) : PE X (.ListComp elt [⟨tg, iter, ifs, 0⟩] scope pos) (tComp wi own fr g tc te) := by
  intro pins s σ H Q I h
  rw [eval_ListComp]
  refine comp_core (use := none) own fr hc hi hclos hcl hok hfr hg ht he hs I h fun s6 H5 C D m I6 hn f q => ⟨m, hn, fun h' hs' => ?_⟩
  exact ⟨.ref D, H5, I6.turned (t' := s6.toks) (fun b o hb e => (hs'.2 b hb).trans e) f.1 f.2.1 f.2.2.2.1 f.2.2.2.2.1 f.2.2.2.2.2, rfl, q⟩
theorem rd_ret {te : TE} {D : Ends} {σ : L2.St} {H : Hp} (h : te σ H D.rt) : tRet te D σ H := h
theorem rd_call {r : List V → Hp → VK → Prop} {t : TA} {σ : L2.St} {H : Hp} {Q : VK} (h : t σ H fun vs H1 => r vs H1 Q) : tCB r t σ H Q := h
theorem rd_arg {ta : TE} {σ : L2.St} {H : Hp} {Q : List V → Hp → Prop} (h : ta σ H fun x H1 => Q [x] H1) : tCons ta tNil σ H Q := h
/-- over a text that stands at a name, its elements reckoned without a change of what is tracked -/
theorem comp_str {z : Str} {own : List Str} {fr : List (Str × Nat)} {te : TE} {σ : L2.St} {H : Hp} {Q : VK} {i0 j : Nat} (f : Nat → V) (hv : σ[j]? = some (some (.str z))) (hz : z.length ≤ sizeLine)
    (hx : ∀ v, Ext (frY own fr σ) ((frY own fr σ).set i0 (some v))) (he : ∀ c H2 (Q2 : VK), Q2 (f c) H2 → te ((frY own fr σ).set i0 (some (.str ⟨#[c]⟩))) H2 Q2) (q : ∀ D, H D = none → Q (.ref D) (upd H D (.lst (z.cps.toList.map f)))) :
    tComp (iStr (tVar j)) own fr (gName i0) tTrue te σ H Q := by
  refine ⟨_, hv, z, rfl, fun D hD => ?_⟩
  refine ⟨fun i m ys H2 => m = z.length - i ∧ i ≤ z.length ∧ ys = (z.cps.toList.take i).map f ∧ H2 = upd H D (.lst ys), ⟨z.length, by simp, Nat.zero_le _, by simp, rfl⟩, ?_⟩
  rintro i m ys H2 ⟨rfl, hi, rfl, rfl⟩
  refine ⟨upd_same, ?_⟩
  have hl : z.cps.toList.length = z.length := by rw [Array.length_toList]; rfl
  by_cases hlt : i < z.length
  · refine .inr ⟨hlt, fun zs H' => zs = (z.cps.toList.take (i + 1)).map f ∧ H' = upd H D (.lst zs), fun zs H' ⟨e1, e2⟩ => ⟨z.length - (i + 1), by omega, rfl, hlt, e1, e2⟩, fun x H' y => ?_⟩
    obtain ⟨e, c, hc, ex⟩ := y
    subst e ex
    refine ⟨hx _, ?_⟩
    unfold tTrue
    dsimp only
    rw [if_pos rfl]
    refine he c _ _ ⟨upd_same, ?_, ?_, upd_upd⟩
    · rw [List.length_map, List.length_take]
      omega
    · have e3 : z.cps.toList[i]? = some c := by rw [Array.getElem?_toList]; exact hc
      rw [List.take_add_one, e3, List.map_append]
      rfl
  · have e : i = z.length := by omega
    subst e
    refine .inl ⟨Nat.le_refl _, ?_⟩
    rw [List.take_of_length_le (by rw [hl]; exact Nat.le_refl _)]
    exact q D hD
end L3

/-! MY RULES, 2: a def that may be called, by its promise; the script's sizes; the law's head. -/
namespace L3
open PySem PySem.Spec PyProof.Rows L2

theorem bt_len : bootBuiltins "len" = some (.builtin "len") := by decide +kernel
theorem bt_all : bootBuiltins "all" = some (.builtin "all") := by decide +kernel
theorem bt_isinstance : bootBuiltins "isinstance" = some (.builtin "isinstance") := by decide +kernel
theorem bt_int : bootBuiltins "int" = some (.type "int") := by decide +kernel
theorem bt_str : bootBuiltins "str" = some (.type "str") := by decide +kernel
theorem bt_bool : bootBuiltins "bool" = some (.type "bool") := by decide +kernel
/-- a def of the text that may be called, by its promise -/
structure Cal (P : Program) (w : World) (K : PySem.W.Frag) (mg : Str → Option Value) (base : Heap) (CX : CXT) (k : Nat) (x : Str) (ps : List Str) (sp : Sp) : Prop where
  ex : ∃ (f : Addr) (fd : FuncData), mg x = some (.ref f) ∧ PySem.W.keepIn K (.ref f) = true ∧ Binds K fd ps [] ∧ FnOk P w K mg base CX k f fd ps sp
section
variable {X : Cx} {CX : CXT} {k : Nat} {x : Str} {ps : List Str} {sp : Sp} {E : XK} {e : PySem.Expr} {es : List PySem.Expr} {t : TA} {p pos : Pos}
theorem pe_fn (c : Cal X.prog X.w X.K X.mg X.base CX k x ps sp) (hr : Room k X.A) (hg : Gl X x) (hx : Passes CX X E) (ha : PA X (e :: es) t) (hdb : (x == ("__debug__" : Str)) = false := by decide)
    (he : starEach (e :: es) X.env = (false, eval e X.env) :: starEach es X.env := by rfl) (hpl : (backTo pos (starEach es X.env)).any (·.1) = false := by rfl) : PE X (.Call (.Name x p) (e :: es) [] pos) (tCall sp [] E t) := by
  obtain ⟨f, fd, hm, hk, hb, F⟩ := c.ex
  exact pe_call F hr hg hm hk hb .nil hx ha hdb he hpl
end
/-! ### the script's sizes -/
theorem bits_of_weight : ∀ {ns : List Int} {B : Nat}, PySem.W.WData.weightAll (ns.map PySem.W.WData.int) ≤ B → ∀ i ∈ ns, Builtin.Int.intBits i ≤ B
  | [], _, _, i, hi => by simp at hi
  | n :: ns, B, h, i, hi => by
    have h : PySem.W.WData.weight (.int n) + 1 + PySem.W.WData.weightAll (ns.map PySem.W.WData.int) ≤ B := h
    have e : PySem.W.WData.weight (.int n) = Builtin.Int.intBits n := rfl
    rw [e] at h
    rcases List.mem_cons.mp hi with rfl | hi
    · omega
    · exact bits_of_weight (by omega) i hi
theorem attachB {l : PySem.W.OpenLaw} {n : Nat} {q : Program} {loose : List Str} {XP : (Str → Option Value) → Heap → Prop} {YP : World → Heap → Prop} {d : DefRec}
    (hn : l.most = some n) (hdf : d.params.defaults = [])
    (call : ∀ (w : World) (s₀ s₁ : Shared) (mg mb : Str → Option Value) (fa : Addr) (a : Addr) (vs : List Value) (ns : List Int),
      PySem.W.Ground q loose [] XP w s₀ mg mb s₁.heap → YP w s₁.heap → mg d.name = some (.ref fa) →
      s₁.heap.get? a = some { cls := .type "list", data := .seq vs.toArray } → IntsAre vs ns → ns.length ≤ n → (∀ i ∈ ns, Builtin.Int.intBits i ≤ 1048576) → s₁.gens = #[] →
      codeAny (model l.prog w) callerA (.call (.ref fa) ⟨[.ref a], []⟩) (fun r s' => r = .ok (.ret (.bool true)) ∧ OldK s₁.heap s'.heap ∧ s'.os = s₁.os ∧ AllBare s'.gens) s₁) :
    PySem.W.WalkO q loose XP YP l.row.toRowW d [] (fun f vs => PySem.call f vs) := by
  intro w s₀ s₁ mg mb G Y fa o pm cd doc dV kV ho hdata hcode hD hmg hg args vals as hpre hlay hread hwl hlow
  obtain rfl : dV = .none := PySem.W.Dflts.none hD hdf
  obtain rfl : kV = .none := PySem.W.Dflts.noKw hD
  obtain ⟨a, vs, ns, rfl, rfl, hobj, hints, hlen⟩ := Att.script_of hn hpre hwl
  have hb : ∀ i ∈ ns, Builtin.Int.intBits i ≤ 1048576 := by
    have h1 : PySem.W.WData.layableAll [PySem.W.WData.list (ns.map PySem.W.WData.int)] = true := hlay
    have h2 : PySem.W.WData.layable (PySem.W.WData.list (ns.map PySem.W.WData.int)) = true := by simpa [PySem.W.WData.layableAll] using h1
    have h3 : PySem.W.WData.weight (PySem.W.WData.list (ns.map PySem.W.WData.int)) ≤ 2 ^ 20 := by
      unfold PySem.W.WData.layable at h2
      rw [Bool.and_eq_true] at h2
      exact of_decide_eq_true h2.2
    exact bits_of_weight (show PySem.W.WData.weightAll (ns.map PySem.W.WData.int) ≤ 1048576 from h3)
  refine PySem.W.enter_call (codeAny_mono (call w s₀ s₁ mg mb fa a vs ns G Y hmg hobj hints hlen hb hg) fun r s' hq => ?_)
  obtain ⟨rfl, h2, h3, h4⟩ := hq
  exact ⟨.inl ⟨.bool true, .bool true, [], rfl, fun _ => rfl, .bool true, Att.post_true l _, fun _ => ⟨List.Pairwise.nil, fun _ hm => (nomatch hm)⟩⟩, h2, h3, h4⟩
/-- the law's own promise: a list of at most 63 ints of known size is handed in, True comes out -/
def spLaw (K : PySem.W.Frag) : Sp := fun vs H Q _ => ∃ (a : Addr) (ns : List Int), vs = [.ref a] ∧ SqL K H a (ns.map V.int) ∧ ns.length ≤ 63 ∧ (∀ i ∈ ns, Builtin.Int.intBits i ≤ 1048576) ∧ ∀ H', Q (.bl true) H'
theorem walkB {l : PySem.W.OpenLaw} {k : Nat} {q : Program} {loose : List Str} {XP : (Str → Option Value) → Heap → Prop} {YP : World → Heap → Prop} {d : DefRec} {K : Params → PySem.W.Frag} {x : Str}
    (hn : l.most = some 63) (hdf : d.params.defaults = []) (hr : Room k callerA) (hY : ∀ (w : World) (h : Heap), YP w h → (K w.params).In h)
    (F : ∀ (w : World) (mg : Str → Option Value) (fa : Addr) (h : Heap), (K w.params).In h → h.Ns mainGlobals mg → mg d.name = some (.ref fa) →
      ∃ fd : FuncData, (∀ (s : Shared) (u : Value), BindsTo s fd ⟨[u], []⟩ [(x, u)]) ∧ ∀ base : Heap, (K w.params).In base → base.Ns mainGlobals mg → FnOk l.prog w (K w.params) mg base CX0 k fa fd [x] (spLaw (K w.params))) :
    PySem.W.WalkO q loose XP YP l.row.toRowW d [] (fun f vs => PySem.call f vs) := by
  refine attachB hn hdf fun w s₀ s₁ mg mb fa a vs ns G Y hmg hobj hints hlen hb hg => ?_
  have KX := hY w _ Y
  obtain ⟨fd, hbd, hF⟩ := F w mg fa _ KX G.T.g hmg
  exact law_call KX G.T.g G.T.b G.T.builtins G.T.nolimit hg hobj hints (Nat.le_trans hlen (by decide)) hr hF hbd (fun H hO hS => ⟨a, ns, rfl, hS, hlen, hb, fun _ => rfl⟩) fun H e s' z => z
end L3

/-! MY RULES, 3: int of a text, zfill, split, join, f-strings. -/
namespace L3
open PySem PySem.Spec PyProof.Rows L2 PySem.Builtin PySem.Builtin.Str
section
variable {X : Cx}
theorem call_int_str : CallR X (.type "int") (fun xs H Q => ∃ x n, xs = [.str x] ∧ PySem.intText? x = some n ∧ x.length ≤ 640 ∧ Q (.int n) H) := by
  intro pins s σ H xs us Q I r h
  obtain ⟨x, n, rfl, hn, hl, q⟩ := h
  obtain ⟨u, rfl, t, rfl⟩ := vals1 r
  exact PySem.W.KIN.call_text hn hl ⟨.int n, H, I.tok _, ⟨_, rfl⟩, q⟩
theorem split_any {prog : Program} {w : World} {A : Around} {E : Value → Shared → Prop} {s : Shared} {z y : Str} {t u : Tok} {Q : Value → Shared → Prop} (hy : (y.length == 0) = false)
    (h : ∀ (l : List (Str × Tok)) (k : Nat), l.map (·.1) = Txt.split z y → Q (.ref s.heap.objs.size) { s with heap := s.heap.push { cls := .type "list", data := .seq (strValues l).toArray }, toks := k }) (hz : z.length + 2 ≤ sizeLine) :
    wpAny (model prog w) A (call (.builtin "str.split") [.str z t, .str y u]) Q E s := by
  have few : (partsBetween z (occurrences z y 0 z.length (z.length + 1)) y.length).length ≤ sizeLine := by
    have most := StrLaws.occ_length_le z y 0 z.length (z.length + 1)
    rw [length_partsBetween]
    omega
  cases can : (decide (z.length < y.length) || decide (strKind z < strKind y))
  · cases none' : (occurrences z y 0 z.length (z.length + 1)).isEmpty
    · refine call_meets PySem.F.slot_str_split (typeIs_str _ _ _) PySem.F.entry_str_split (PySem.F.args_str_split_2 _ _) (meets_str_split_sep z y t u can hy none' (by omega) few) ?_
      show wants Q E _ { s with toks := _, heap := s.heap.push { cls := .type "list", data := .seq (strsFrom s.toks (partsBetween z (occurrences z y 0 z.length (z.length + 1)) y.length)).toArray } }
      rw [strsFrom_eq]
      exact h (numbered s.toks _) _ ((numbered_texts _ _).trans ((if_neg (ne_true_of_eq_false can)).trans (if_neg (ne_true_of_eq_false none'))).symm)
    · exact call_meets PySem.F.slot_str_split (typeIs_str _ _ _) PySem.F.entry_str_split (PySem.F.args_str_split_2 _ _) (meets_str_split_not_found z y t u can hy none') (h [(z, t)] s.toks ((if_neg (ne_true_of_eq_false can)).trans (if_pos none')).symm)
  · exact call_meets PySem.F.slot_str_split (typeIs_str _ _ _) PySem.F.entry_str_split (PySem.F.args_str_split_2 _ _) (meets_str_split_cannot_occur z y t u can) (h [(z, t)] s.toks (if_pos can).symm)
theorem vals_strs : ∀ l : List (Str × Tok), Vals ((l.map (·.1)).map V.str) (strValues l)
  | [] => .nil
  | p :: l => .cons ⟨p.2, rfl⟩ (vals_strs l)
theorem mt_s_split : MtR X "str.split" (fun x vs H Q => ∃ z c, x = .str z ∧ vs = [.str ⟨#[c]⟩] ∧ z.length + 2 ≤ sizeLine ∧ ∀ p, H p = none → Q (.ref p) (upd H p (.lst ((Txt.split z ⟨#[c]⟩).map V.str)))) := by
  intro pins s σ H x xs v us Q I rx r h
  obtain ⟨z, c, rfl, rfl, hz, q⟩ := h
  obtain ⟨t, rfl⟩ := rx
  obtain ⟨u, rfl, t2, rfl⟩ := vals1 r
  refine split_any (by rfl) (fun l k e => ?_) hz
  have hl : (Txt.split z ⟨#[c]⟩).length ≤ z.length + 2 := split_le z ⟨#[c]⟩
  have hv := vals_strs l
  rw [e] at hv
  exact ⟨.ref _, _, I.lnew (t' := k) hv (by rw [List.length_map]; omega), rfl, q _ I.fresh⟩
/-! ### f-strings -/
abbrev TF := L2.St → Hp → (Str → Hp → Prop) → Prop
def PF1 (X : Cx) (e : PySem.Expr) (t : TF) : Prop :=
  ∀ (pins : List (Addr × Obj)) (s : Shared) (σ : L2.St) (H : Hp) (Q : Str → Hp → Prop), Inv X pins σ H s → t σ H Q → wpAny (model X.prog X.w) X.A (eval e X.env) (fun u s' => ∃ y tk H', u = .str y tk ∧ Inv X pins σ H' s' ∧ Q y H') X.xe s
def PFs (X : Cx) (es : List PySem.Expr) (t : Str → TF) : Prop :=
  ∀ (out : Str) (pins : List (Addr × Obj)) (s : Shared) (σ : L2.St) (H : Hp) (Q : Str → Hp → Prop), Inv X pins σ H s → t out σ H Q → wpAny (model X.prog X.w) X.A (joinParts out (evalEach es X.env)) (fun u s' => ∃ y tk H', u = .str y tk ∧ Inv X pins σ H' s' ∧ Q y H') X.xe s
theorem pf_lit {x : Str} {k : Nat} {pos : Pos} : PF1 X (.Constant (.str x) k pos) (fun _ H Q => Q x H) := fun _ _ _ H _ I h => Calls.Constant_str ⟨x, _, H, rfl, I.tok _, h⟩
theorem pf_nil : PFs X [] (fun out _ H Q => out.length ≤ sizeLine ∧ Q out H) := fun out _ s _ H _ I h => joinParts_nil ⟨out, _, H, rfl, I.tok _, h.2⟩ h.1
theorem pf_cons {e : PySem.Expr} {es : List PySem.Expr} {t1 : TF} {t2 : Str → TF} (h1 : PF1 X e t1) (h2 : PFs X es t2) : PFs X (e :: es) (fun out σ H Q => t1 σ H fun y H1 => (out ++ y).length ≤ sizeLine ∧ t2 (out ++ y) σ H1 Q) := by
  intro out pins s σ H Q I h
  show wpAny (model X.prog X.w) X.A (joinParts out (eval e X.env :: evalEach es X.env)) _ X.xe s
  refine joinParts_cons (thn (h1 pins s σ H _ I h) fun v s1 hv => ?_)
  obtain ⟨y, tk, H1, rfl, I1, hz, q⟩ := hv
  exact ⟨hz, h2 (out ++ y) pins s1 σ H1 Q I1 q⟩
theorem pe_fstr {v1 v2 : PySem.Expr} {rest : List PySem.Expr} {pos : Pos} {t : Str → TF} (h : PFs X (v1 :: v2 :: rest) t) : PE X (.JoinedStr (v1 :: v2 :: rest) pos) (fun σ H Q => t Str.empty σ H fun y H1 => Q (.str y) H1) := by
  intro pins s σ H Q I q
  refine JoinedStr_many (thn (h Str.empty pins s σ H _ I q) fun u s1 hu => ?_)
  obtain ⟨y, tk, H1, rfl, I1, q1⟩ := hu
  exact ⟨.str y, H1, I1, ⟨tk, rfl⟩, q1⟩
end
end L3

/-! MATHEMATICS of texts: split is unjoining; a number's figures; slices. -/
namespace M1
open PySem.Builtin PySem.Builtin.Str PySem

/-! ### texts by their codes -/
def cs (x : Str) : List Nat := x.cps.toList
theorem ext {x y : Str} (h : cs x = cs y) : x = y := Str.ext' (Array.toList_inj.mp h)
theorem cs_app (x y : Str) : cs (x ++ y) = cs x ++ cs y := by
  show (x.cps ++ y.cps).toList = _
  rw [Array.toList_append]
  rfl
theorem cs_one (c : Nat) : cs ⟨#[c]⟩ = [c] := rfl
theorem len_cs (x : Str) : x.length = (cs x).length := by
  show x.cps.size = x.cps.toList.length
  rw [Array.length_toList]

/-! ### what is joined by a sign that stands in no part comes apart in one way -/
def J (c : Nat) : List (List Nat) → List Nat
  | [] => []
  | [p] => p
  | p :: q :: r => p ++ c :: J c (q :: r)
theorem cs_join (c : Nat) : ∀ ps : List Str, cs (Str.join ⟨#[c]⟩ ps) = J c (ps.map cs)
  | [] => rfl
  | [p] => rfl
  | p :: q :: r => by
    show cs (p ++ ⟨#[c]⟩ ++ Str.join ⟨#[c]⟩ (q :: r)) = _
    rw [cs_app, cs_app, cs_one, cs_join c (q :: r), List.append_assoc]
    rfl
theorem cut_one {c : Nat} : ∀ {a b r s : List Nat}, c ∉ a → c ∉ b → a ++ c :: r = b ++ c :: s → a = b ∧ r = s
  | [], [], _, _, _, _, e => ⟨rfl, (List.cons.inj e).2⟩
  | [], y :: b, _, _, _, hb, e => absurd (by have := (List.cons.inj e).1; rw [this]; exact List.mem_cons_self) hb
  | x :: a, [], _, _, ha, _, e => absurd (by have := (List.cons.inj e).1; rw [← this]; exact List.mem_cons_self) ha
  | x :: a, y :: b, r, s, ha, hb, e => by
    obtain ⟨e1, e2⟩ := List.cons.inj e
    obtain ⟨e3, e4⟩ := cut_one (fun z => ha (List.mem_cons_of_mem _ z)) (fun z => hb (List.mem_cons_of_mem _ z)) e2
    exact ⟨by rw [e1, e3], e4⟩
theorem J_inj {c : Nat} : ∀ {ps qs : List (List Nat)}, ps ≠ [] → qs ≠ [] → (∀ p ∈ ps, c ∉ p) → (∀ q ∈ qs, c ∉ q) → J c ps = J c qs → ps = qs
  | [], _, h, _, _, _, _ => absurd rfl h
  | _, [], _, h, _, _, _ => absurd rfl h
  | [p], [q], _, _, _, _, e => by
    have e : p = q := e
    rw [e]
  | [p], q :: q2 :: r, _, _, hp, _, e => by
    have e : p = q ++ c :: J c (q2 :: r) := e
    exact absurd (by rw [e]; simp) (hp p List.mem_cons_self)
  | p :: p2 :: r, [q], _, _, _, hq, e => by
    have e : p ++ c :: J c (p2 :: r) = q := e
    exact absurd (by rw [← e]; simp) (hq q List.mem_cons_self)
  | p :: p2 :: r, q :: q2 :: s, _, _, hp, hq, e => by
    have e : p ++ c :: J c (p2 :: r) = q ++ c :: J c (q2 :: s) := e
    obtain ⟨e1, e2⟩ := cut_one (hp p List.mem_cons_self) (hq q List.mem_cons_self) e
    have ih := J_inj (by simp) (by simp) (fun z hz => hp z (List.mem_cons_of_mem _ hz)) (fun z hz => hq z (List.mem_cons_of_mem _ hz)) e2
    rw [e1, ih]
theorem split_ne (x : Str) (c : Nat) : Txt.split x ⟨#[c]⟩ ≠ [] := by
  intro e
  have h := StrLaws.join_split x ⟨#[c]⟩
  unfold Txt.split at e
  split at e
  · cases e
  · split at e
    · cases e
    · rename_i h1 h2
      rw [StrLaws.partsBetween_eq] at e
      obtain ⟨p, q, e'⟩ := StrLaws.partsFrom_ne x (⟨#[c]⟩ : Str).length 0 (occurrences x ⟨#[c]⟩ 0 x.length (x.length + 1))
      rw [e'] at e
      cases e
/-- split, told by what it comes of -/
theorem split_eq (x : Str) (c : Nat) (ps : List Str) (h0 : ps ≠ []) (hf : ∀ p ∈ ps, c ∉ cs p) (e : cs x = J c (ps.map cs)) : Txt.split x ⟨#[c]⟩ = ps := by
  have h1 : J c ((Txt.split x ⟨#[c]⟩).map cs) = J c (ps.map cs) := by rw [← cs_join, StrLaws.join_split, e]
  have h2 := J_inj (c := c) (ps := (Txt.split x ⟨#[c]⟩).map cs) (qs := ps.map cs) (by simpa using split_ne x c) (by simpa using h0)
    (fun p hp => by obtain ⟨q, hq, rfl⟩ := List.mem_map.mp hp; exact StrLaws.split_free x c q hq) (fun p hp => by obtain ⟨q, hq, rfl⟩ := List.mem_map.mp hp; exact hf q hq) h1
  have h3 : ∀ (a b : List Str), a.map cs = b.map cs → a = b := by
    intro a
    induction a with
    | nil => intro b e; cases b with | nil => rfl | cons _ _ => cases e
    | cons x a ih =>
      intro b e
      cases b with
      | nil => cases e
      | cons y b =>
        obtain ⟨e1, e2⟩ := List.cons.inj e
        rw [ext e1, ih b e2]
  exact h3 _ _ h2

/-! ### slices -/
def ix (n d : Nat) : Option Int → Nat
  | none => d
  | some i => (max 0 (min (if i < 0 then i + (n : Int) else i) (n : Int))).toNat
theorem ix_le {n d : Nat} (h : d ≤ n) : ∀ o, ix n d o ≤ n
  | none => h
  | some i => by
    show (max 0 (min (if i < 0 then i + (n : Int) else i) (n : Int))).toNat ≤ n
    omega
theorem pick (L : List Nat) (lo : Nat) : ∀ m : Nat, (List.range m).filterMap (fun k => L[lo + k]?) = (L.drop lo).take m
  | 0 => by simp
  | m + 1 => by
    rw [List.range_succ, List.filterMap_append, pick L lo m, List.take_add_one, List.getElem?_drop]
    cases h : L[lo + m]? <;> simp [h]
theorem idx_eq (l u : Option Int) (n : Nat) : strSliceIndices l u 1 n = (List.range (ix n n u - ix n 0 l)).map (ix n 0 l + ·) := by
  have key : ∀ a b : Nat, sliceRange (a : Int) (b : Int) 1 = (List.range (b - a)).map (a + ·) := by
    intro a b
    unfold sliceRange
    simp only [show (1 : Int) > 0 by decide, if_true]
    have e1 : (if (a : Int) < (b : Int) then ((b : Int) - (a : Int) + 1 - 1) / 1 else 0).toNat = b - a := by
      split
      · rw [Int.ediv_one]; omega
      · omega
    rw [e1]
    refine List.map_congr_left fun place _ => ?_
    omega
  have e1 : ∀ (d : Nat) (o : Option Int), (match o with | none => (d : Int) | some i => max 0 (min (if i < 0 then i + (n : Int) else i) (n : Int))) = ((ix n d o : Nat) : Int) := by
    intro d o
    cases o with
    | none => rfl
    | some i =>
      show max 0 (min (if i < 0 then i + (n : Int) else i) (n : Int)) = (((max 0 (min (if i < 0 then i + (n : Int) else i) (n : Int))).toNat : Nat) : Int)
      omega
  rw [← key, ← e1 0 l, ← e1 n u]
  unfold strSliceIndices
  simp only [show (1 : Int) > 0 by decide, if_true]
  cases l <;> cases u <;> rfl
theorem slice_cut (x : Str) (l u : Option Int) : cs (Txt.slice x l u) = ((cs x).drop (ix x.length 0 l)).take (ix x.length x.length u - ix x.length 0 l) := by
  unfold Txt.slice
  rw [idx_eq]
  have h1 := ix_le (n := x.length) (d := x.length) (Nat.le_refl _) u
  split
  · rename_i h
    have h : ix x.length x.length u - ix x.length 0 l = x.length := by simpa using h
    by_cases hx : x.length = 0
    · have e : cs x = [] := List.length_eq_zero_iff.mp (by rw [← len_cs]; exact hx)
      rw [e]
      simp
    · have e : ix x.length 0 l = 0 := by omega
      rw [h, e, List.drop_zero, len_cs, List.take_length]
  · show (((List.range (ix x.length x.length u - ix x.length 0 l)).map (ix x.length 0 l + ·)).filterMap (x.cps[·]?)).toArray.toList = _
    rw [List.filterMap_map, ← pick]
    have e : ((fun a => x.cps[a]?) ∘ fun k => ix x.length 0 l + k) = fun k => (cs x)[ix x.length 0 l + k]? := by
      funext k
      show x.cps[ix x.length 0 l + k]? = (cs x)[ix x.length 0 l + k]?
      unfold cs
      rw [Array.getElem?_toList]
    rw [← e]
theorem slice_init (a : Str) (c : Nat) : Txt.slice (a ++ ⟨#[c]⟩) none (some (-1)) = a := by
  apply ext
  rw [slice_cut, cs_app, cs_one]
  have hl : (a ++ ⟨#[c]⟩ : Str).length = (cs a).length + 1 := by rw [len_cs, cs_app, cs_one]; simp
  have e1 : ix (a ++ ⟨#[c]⟩ : Str).length (a ++ ⟨#[c]⟩ : Str).length (some (-1)) = (cs a).length := by
    show (max 0 (min (if (-1 : Int) < 0 then -1 + ((a ++ ⟨#[c]⟩ : Str).length : Int) else -1) ((a ++ ⟨#[c]⟩ : Str).length : Int))).toNat = _
    rw [hl]
    omega
  rw [e1]
  show (((cs a) ++ [c]).drop 0).take ((cs a).length - 0) = _
  simp
theorem slice_last (a : Str) (c : Nat) : Txt.slice (a ++ ⟨#[c]⟩) (some (-1)) none = ⟨#[c]⟩ := by
  apply ext
  rw [slice_cut, cs_app, cs_one]
  have hl : (a ++ ⟨#[c]⟩ : Str).length = (cs a).length + 1 := by rw [len_cs, cs_app, cs_one]; simp
  have e1 : ix (a ++ ⟨#[c]⟩ : Str).length 0 (some (-1)) = (cs a).length := by
    show (max 0 (min (if (-1 : Int) < 0 then -1 + ((a ++ ⟨#[c]⟩ : Str).length : Int) else -1) ((a ++ ⟨#[c]⟩ : Str).length : Int))).toNat = _
    rw [hl]
    omega
  rw [e1]
  show (((cs a) ++ [c]).drop (cs a).length).take ((a ++ ⟨#[c]⟩ : Str).length - (cs a).length) = _
  rw [hl]
  simp

/-! ### a sign stands in a text -/
def inS (y : Str) (c : Nat) : Bool := !(occurrences y ⟨#[c]⟩ 0 y.length 1).isEmpty
theorem inS_iff (y : Str) (c : Nat) : inS y c = true ↔ c ∈ cs y := by
  unfold inS
  rw [StrLaws.found_iff]
  constructor
  · rintro ⟨i, h1, h2⟩
    have := (StrLaws.subAt_one y c i).mp ⟨h1, h2⟩
    exact List.mem_of_getElem? this
  · intro h
    obtain ⟨i, hi⟩ := List.getElem?_of_mem h
    exact ⟨i, (StrLaws.subAt_one y c i).mpr hi⟩
end M1

/-! MATHEMATICS of numbers' texts. -/
namespace M2
open PySem M1
def num (n : Nat) : Str := Str.ofString (toString ((n : Nat) : Int))
theorem cs_num (n : Nat) : cs (num n) = (Nat.toDigits 10 n).map Char.toNat := PySem.W.KIN.signs_num n
theorem fig : ∀ d : Nat, d < 10 → (Nat.digitChar d).toNat = 48 + d := by decide
theorem num_small {n : Nat} (h : n < 10) : cs (num n) = [48 + n] := by
  rw [cs_num, Nat.toDigits_of_lt_base h]
  show [(Nat.digitChar n).toNat] = _
  rw [fig n h]
theorem num_step {n : Nat} (h : 10 ≤ n) : cs (num n) = cs (num (n / 10)) ++ [48 + n % 10] := by
  have hm : n % 10 < 10 := Nat.mod_lt n (by decide)
  have t : Nat.toDigits 10 (n / 10) ++ Nat.toDigits 10 (n % 10) = Nat.toDigits 10 (10 * (n / 10) + n % 10) := Nat.toDigits_append_toDigits (by decide) (by omega) hm
  rw [Nat.div_add_mod] at t
  rw [cs_num, cs_num, ← t, List.map_append, Nat.toDigits_of_lt_base hm]
  show _ ++ [(Nat.digitChar (n % 10)).toNat] = _
  rw [fig _ hm]
theorem num_digits (n : Nat) : NumText.AllDigits (cs (num n)) := by
  induction n using Nat.strongRecOn with
  | _ n ih =>
    by_cases h : n < 10
    · rw [num_small h]
      intro c hc
      have e : c = 48 + n := by simpa using hc
      omega
    · rw [num_step (by omega)]
      intro c hc
      rcases List.mem_append.mp hc with h1 | h1
      · exact ih (n / 10) (by omega) c h1
      · have e : c = 48 + n % 10 := by simpa using h1
        have := Nat.mod_lt n (show 10 > 0 by decide)
        omega
theorem num_len {n k : Nat} (hk : 0 < k) (h : n < 10 ^ k) : (num n).length ≤ k := by
  refine PyProof.Rows.toString_length_le (by omega) hk ?_
  have e : ((10 ^ k : Nat) : Int) = (10 : Int) ^ k := by simp
  rw [← e]
  omega
end M2

/-! MY RULES, 5: dicts that are walked (keys, pairs), frozen while it goes on; any, max over a list; == of dicts and of lists of dicts. -/
namespace L3
open PySem PySem.Spec PyProof.Rows L2
/-! ### another word for what stands at an address -/
section
variable {X : Cx} {pins : List (Addr × Obj)} {σ : L2.St} {H : Hp} {s : Shared} {a n : Addr} {p q : HO}
end

/-! ### walking a dict -/
section
variable {X : Cx} {tg : PySem.Expr}
/-! ### behind the walk: thawed -/
end
end L3

/-! MY RULES, 6: comprehensions and loops over any iterator; any, max, min over a list; dict(d); sorted(d); == and != of data. -/
namespace L3
open PySem PySem.Spec PyProof.Rows L2
/-! ### [elt for tg in it if c]: what is tracked ahead stays, new things may come -/
/-! ### for over any iterator, by a word of the turn -/
section
variable {X : Cx} {pins : List (Addr × Obj)} {σ : L2.St} {H : Hp} {s : Shared}
end
section
variable {X : Cx}
/-! ### sorted(d): the keys, texts -/
end
/-! ### over a dict: nothing that is tracked changes -/
end L3

/-! MY RULES, 7: == and != of data: flat values, lists, tuples, dicts with flat values, one within the other. -/
namespace L3
open PySem PySem.Spec PyProof.Rows L2
section
variable {P : Program} {w : World} (l b : Addr) (xs ys : Array Value) (n m : Nat) (d1 d2 : Option Addr) (s1 s2 : Array (Option Value)) (e : Nat → Bool)
end
end L3

/-! MY RULES, 8: tuples compared; data and what stands for it; the rules for == and != of data. -/
namespace L3
open PySem PySem.Spec PyProof.Rows L2
section
variable {P : Program} {w : World} (l b : Addr) (xs ys : Array Value) (n m : Nat) (d1 d2 : Option Addr) (s1 s2 : Array (Option Value)) (e : Nat → Bool)
end
/-! ### comparisons of two lists, two tuples, two dicts at hand -/
section
variable {P : Program} {w : World} {A : Around} {s : Shared} {l b : Addr} {xs ys : Array Value} {e : Nat → Bool}
end
end L3

/-! MY RULES, 9: data and what stands for it; the rules for == and != of data. -/
namespace L3
open PySem PySem.Spec PyProof.Rows L2
section
variable {X : Cx} {pins : List (Addr × Obj)} {σ : L2.St} {H : Hp} {s : Shared}
end
section
variable {X : Cx}
end
end L3

/-! MATHEMATICS, 3: tables from texts to ints; the greatest of a list. -/
namespace M3
open PySem PySem.Spec PyProof.Rows L2 L3
end M3
namespace M3
open PySem L2 L3
end M3

/-! MY RULES, 10: odds and ends. -/
namespace L3
open PySem PySem.Spec PyProof.Rows L2
end L3

/-! MY RULES, 11: own classes: an object made with and without an __init__, a method by the object's own class; == with []. -/
namespace L3
open PySem PySem.Spec PyProof.Rows L2
section
variable {X : Cx} {pins : List (Addr × Obj)} {σ : L2.St} {H : Hp} {s : Shared} {n : Addr} {q : HO}
/-- what stands at an address that was free is tracked from now on -/
theorem Inv_track3 {σ₁ : L2.St} {H₁ : Hp} {s' : Shared} (I0 : L2.Inv X pins σ₁ H₁ s) (I : L2.Inv X pins σ H s') (f0 : H n = none) (hn : s.heap.get? n = none) (ok : ObjOk X.prog X.w (upd H n q) s'.heap n q) : L2.Inv X pins σ (upd H n q) s' := by
  have ns : ∀ b u, H b = some u → b ≠ n := fun b u e z => by subst z; rw [f0] at e; cases e
  have nh : ∀ b o, s.heap.get? b = some o → b ≠ n := fun b o e z => by subst z; rw [hn] at e; cases e
  have nL : X.env.locals ≠ n := by
    obtain ⟨m, ⟨o, _, _, e, _⟩, _⟩ := I0.loc
    exact nh _ o e
  refine ⟨I.ok, I.os, I.bare, ⟨I.base.keep, I.base.slot, fun b o e m hx => ?_, I.base.there, fun b xs e => ?_, fun b o u e => ?_, fun b ps e => ?_⟩, I.loc, I.cell, ?_, fun x c e => ?_, fun z hz => ?_, fun b u e => ?_, I.len⟩
  · refine (upd_ne ?_).trans (I.base.free b o e m hx)
    obtain ⟨o', z⟩ := I0.base.there b o e hx
    exact nh b o' z
  · rw [upd_ne (ns b _ (I.base.tups b xs e))]; exact I.base.tups b xs e
  · rw [upd_ne (ns b _ (I.base.frzs b o u e))]; exact I.base.frzs b o u e
  · obtain ⟨m, e2⟩ := I.base.tbls b ps e
    exact ⟨m, by rw [upd_ne (ns b _ e2)]; exact e2⟩
  · rw [upd_ne nL]; exact I.free
  · obtain ⟨v, o, z, _⟩ := I0.cell x c e
    rw [upd_ne (nh c o z)]
    exact I.freeC x c e
  · obtain ⟨z1, z2, z3⟩ := I.pin z hz
    exact ⟨z1, by rw [upd_ne (nh z.1 z.2 (I0.pin z hz).1)]; exact z2, z3⟩
  · by_cases hb : b = n
    · subst hb
      rw [upd_same] at e
      cases e
      exact ok
    · rw [upd_ne hb] at e
      exact (I.hok b u e).stay (fun _ _ _ z => z) (fun c z => by rw [upd_ne (ns c _ z)]; exact z) fun c xs z => by rw [upd_ne (ns c _ z)]; exact z
end
section
variable {X : Cx} {CX : CXT} {k : Nat} {x m : Str} {C : Addr} {ps : List Str} {sp : Sp} {sf : Addr → Sp} {Fam : Addr → Prop} {E : XK} {e o : PySem.Expr} {es : List PySem.Expr} {ta : TE} {t : TA} {p pos apos : Pos}
end
end L3

/-! MY RULES, 12: a promise that nothing can ask for; isinstance of own objects. -/
namespace L3
open PySem PySem.Spec PyProof.Rows L2
theorem iteNo {c A B : Prop} [Decidable c] (hc : ¬ c) (h : B) : if decide c = true then A else B := by
  rw [decide_eq_false hc]
  exact iteF h
end L3

namespace L3
open PySem PySem.Spec PyProof.Rows L2
/-! ### list(reversed(xs)) -/
section
variable {prog : Program} {w : World} {A : Around} {E : Value → Shared → Prop} {s : Shared} {it l S : Addr} {items : Array Value}
end
section
variable {X : Cx} {e : PySem.Expr} {te : TE} {p p2 pos pos2 : Pos}
/-! ### a try whose body raises nothing -/
end
end L3

/-! MY RULES, 14: a text by its repr in an f-string; exceptions of own classes: raised, passed on. -/
namespace L3
open PySem PySem.Spec PyProof.Rows L2 PySem.W PySem.Calls
section
variable {X : Cx}
theorem pf_repr {e : PySem.Expr} {te : TE} {pos : Pos} (he : PE X e te) : PF1 X (.FormattedValue e 114 none pos) (fun σ H Q => te σ H fun v H1 => ∃ y, v = .str y ∧ y.length ≤ 100000 ∧ (∀ c ∈ y.cps.toList, c < 16 ^ 8) ∧ Q (reprText y) H1) := by
  intro pins s σ H Q I h
  refine wpAny_FormattedValue_repr (thn (he pins s σ H _ I h) fun v s1 ⟨x, H1, I1, r1, q1⟩ => ?_)
  obtain ⟨y, rfl, hy, hc, q⟩ := q1
  obtain ⟨t, rfl⟩ := r1
  have l := StrLaws.reprText_len y hc
  have z : (reprText y).length ≤ sizeLine := by rw [sizeLine_eq]; omega
  exact wpAny_pyReprObj_str (formatField_str (fun t' tk => ⟨_, t', H1, rfl, I1.tok _, q⟩) z) z
end
/-! ### a tree that calls nothing and leaves every object its dict -/
def Kd {α : Type} : Sem α → Prop
  | .pure _ => True
  | .raise _ => True
  | .unsupported _ => True
  | .finish _ => True
  | .rule _ k => Kd (k ())
  | .at _ k => Kd (k ())
  | .point _ k => Kd (k ())
  | .load _ _ k => ∀ o, Kd (k o)
  | .loadIfAlive _ k => ∀ o, Kd (k o)
  | .update _ _ f k => (∀ o, (f o).dict = o.dict ∧ (f o).isFreed = o.isFreed) ∧ Kd (k ())
  | .alloc _ k => ∀ a, Kd (k a)
  | .fresh k => ∀ t, Kd (k t)
  | .ask k => ∀ t, Kd (k t)
  | .stack k => ∀ l, Kd (k l)
  | _ => False
/-- objects keep their dicts -/
def DK (h h' : Heap) : Prop := ∀ b o, h.get? b = some o → ∃ o', h'.get? b = some o' ∧ o'.dict = o.dict
theorem DK.trans {h1 h2 h3 : Heap} (x : DK h1 h2) (y : DK h2 h3) : DK h1 h3 := fun b o e =>
  let ⟨o1, e1, d1⟩ := x b o e
  let ⟨o2, e2, d2⟩ := y b o1 e1
  ⟨o2, e2, d2.trans d1⟩
theorem DK.upd {h : Heap} {a : Addr} {f : Obj → Obj} (hf : ∀ o, (f o).dict = o.dict ∧ (f o).isFreed = o.isFreed) : DK h (h.update a f) := fun b o e => by
  by_cases q : a = b
  · subst q
    exact ⟨f o, Heap.get?_update_self f e ((hf o).2.trans (Heap.get?_some_iff.mp e).2), (hf o).1⟩
  · exact ⟨o, (Heap.get?_update_other h f q).trans e, rfl⟩
theorem Kd.wp {α : Type} {M : Model} {Γ : PySem.Ctx} {Q : α → Pos → Shared → Prop} {E : Value → Pos → Shared → Prop} {h0 : Heap} (t : Sem α) : ∀ (p : Pos) (s : Shared), Kd t → DK h0 s.heap → Sem.wp M Γ t Q E p s →
    Sem.wp M Γ t (fun a p' s' => Q a p' s' ∧ DK h0 s'.heap) (fun e p' s' => E e p' s' ∧ DK h0 s'.heap) p s := by
  induction t with
  | pure a => exact fun p s _ d w => ⟨w, d⟩
  | raise e => exact fun p s _ d w => ⟨w, d⟩
  | unsupported | finish => exact fun p s _ _ w => w
  | rule _ k ih | point _ k ih => exact fun p s c d w => ih () p s c d w
  | «at» p' k ih => exact fun p s c d w => ih () p' s c d w
  | load a _ k ih => exact fun p s c d ⟨o, ho, w⟩ => ⟨o, ho, ih o p s (c o) d w⟩
  | loadIfAlive a k ih => exact fun p s c d w => ih _ p s (c _) d w
  | update a _ f k ih => exact fun p s c d ⟨ha, w⟩ => ⟨ha, ih () p _ c.2 (d.trans (DK.upd c.1)) w⟩
  | alloc o k ih => exact fun p s c d w => ih _ p _ (c _) (d.trans fun b o' e => ⟨o', Heap.get?_push_of_some o e, rfl⟩) w
  | fresh k ih => exact fun p s c d w => ih _ p _ (c _) d w
  | ask k ih => exact fun p s c d w => ih _ p s (c _) d w
  | stack k ih => exact fun p s c d w => ih _ p s (c _) d w
  | _ => exact fun p s c => c.elim
theorem Kd.any {α : Type} {M : Model} {A : Around} {Q : α → Shared → Prop} {E : Value → Shared → Prop} {s : Shared} {t : Sem α} (c : Kd t) (h : wpAny M A t Q E s) : wpAny M A t (fun a s' => Q a s' ∧ DK s.heap s'.heap) (fun e s' => E e s' ∧ DK s.heap s'.heap) s :=
  fun Γ p hΓ => Kd.wp t p s c (fun _ o e => ⟨o, e, rfl⟩) (h Γ p hΓ)
theorem Kd.bind {α β : Type} {k : α → Sem β} (t : Sem α) : Kd t → (∀ a, Kd (k a)) → Kd (t >>= k) := by
  show Kd t → (∀ a, Kd (k a)) → Kd (Sem.bind t k)
  induction t with
  | pure a => exact fun _ z => z a
  | raise | unsupported | finish => exact fun _ _ => trivial
  | rule _ k ih | point _ k ih | «at» _ k ih => exact fun c z => ih () c z
  | load _ _ k ih | loadIfAlive _ k ih | alloc _ k ih | fresh k ih | ask k ih | stack k ih => exact fun c z o => ih o (c o) z
  | update _ _ f k ih => exact fun c z => ⟨c.1, ih () c.2 z⟩
  | _ => exact fun c => c.elim
theorem kd_load {α : Type} {a : Addr} {k : Obj → Sem α} (h : ∀ o, Kd (k o)) : Kd (load a >>= k) := Kd.bind _ (fun _ => trivial) h
theorem kd_field (v : Value) (i : Nat) : Kd (field v i) := by
  unfold field fieldsOf
  refine Kd.bind _ ?_ fun x => by split <;> exact trivial
  cases v <;> first | exact trivial | (refine kd_load fun o => ?_; split <;> exact trivial)
theorem kd_map (f : Array Value → Array Value) (o : Obj) : (Obj.mapFields f o).dict = o.dict ∧ (Obj.mapFields f o).isFreed = o.isFreed := by
  obtain ⟨c, d, x, l⟩ := o
  cases x <;> exact ⟨rfl, rfl⟩
theorem kd_set (v : Value) (i : Nat) (x : Value) : Kd (setField v i x) := by
  unfold setField updateField
  cases v <;> first | exact trivial | skip
  refine kd_load fun o => ?_
  split
  · split
    · exact ⟨kd_map _, trivial⟩
    · exact trivial
  · exact trivial
theorem kd_flight (e : Value) (f : Option Addr) : Kd (setFlight e f) := by
  unfold setFlight
  refine Kd.bind _ (kd_field _ _) fun tb => ?_
  split
  · exact kd_set _ _ _
  · exact trivial
theorem kd_entry (a b c d e : Value) (l : List Value) : Kd (EntryCells.newEntry a b c d e l) := by
  unfold EntryCells.newEntry newFields newObj newObjAsIs
  dsimp only
  generalize [a, b, c, d, e] ++ _ = vs
  split
  · exact trivial
  · exact fun _ => trivial
theorem kd_import (env : Env) (outer : List Env) : Kd (behindIsImport env outer) := by
  unfold behindIsImport
  split
  · exact trivial
  · split
    · exact trivial
    · exact Kd.bind _ (kd_field _ _) fun _ => trivial
theorem kd_back (env : Env) (b : Bool) : ∀ outer : List Env, Kd (keptBack env b outer)
  | [] => by
    show Kd (if (env.scope.isGenerator || env.scope.isCoroutine) = true then pure Value.none else _)
    split
    · exact trivial
    · exact fun _ => trivial
  | _ :: _ => trivial
theorem kd_ready : ∀ l : List Env, Kd (readyFrames l)
  | [] => trivial
  | env :: outer => by
    unfold readyFrames
    split
    · refine kd_load fun o => ?_
      split
      · exact trivial
      · exact Kd.bind _ (kd_import _ _) fun _ => Kd.bind _ (kd_back _ _ _) fun _ => ⟨fun o => ⟨rfl, by obtain ⟨c, d, x, l⟩ := o; cases x <;> rfl⟩, kd_ready outer⟩
    · exact trivial
theorem kd_frame (env : Env) : Kd (PySem.frameOf env) := by
  unfold PySem.frameOf
  refine Kd.bind _ (fun _ => trivial) fun l => ?_
  refine Kd.bind _ ?_ fun x => by split <;> exact trivial
  cases l.dropWhile (·.frame != env.frame) with
  | nil => exact trivial
  | cons a r => exact Kd.bind _ (kd_ready _) fun _ => trivial
theorem kd_place (f : Addr) (b : Bool) : Kd (entryPlaceOf f b) := by
  unfold entryPlaceOf
  refine Kd.bind _ (fun _ => trivial) fun l => ?_
  split <;> exact trivial
theorem kd_note (e : Value) (env : Env) : Kd (noteFrame e env) := by
  unfold noteFrame
  have rest : ∀ (f : Addr) (head : Value), Kd (do let a ← PySem.frameOf env; let pl ← entryPlaceOf f (head != .none); let b ← EntryCells.newEntry head a .none (rawInt f) .none pl; setField e 1 b) := fun f head =>
    Kd.bind _ (kd_frame _) fun _ => Kd.bind _ (kd_place _ _) fun _ => Kd.bind _ (kd_entry _ _ _ _ _ _) fun _ => kd_set _ _ _
  split
  · refine Kd.bind _ (kd_field _ _) fun head => ?_
    dsimp only
    split
    · refine Kd.bind _ (kd_field _ _) fun x => ?_
      split
      · exact trivial
      · exact Kd.bind _ (kd_set _ _ _) fun _ => rest _ _
    · exact rest _ _
  · exact trivial
theorem kd_leaving (env : Env) (e : Value) : Kd (leaving env e) := Kd.bind _ (kd_note _ _) fun _ => kd_flight _ _
/-! ### flying -/
/-- what stays while an exception flies: B holds all objects but the frames and what belongs to the exception -/
structure Kp (fs : List Addr) (H H' : Hp) (h h' B : Heap) : Prop where
  keep : ∀ b o, h.get? b = some o → H b = none → b ∉ fs → B.get? b = some o ∧ H' b = none
  slot : ∀ b o, h.get? b = some o → H b = none → b ∈ fs → (∃ sl, h'.get? b = some { o with slots := sl }) ∧ H' b = none
  there : ∀ b o, h.get? b = some o → b ∉ fs → ∃ o', B.get? b = some o'
  tups : ∀ b xs, H b = some (.tup xs) → H' b = some (.tup xs)
  frzs : ∀ b o u, H b = some (.frz o u) → H' b = some (.frz o u)
  tbls : ∀ b ps, H b = some (.tbl ps) → ∃ more, H' b = some (.tbl (ps ++ more))
def CXr (P : Program) (w : World) : CXT := fun outer H s E ev s' => ∃ (e D : Addr) (a0 : Value) (H' : Hp) (B : Heap), ev = .ref e ∧ s'.os = s.os ∧ AllBare s'.gens ∧ Heap.FlyingW B outer e (.ref D) a0 s'.heap ∧
  Kp (frs outer) H H' s.heap s'.heap B ∧ HOk P w H' B ∧ ∃ d, (∃ ob, s'.heap.get? e = some ob ∧ ob.dict = d) ∧ E (.ref D) d H'
section
variable {P : Program} {w : World} {K : Frag} {mg : Str → Option Value} {base : Heap} {N : List Str} {qual : Str} {scope : Scope} {f : Addr} {cdv : Value} {A : Around} {outer : List Env} {s₀ : Shared} {H₀ : Hp} {E : XK}
theorem raise_leaves {pins : List (Addr × Obj)} {σ : L2.St} {H : Hp} {s : Shared} {h' : Heap} {e D : Addr} {us : List Value} (I : L2.Inv (cxOf (CXr P w) P w K mg base N qual scope f cdv A outer s₀ H₀ E) pins σ H s)
    (hx : Heap.MadeExcOf s.heap h' e (.ref D) us) (q : E (.ref D) none H) : (cxOf (CXr P w) P w K mg base N qual scope f cdv A outer s₀ H₀ E).xe (.ref e) { s with heap := h' } := by
  have neL : ∀ b o, s₀.heap.get? b = some o → b ≠ s₀.heap.objs.size := fun b o e => Nat.ne_of_lt (Heap.lt_size e)
  have nst : ∀ b o, s₀.heap.get? b = some o → b ∉ frs outer → b ∉ frs (cxOf (CXr P w) P w K mg base N qual scope f cdv A outer s₀ H₀ E).stack := fun b o eb nb hb => by
    rcases List.mem_cons.mp (I.stkSub b hb) with z | z
    · exact neL b o eb z
    · exact nb z
  have hin : ∀ env ∈ (cxOf (CXr P w) P w K mg base N qual scope f cdv A outer s₀ H₀ E).stack, ∀ a, env.frame = some a → a ∈ frs (cxOf (CXr P w) P w K mg base N qual scope f cdv A outer s₀ H₀ E).stack := fun env he a ha => List.mem_filterMap.mpr ⟨env, he, ha⟩
  refine wpAny_mono (Kd.any (kd_leaving _ _) (wpAny_leaves_madeW (Q := fun _ s2 => ∃ h'' t, s2 = { s with heap := h'' } ∧ Heap.FlyingW (hideAll s.heap (frs (cxOf (CXr P w) P w K mg base N qual scope f cdv A outer s₀ H₀ E).stack)) outer e (.ref D) (.ref t) h'' ∧ Heap.UpToSlots h' h'') (base := hideAll s.heap (frs (cxOf (CXr P w) P w K mg base N qual scope f cdv A outer s₀ H₀ E).stack)) (h := s.heap) I.ok.frames rfl (fun b o z => of_hideAll _ z) (funFrames_hide I.stack hin) hx fun h'' t fl tup tn ups => ⟨h'', t, rfl, fl, ups⟩)) (fun _ s2 z => ?_) fun _ _ z => z.1
  obtain ⟨⟨h'', t, rfl, fl, ups⟩, dk⟩ := z
  have dn : ∃ ob, h''.get? e = some ob ∧ ob.dict = none := by
    obtain ⟨t', e1, _⟩ := hx.there
    exact dk e _ e1
  refine ⟨e, D, _, H, _, rfl, I.os, I.bare, fl, ⟨fun b o eb nb hb => ⟨hideAll_get _ (I.base.keep b o eb nb hb (by intro z; cases z)) (nst b o eb hb), I.base.free b o eb nb (by intro z; cases z)⟩, fun b o eb nb hb => ?_, fun b o eb hb => ?_, I.base.tups, I.base.frzs, I.base.tbls⟩,
    fun b u eb => (I.hok b u eb).stay (fun c v hc z => hideAll_get _ z fun hm => ?_) (fun _ z => z) (fun _ _ z => z), none, dn, q⟩
  · obtain ⟨sl, e1⟩ := I.base.slot b o eb nb hb (by intro z; cases z)
    obtain ⟨_, o2, e2, hd⟩ := I.ok.funs.mem hb
    have e2 : s₀.heap.get? b = some o2 := e2
    rw [eb] at e2
    cases e2
    obtain ⟨sl2, e3⟩ := ups b _ (hx.keeps b _ e1) hd
    exact ⟨⟨sl2, e3⟩, I.base.free b o eb nb (by intro z; cases z)⟩
  · obtain ⟨o', e1⟩ := I.base.there b o eb (by intro z; cases z)
    exact ⟨o', hideAll_get _ e1 (nst b o eb hb)⟩
  · have nn := I.stkFree c hm
    rcases hc with rfl | hc
    · rw [nn] at eb; cases eb
    · rw [nn] at hc; cases hc
end
/-- THE RULE for a def that may raise -/
theorem okX {P : Program} {w : World} {K : Frag} {mg : Str → Option Value} {base : Heap} {x qual : Str} {st : Stmt} {f : Addr} {fd : FuncData} {N ps : List Str} {k : Nat} {sp : Sp} (F : Fun K x qual st f fd) (S : FnScope N ps (defScope st)) (len : ∀ vs H Q E, sp vs H Q E → vs.length = ps.length)
    (hbody : ∀ (cdv : Value) (A : Around) (outer : List Env) (s : Shared) (H : Hp) (vs : List V) (Q : VK) (E : XK), Room k (A.deeper (envOfC qual (defScope st) s.heap.objs.size f cdv)) → sp vs H Q E →
      ∃ t, PSs (cxOf (CXr P w) P w K mg base N qual (defScope st) f cdv A outer s H E) (defBody st) t ∧ t { nx := fun _ H' => Q .non H', rt := Q } (start N vs) H) : FnOk P w K mg base (CXr P w) (k + 1) f fd ps sp := by
  obtain ⟨oc, od, kV, doc, pm, an, cdv, ct, osl, rfl, lk, hcd⟩ := F.ex
  exact fn_of lk hcd S len fun A outer s H vs Q E hr hsp => hbody cdv A outer s H vs Q E hr hsp
/-! ### raise Own(..) -/
/-- an own exception's class, by the name that the module binds it to; above its own bases stands ValueError -/
abbrev OwnX (x : Str) (D : Addr) (mg : Str → Option Value) (base : Heap) : Prop := OwnCls x D [.type "ValueError", .type "Exception", .type "BaseException", .type "object"] "ValueError.__new__" mg base
/-- what a body owes an exception that it raises itself -/
def Raises (X : Cx) (E : XK) : Prop := ∀ (pins : List (Addr × Obj)) (σ : L2.St) (H : Hp) (s : Shared) (h' : Heap) (e D : Addr) (us : List Value), L2.Inv X pins σ H s → Heap.MadeExcOf s.heap h' e (.ref D) us → E (.ref D) none H → X.xe (.ref e) { s with heap := h' }
theorem raises_own {P : Program} {w : World} {K : Frag} {mg : Str → Option Value} {base : Heap} {N : List Str} {qual : Str} {scope : Scope} {f : Addr} {cdv : Value} {A : Around} {outer : List Env} {s₀ : Shared} {H₀ : Hp} {E : XK} :
    Raises (cxOf (CXr P w) P w K mg base N qual scope f cdv A outer s₀ H₀ E) E := fun _ _ _ _ _ _ _ _ I hx q => raise_leaves I hx q
def tRaise (D : Addr) (E : XK) (t : TA) : TS := fun _ σ H => t σ H fun vs H1 => vs.length ≤ sizeLine ∧ E (.ref D) none H1
theorem ps_raise {X : Cx} {E : XK} {D : Addr} {x : Str} {np cpos pos : Pos} {e : PySem.Expr} {es : List PySem.Expr} {t : TA} (hr : Raises X E) (O : OwnX x D X.mg X.base) (hc : X.calm = true) (hg : Gl X x) (ha : PA X (e :: es) t)
    (hdb : (x == ("__debug__" : Str)) = false := by decide) (hs : starEach (e :: es) X.env = (false, eval e X.env) :: starEach es X.env := by rfl) (hpl : (backTo cpos (starEach es X.env)).any (·.1) = false := by rfl) : PS X (.Raise (some (.Call (.Name x np) (e :: es) [] cpos)) none pos) (tRaise D E t) := by
  intro pins s σ H D' I h
  obtain ⟨bm, _, _, _, _, _, _, _, _, _, _, _, _, _, _, _, _, at_, names, plain, above⟩ := O.obj
  have pl : (backTo cpos (starEach (e :: es) X.env)).any (·.1) = false := by rw [hs]; exact hpl
  have go := ha cpos pins s σ H _ I h
  rw [hs] at go
  refine' wpAny_Raise_call_subT PySem.F.excBase_ValueError (above.hasType PySem.F.excBase_ValueError.hasBase) (I.ok.hd hc) pl plain (ld_glob I hg O.bound ⟨rfl, ?go⟩ hdb)
  case go =>
    rw [hs]
    refine Calls.evalArgs_plain (thn go fun us s1 z => ?_)
    obtain ⟨vs, H1, I1, r1, hz, q1⟩ := z
    exact ⟨rfl, r1.length ▸ hz, I1.bk _ _ at_, names.keeps I1.bk, above.keeps I1.bk, fun h' ex mk => hr pins σ H1 s1 h' ex D us I1 mk q1⟩
end L3

/-! MY RULES, 15: an exception of a call lands where it is caught. -/
namespace L3
open PySem PySem.Spec PyProof.Rows L2 PySem.W PySem.Calls
section
variable {P : Program} {w : World} {K : Frag} {mg : Str → Option Value} {base : Heap} {N : List Str} {qual : Str} {scope : Scope} {f : Addr} {cdv : Value} {A : Around} {outer : List Env} {s₀ : Shared} {H₀ : Hp} {E : XK} {CX : CXT}
/-- over every heap that B stays in, and that is as it was up to slots, the abstract heap is held again -/
theorem held_again {pins : List (Addr × Obj)} {σ : L2.St} {H H' : Hp} {s s' : Shared} {B h5 : Heap} (I : L2.Inv (cxOf CX P w K mg base N qual scope f cdv A outer s₀ H₀ E) pins σ H s) (os : s'.os = s.os) (bare : AllBare s'.gens) (kp : Kp (frs (cxOf CX P w K mg base N qual scope f cdv A outer s₀ H₀ E).stack) H H' s.heap s'.heap B) (hok : HOk P w H' B) (st : B.StaysIn h5) (sm : s'.heap.UpToSlots h5) {tk : Nat} :
    L2.Inv (cxOf CX P w K mg base N qual scope f cdv A outer s₀ H₀ E) pins σ H' { s' with heap := h5, toks := tk } := by
  have dat : ∀ b ∈ frs (cxOf CX P w K mg base N qual scope f cdv A outer s₀ H₀ E).stack, ∀ o, s.heap.get? b = some o → ∀ vs, o.data ≠ .fields vs := fun b hb o eb => by
    obtain ⟨_, o2, e2, hd⟩ := I.stack.mem hb
    rw [eb] at e2
    cases e2
    exact hd
  have slots : ∀ b o, s.heap.get? b = some o → H b = none → b ∈ frs (cxOf CX P w K mg base N qual scope f cdv A outer s₀ H₀ E).stack → ∃ sl, h5.get? b = some { o with slots := sl } := fun b o eb nb hb => by
    obtain ⟨⟨sl, e1⟩, _⟩ := kp.slot b o eb nb hb
    obtain ⟨sl2, e2⟩ := sm b _ e1 (dat b hb o eb)
    exact ⟨sl2, e2⟩
  refine I.call' (s' := { s' with heap := h5, toks := tk }) (ch := []) os ⟨fun b o eb nb hb _ => st _ _ (kp.keep b o eb nb hb).1, fun b o eb nb hb _ => slots b o eb nb hb, fun b o eb nb _ => ?_, fun b o eb _ => ?_, kp.tups, kp.frzs, kp.tbls⟩ (hok.kept st) bare fun b hb => nomatch hb
  · by_cases hb : b ∈ frs (cxOf CX P w K mg base N qual scope f cdv A outer s₀ H₀ E).stack
    · exact (kp.slot b o eb nb hb).2
    · exact (kp.keep b o eb nb hb).2
  · by_cases hb : b ∈ frs (cxOf CX P w K mg base N qual scope f cdv A outer s₀ H₀ E).stack
    · obtain ⟨sl, e1⟩ := slots b o eb (I.stkFree b hb) hb
      exact ⟨_, e1⟩
    · obtain ⟨o', e1⟩ := kp.there b o eb hb
      exact ⟨o', st _ _ e1⟩
/-- an exception of a call lands: from then on held_again serves -/
theorem land {pins : List (Addr × Obj)} {σ : L2.St} {H : Hp} {s s' : Shared} {ev : Value} {E' : XK} {Q : Unit → Shared → Prop} {EE : Value → Shared → Prop} (I : L2.Inv (cxOf CX P w K mg base N qual scope f cdv A outer s₀ H₀ E) pins σ H s) (hcx : CXr P w (cxOf CX P w K mg base N qual scope f cdv A outer s₀ H₀ E).stack H s E' ev s')
    (k : ∀ (e D : Addr) (a0 : Value) (H' : Hp) (B h' : Heap) (d : Option Addr), ev = .ref e → (∀ (h5 : Heap) (tk : Nat), B.StaysIn h5 → h'.UpToSlots h5 → L2.Inv (cxOf CX P w K mg base N qual scope f cdv A outer s₀ H₀ E) pins σ H' { s' with heap := h5, toks := tk }) → Heap.FlyingW B (cxOf CX P w K mg base N qual scope f cdv A outer s₀ H₀ E).stack e (.ref D) a0 h' → HOk P w H' B → s.heap.get? e = none → (∃ ob, h'.get? e = some ob ∧ ob.dict = d) → E' (.ref D) d H' → Q () { s' with heap := h' }) :
    wpAny (model P w) (cxOf CX P w K mg base N qual scope f cdv A outer s₀ H₀ E).A (noteFrame ev (cxOf CX P w K mg base N qual scope f cdv A outer s₀ H₀ E).env) (fun _ s2 => wpAny (model P w) (cxOf CX P w K mg base N qual scope f cdv A outer s₀ H₀ E).A (setFlight ev none) Q EE s2) EE s' := by
  obtain ⟨e, D, a0, H', B, rfl, os, bare, fl, kp, hok, d, ⟨ob, eb, db⟩, q⟩ := hcx
  have fresh : s.heap.get? e = none := by
    cases z : s.heap.get? e with
    | none => rfl
    | some o =>
      by_cases hb : e ∈ frs (cxOf CX P w K mg base N qual scope f cdv A outer s₀ H₀ E).stack
      · obtain ⟨_, o2, e2, hd⟩ := fl.2.2.1.mem hb
        obtain ⟨oe, vs, e3, _, e4, _⟩ := fl.first
        rw [e2] at e3
        cases e3
        exact absurd e4 (hd vs)
      · obtain ⟨o', e1⟩ := kp.there e o z hb
        have n := fl.2.1
        rw [e1] at n
        cases n
  refine wpAny_mono (Kd.any (kd_note _ _) (wpAny_looks_onW (Q := fun _ s2 => ∃ h4, s2 = { s' with heap := h4 } ∧ Heap.HeldW B (cxOf CX P w K mg base N qual scope f cdv A outer s₀ H₀ E).stack e (.ref D) a0 _ h4 ∧ s'.heap.UpToSlots h4) I.ok.frames rfl fl fun h4 held sm4 => ⟨h4, rfl, held, sm4⟩)) (fun _ s2 z => ?_) fun _ _ z => z.1
  obtain ⟨⟨h4, rfl, held, sm4⟩, dk4⟩ := z
  refine wpAny_mono (Kd.any (kd_flight _ _) (wpAny_landsW (Q := fun _ s3 => ∃ h5, s3 = { s' with heap := h5 } ∧ Heap.FlyingW B (cxOf CX P w K mg base N qual scope f cdv A outer s₀ H₀ E).stack e (.ref D) a0 h5 ∧ h4.UpToSlots h5) held fun h5 fl5 sm5 => ⟨h5, rfl, fl5, sm5⟩)) (fun _ s3 z => ?_) fun _ _ z => z.1
  obtain ⟨⟨h5, rfl, fl5, sm5⟩, dk5⟩ := z
  obtain ⟨ob4, eb4, db4⟩ := dk4 e ob eb
  obtain ⟨ob5, eb5, db5⟩ := dk5 e ob4 eb4
  exact k e D a0 H' B h5 d rfl (fun h6 tk st sm6 => held_again I os bare kp hok st ((sm4.trans sm5).trans sm6)) fl5 hok fresh ⟨ob5, eb5, (db5.trans db4).trans db⟩ q
end
/-! ### within a handler -/
section
variable {X : Cx} {pins : List (Addr × Obj)} {σ : L2.St} {H : Hp} {s : Shared}
abbrev heldIn (X : Cx) (e : Value) (E : Value → Shared → Prop) : Cx := { X with A := X.A.mark (some e), calm := false, xe := E }
theorem held_ok {e : Value} {E : Value → Shared → Prop} (o : X.Ok) : (heldIn X e E).Ok := ⟨o.mod, o.kind, o.glob, o.blt, o.above, o.inj, o.has, o.cab, (fun z => nomatch z), o.frames, o.stk, o.exf, o.bs, o.bsz, o.noex, o.exfs, o.funs, o.frf⟩
theorem held_in {e : Value} {E : Value → Shared → Prop} (I : L2.Inv X pins σ H s) : L2.Inv (heldIn X e E) pins σ H s := ⟨held_ok I.ok, I.os, I.bare, I.base, I.loc, I.cell, I.free, I.freeC, I.pin, I.hok, I.len⟩
theorem held_out {e : Value} {E : Value → Shared → Prop} (o : X.Ok) (I : L2.Inv (heldIn X e E) pins σ H s) : L2.Inv X pins σ H s := ⟨o, I.os, I.bare, I.base, I.loc, I.cell, I.free, I.freeC, I.pin, I.hok, I.len⟩
/-- what class the exception that was caught has -/
theorem cls_of {M : Model} {h : Heap} {e : Addr} {c : Value} (x : ∃ ob, h.get? e = some ob ∧ ob.cls = c) : Looks M h (typeOf (.ref e)) c := by
  obtain ⟨ob, e1, rfl⟩ := x
  exact (Looks.ld e1).andThen .now
end
/-- behind a handler its name is gone: that slot is not known any more -/
theorem name_gone {X : Cx} {pins : List (Addr × Obj)} {σ : L2.St} {H : Hp} {s : Shared} {M : Model} {A : Around} {E : Value → Shared → Prop} {i : Nat} {x : Str} {pos : Pos} {Q : Unit → Shared → Prop} (I : L2.Inv X pins σ H s) (hN : X.N.Nodup) (hi : X.N[i]? = some x) (hk : X.env.scope.names.lookup x = some .local)
    (h : ∀ s', L2.Inv X pins (σ.set i none) H s' → Q () s') : wpAny M A (do bindName X.env x .none; unbindBehindTheSuite X.env x pos) Q E s := by
  obtain ⟨m, hn, hl⟩ := id I.loc
  refine wpAny_nameGoes_keeps hk hn (by rw [I.ok.kind]; rfl) fun h' v hn' sb => h _ ?_
  have same : ∀ b, b ≠ X.env.locals → h'.get? b = s.heap.get? b := fun b n => sb.2 b n
  have old : ∀ b o, X.s₀.heap.get? b = some o → h'.get? b = s.heap.get? b := fun b o e => same b (Nat.ne_of_lt (Nat.lt_of_lt_of_le (Heap.lt_size e) I.ok.above))
  refine ⟨I.ok, I.os, I.bare, ⟨?k, ?sl, I.base.free, ?th, I.base.tups, I.base.frzs, I.base.tbls⟩, ⟨_, hn', ?lc⟩, ?ce, I.free, I.freeC, ?pn, ?ho, by simpa using I.len⟩
  case k => exact fun b o e n f y => (old b o e).trans (I.base.keep b o e n f y)
  case sl => exact fun b o e n f y => (I.base.slot b o e n f y).elim fun z q => ⟨z, (old b o e).trans q⟩
  case th => exact fun b o e y => (I.base.there b o e y).elim fun z q => ⟨z, (old b o e).trans q⟩
  case pn => exact fun p hp => let ⟨e, n, ne, r⟩ := I.pin p hp; ⟨(same p.1 ne).trans e, n, ne, r⟩
  case ce => exact fun y c e => (I.cell y c e).elim fun z q => ⟨z, q.sameBut sb (I.cne y c e)⟩
  case ho =>
    refine fun b o e => (I.hok b o e).stay (fun c u hc q => (same c fun z => ?_).trans q) (fun _ q => q) fun _ _ q => q
    have fr := I.free
    rcases hc with rfl | hc
    · rw [z, fr] at e; cases e
    · rw [z, fr] at hc; cases hc
  case lc =>
    intro j y v' e1 e2 e3
    have ji : j ≠ i := fun z => by
      subst z
      have lt : j < σ.length := by rw [I.len]; exact (List.getElem?_eq_some_iff.mp hi).1
      rw [List.getElem?_set_self lt] at e2
      cases e2
    rw [List.getElem?_set_ne (Ne.symm ji)] at e2
    obtain ⟨u, r, q⟩ := hl j y v' e1 e2 e3
    refine ⟨u, r, q.imp (fun ⟨k1, k2⟩ => ⟨k1, ?_⟩) fun ⟨k1, c, k2, k3⟩ => ⟨k1, c, k2, k3.sameBut sb (I.cne y c k2)⟩⟩
    have yx : y ≠ x := fun z => ji (nodup_ix hN e1 (z ▸ hi))
    simp [yx, k2]
/-- what a handler's suite owes: behind it the name is gone -/
def endsAs (D : Ends) (i : Nat) : Ends := { nx := fun σ H => D.nx (σ.set i none) H, bk := fun σ H => D.bk (σ.set i none) H, ct := fun σ H => D.ct (σ.set i none) H, rt := D.rt }
/-- an exception, by its class and its dict -/
def XO (e D : Addr) (d : Option Addr) : HO := .ext fun h => ∃ ob, h.get? e = some ob ∧ ob.cls = .ref D ∧ ob.dict = d ∧ notCls ob = true
theorem xo_ok {P : Program} {w : World} {H : Hp} {B h : Heap} {l : List Env} {e D : Addr} {a0 : Value} {d : Option Addr} (fl : Heap.FlyingW B l e (.ref D) a0 h) (dk : ∃ ob, h.get? e = some ob ∧ ob.dict = d) : ObjOk P w H h e (XO e D d) := by
  obtain ⟨oe, vs, e1, e2, e3, _⟩ := fl.first
  obtain ⟨ob, e4, e5⟩ := dk
  rw [e1] at e4
  cases e4
  refine ⟨⟨oe, e1, e2, e5, ?_⟩, ⟨oe, e1⟩, fun h1 h2 ⟨o, q1, q2⟩ z => ⟨o, z o q1, q2⟩⟩
  unfold notCls
  rw [e3]
theorem catch_as {X : Cx} {pins : List (Addr × Obj)} {σ σ₁ : L2.St} {H H₁ : Hp} {s s₁ : Shared} {B h : Heap} {l : List Env} {e C D : Addr} {a0 : Value} {d : Option Addr} {cn n : Str} {np hpos : Pos} {b0 : Stmt} {suite : List Stmt} {rest : List ExceptHandler} {i : Nat} {ts : TS} {D' : Ends} {EE : Value → Shared → Prop}
    (ok : X.Ok) (again : ∀ (h5 : Heap) (tk : Nat), B.StaysIn h5 → h.UpToSlots h5 → L2.Inv X pins σ H { s with heap := h5, toks := tk }) (fl : Heap.FlyingW B l e (.ref D) a0 h) (I₁ : L2.Inv X pins σ₁ H₁ s₁) (new : s₁.heap.get? e = none) (free : H e = none) (dk : ∃ ob, h.get? e = some ob ∧ ob.dict = d) (hg : Gl X cn) (hm : X.mg cn = some (.ref C)) (hx : exmOne X.K (.ref D) (.ref C) = some true)
    (hN : X.N.Nodup) (hi : X.N[i]? = some n) (hk : X.env.scope.names.lookup n = some .local) (hs : PSs (heldIn X (.ref e) fun _ _ => False) (b0 :: suite) ts) (q : ts (endsAs D' i) (σ.set i (some (.ref e))) (upd H e (XO e D d))) (hdb : (cn == ("__debug__" : Str)) = false := by decide) :
    wpAny (model X.prog X.w) X.A (handleBy (.ref e) X.env (.ExceptHandler (some (.Name cn np)) (some n) (b0 :: suite) hpos :: rest)) (SP X pins D') EE { s with heap := h } := by
  have I0 := again h s.toks fl.1 (fun _ o z _ => ⟨o.slots, z⟩)
  refine wpAny_handleBy_cons (codeAny_handlers_test (ld_glob (held_in (e := .ref e) (E := fun _ _ => False) I0) hg hm ?_ hdb)) (fun z => nomatch z)
  refine exm_one I0.kIn (cls_of fl.there) hx _ _ _ _ (fun _ _ z => z) ?_
  refine codeAny_handlers_suite_as (wpAny_mono (Kd.any (kd_flight _ _) (lands_againW (Q := fun _ s2 => ∃ h6, s2 = { s with heap := h6 } ∧ Heap.FlyingW B l e (.ref D) a0 h6 ∧ h.UpToSlots h6) fl fun h6 fl6 sm6 => ⟨h6, rfl, fl6, sm6⟩)) (fun _ s2 z => ?_) fun _ _ z => z.1)
  obtain ⟨⟨h6, rfl, fl6, sm6⟩, dk6⟩ := z
  obtain ⟨ob, e1, e2⟩ := dk
  obtain ⟨ob6, e3, e4⟩ := dk6 e ob e1
  have I6 := Inv_track3 (q := XO e D d) I₁ (again h6 s.toks fl6.1 sm6) free new (xo_ok fl6 ⟨ob6, e3, e4.trans e2⟩)
  refine store_ok I6 hN hi (.inl hk) (v := .ref e) rfl (fun s2 I2 => ?_) (.inr hk)
  refine wpAny_mono (hs pins s2 _ _ _ (held_in I2) q) (fun f s3 z => ?_) fun _ _ z => z.elim
  cases f with
  | next => obtain ⟨σ2, H2, I3, q3⟩ := z; exact name_gone (held_out ok I3) hN hi hk fun s4 I4 => ⟨_, H2, I4, q3⟩
  | brk => obtain ⟨σ2, H2, I3, q3⟩ := z; exact name_gone (held_out ok I3) hN hi hk fun s4 I4 => ⟨_, H2, I4, q3⟩
  | cont => obtain ⟨σ2, H2, I3, q3⟩ := z; exact name_gone (held_out ok I3) hN hi hk fun s4 I4 => ⟨_, H2, I4, q3⟩
  | ret u => obtain ⟨v, σ2, H2, I3, r, q3⟩ := z; exact name_gone (held_out ok I3) hN hi hk fun s4 I4 => ⟨v, _, H2, I4, r, q3⟩
/-- what is tracked is there -/
theorem obj_there {P : Program} {w : World} {H : Hp} {h : Heap} {a : Addr} : ∀ {o : HO}, ObjOk P w H h a o → ∃ ob, h.get? a = some ob
  | .lst _, ⟨_, _, _, _, e⟩ => ⟨_, e⟩
  | .tup _, ⟨_, _, _, p⟩ => p.elim fun ob q => ⟨ob, q.1⟩
  | .dK _, ⟨_, _, _, _, ob, _, _, e, _⟩ => ⟨ob, e⟩
  | .dT _, ⟨_, _, _, _, ob, _, _, e, _⟩ => ⟨ob, e⟩
  | .set _ _, ⟨ob, _, _, _, e, _⟩ => ⟨ob, e⟩
  | .ins _ _ _, ⟨_, _, _, e, _⟩ => ⟨_, e⟩
  | .own _, x => x
  | .xd _, ⟨_, ⟨ob, _, _, e, _⟩, _⟩ => ⟨ob, e⟩
  | .met _ _, e => ⟨_, e⟩
  | .rng _ _, ⟨_, _, _, e⟩ => ⟨_, e⟩
  | .frz _ _, ⟨e, _⟩ => ⟨_, e⟩
  | .tbl _, e => ⟨_, e⟩
  | .ext _, ⟨_, e, _⟩ => e
/-- the exception stands apart from all that is tracked -/
theorem apart {P : Program} {w : World} {H : Hp} {B h : Heap} {l : List Env} {e : Addr} {c a0 : Value} (hok : HOk P w H B) (fl : Heap.FlyingW B l e c a0 h) : H e = none := by
  cases q : H e with
  | none => rfl
  | some o =>
    obtain ⟨ob, z⟩ := obj_there (hok e o q)
    have n := fl.2.1
    rw [z] at n
    cases n
/-! ### the law's own script, with what stands behind the top -/
end L3

/-! MY RULES, 16: try: y = f(..) / except C as n: suite. -/
namespace L3
open PySem PySem.Spec PyProof.Rows L2 PySem.W PySem.Calls
section
variable {P : Program} {w : World} {K : Frag} {mg : Str → Option Value} {base : Heap} {N : List Str} {qual : Str} {scope : Scope} {f : Addr} {cdv : Value} {A : Around} {outer : List Env} {s₀ : Shared} {H₀ : Hp} {E : XK} {CX : CXT}
def tTryCall (K : Frag) (C : Addr) (iy i : Nat) (sp : Sp) (t : TA) (ts : TS) : TS := fun D σ H => t σ H fun vs H1 => sp vs H1 (fun v H2 => D.nx (σ.set iy (some v)) H2) (fun c d H2 => ∀ e, H2 e = none → ∃ B, c = .ref B ∧ exmOne K (.ref B) (.ref C) = some true ∧ ts (endsAs D i) (σ.set i (some (.ref e))) (upd H2 e (XO e B d)))
theorem try_call {X : Cx} (eX : X = cxOf CX P w K mg base N qual scope f cdv A outer s₀ H₀ E) {C : Addr} {iy i k : Nat} {fn cn n y : Str} {ps : List Str} {sp : Sp} {t : TA} {ts : TS} {p py np cpos apos hpos pos : Pos} {e1 : PySem.Expr} {es : List PySem.Expr} {b0 : Stmt} {suite : List Stmt} {rest : List ExceptHandler} {EE : Value → Shared → Prop}
    (c : Cal P w K mg base (CXr P w) k fn ps sp) (hr : Room k X.A) (hgf : Gl X fn) (ha : PA X.nox (e1 :: es) t) (hN : X.N.Nodup) (hiy : X.N[iy]? = some y) (hy : X.env.scope.names.lookup y = some .local) (hgc : Gl X cn) (hm : mg cn = some (.ref C)) (hi : X.N[i]? = some n) (hk : X.env.scope.names.lookup n = some .local)
    (hs : ∀ e, PSs (heldIn X e fun _ _ => False) (b0 :: suite) ts) (hsw : swapsWith (.Call (.Name fn p) (e1 :: es) [] cpos) (some (.Name y py)) apos.line X.env = pure false := by rfl) (hd1 : (fn == ("__debug__" : Str)) = false := by decide) (hd2 : (cn == ("__debug__" : Str)) = false := by decide)
    (he : starEach (e1 :: es) X.env = (false, eval e1 X.env) :: starEach es X.env := by rfl) (hpl : (backTo cpos (starEach es X.env)).any (·.1) = false := by rfl) {pins : List (Addr × Obj)} {s : Shared} {σ : L2.St} {H : Hp} {D : Ends} (I : L2.Inv X pins σ H s) (h : tTryCall K C iy i sp t ts D σ H) :
    wpAny (model X.prog X.w) X.A (exec (.Try [.Assign [.Name y py] (.Call (.Name fn p) (e1 :: es) [] cpos) apos] (.ExceptHandler (some (.Name cn np)) (some n) (b0 :: suite) hpos :: rest) [] [] pos) X.env) (SP X pins D) EE s := by
  subst eX
  obtain ⟨g, fd, hmg, hkp, hb, F⟩ := c.ex
  refine wpAny_Try_except (wpAny_execs_cons ?_)
  refine wpAny_Assign_Name (wpAny_Call_Name_kw (ld_glob I hgf hmg ?_ hd1)) hsw
  refine PySem.W.callWith_K (h₀ := base) I.ok.mod.kin hkp (wpAny_mono (ha cpos pins s σ H _ (I.wish _) h) (fun us s1 z => ?_) fun _ _ z => z.elim) he hpl
  obtain ⟨vs, H1, I1, r1, q1⟩ := z
  have I1 := I1.unwish
  refine ⟨I1.kIn, ?_⟩
  have hl : us.length = ps.length := by rw [← r1.length]; exact F.len _ _ _ _ q1
  have bd := hb s1 us I1.kIn (by rw [List.append_nil]; exact hl)
  rw [List.append_nil] at bd
  refine wpAny_call (codeAny_mono (F.run _ _ s1 H1 ⟨us, []⟩ us vs _ _ hr I1.env0 bd r1 q1) fun r s2 z => ?_)
  cases r with
  | ok fl =>
    cases fl with
    | ret u =>
      obtain ⟨v, H2, I2, r2, q2⟩ := I1.after z
      exact store_ok I2 hN hiy (.inl hy) r2 (fun s3 I3 => wpAny_execs_nil (wpAny_execs_nil ⟨_, H2, I3, q2⟩)) (.inr hy)
    | next => exact False.elim z
    | brk => exact False.elim z
    | cont => exact False.elim z
  | error ev =>
    dsimp only [CR] at z
    refine land (P := P) (w := w) I1 z fun e D2 a0 H2 B h2 d ee again fl hok new dk q2 => ?_
    subst ee
    obtain ⟨B2, eb, mt, q3⟩ := q2 e (apart hok fl)
    cases eb
    exact catch_as I.ok again fl I1 new (apart hok fl) dk hgc hm mt hN hi hk (hs _) q3 hd2
/-- the same in a def that raises nothing itself -/
theorem ps_tryCallN {X : Cx} (eX : X = (cxOf CX P w K mg base N qual scope f cdv A outer s₀ H₀ E).nox) {C : Addr} {iy i k : Nat} {fn cn n y : Str} {ps : List Str} {sp : Sp} {t : TA} {ts : TS} {p py np cpos apos hpos pos : Pos} {e1 : PySem.Expr} {es : List PySem.Expr} {b0 : Stmt} {suite : List Stmt} {rest : List ExceptHandler}
    (c : Cal P w K mg base (CXr P w) k fn ps sp) (hr : Room k X.A) (hgf : Gl X fn) (ha : PA X.nox (e1 :: es) t) (hN : X.N.Nodup) (hiy : X.N[iy]? = some y) (hy : X.env.scope.names.lookup y = some .local) (hgc : Gl X cn) (hm : mg cn = some (.ref C)) (hi : X.N[i]? = some n) (hk : X.env.scope.names.lookup n = some .local)
    (hs : ∀ e, PSs (heldIn X e fun _ _ => False) (b0 :: suite) ts) (hsw : swapsWith (.Call (.Name fn p) (e1 :: es) [] cpos) (some (.Name y py)) apos.line X.env = pure false := by rfl) (hd1 : (fn == ("__debug__" : Str)) = false := by decide) (hd2 : (cn == ("__debug__" : Str)) = false := by decide)
    (he : starEach (e1 :: es) X.env = (false, eval e1 X.env) :: starEach es X.env := by rfl) (hpl : (backTo cpos (starEach es X.env)).any (·.1) = false := by rfl) :
    PS X (.Try [.Assign [.Name y py] (.Call (.Name fn p) (e1 :: es) [] cpos) apos] (.ExceptHandler (some (.Name cn np)) (some n) (b0 :: suite) hpos :: rest) [] [] pos) (tTryCall K C iy i sp t ts) := by
  subst eX
  intro pins s σ H D I h
  refine wpAny_mono (try_call rfl c hr hgf ha hN hiy hy hgc hm hi hk hs hsw hd1 hd2 he hpl (EE := fun _ _ => False) I.unwish h) (fun fl s2 z => ?_) fun _ _ z => z.elim
  cases fl with
  | next => obtain ⟨σ2, H2, I3, q3⟩ := z; exact ⟨σ2, H2, I3.wish _, q3⟩
  | brk => obtain ⟨σ2, H2, I3, q3⟩ := z; exact ⟨σ2, H2, I3.wish _, q3⟩
  | cont => obtain ⟨σ2, H2, I3, q3⟩ := z; exact ⟨σ2, H2, I3.wish _, q3⟩
  | ret u => obtain ⟨v, σ2, H2, I3, r, q3⟩ := z; exact ⟨v, σ2, H2, I3.wish _, r, q3⟩
end
end L3

/-! MY RULES, 17: isinstance of an exception that was caught; partition, index. -/
namespace L3
open PySem PySem.Spec PyProof.Rows L2 PySem.W PySem.Calls
/-- an own exception's class, as the top has made it -/
structure ExcCls (K : Frag) (D : Addr) : Prop where
  ck : (kitCls K (.ref D) (.ref D)).isSome = true
  ga : findIn K (.ref D) "__getattribute__" = some (some (.builtin "BaseException.__getattribute__"))
  gt : findIn K (.ref D) "__getattr__" = some none
  cs : findIn K (.ref D) "__class__" = some (some (.builtin "object.__class__"))
  gg : specialIn K (.builtin "object.__class__") "__get__" = some (some (.builtin "getset_descriptor.__get__"))
  tk : takesIn K (.builtin "object.__class__") = some true
  mo : mroIn K D (.type "object") = some true
  mb : subIn K (.ref D) (.type "BaseException") = some true
theorem ExcCls.cl {K : Frag} {D : Addr} (Z : ExcCls K D) : ∃ c d cd sl, K.lookup D = some ⟨c, d, .cls cd, sl⟩ := by
  have z := Z.ck
  simp only [kitCls] at z
  split at z
  · rename_i q
    have q := (Bool.and_eq_true_iff.mp q).1
    unfold clsIn at q
    split at q
    · rename_i h
      exact ⟨_, _, _, _, h⟩
    · cases q
  · cases z
theorem ExcCls.find {K : Frag} {D : Addr} (Z : ExcCls K D) (od : Option Obj) : findObj K D od "__class__" = some (.bind (.builtin "getset_descriptor.__get__") (.builtin "object.__class__")) := by
  obtain ⟨c, d, cd, sl, h⟩ := Z.cl
  have hc : clsIn K D = some cd := by unfold clsIn; rw [h]
  simp [findObj, hc, Z.cs, Z.gg, Z.tk]
section
variable {prog : Program} {w : World} {A : Around} {E : Value → Shared → Prop} {s : Shared} {K : Frag} {x D : Addr} {ox : Obj} {od : Option Obj}
theorem exc_entry {tk : Tok} {Q : Fin → Shared → Prop} (Z : ExcCls K D) (X : K.In s.heap) (I : InstAt s.heap x ox D od) (hq : Q (.done (.ret (.ref D))) s) : wpAny (model prog w) A (Builtin.«object.__getattribute__» ⟨[.ref x, .str "__class__" tk], []⟩) Q E s := by
  obtain ⟨h, g, d, t, os⟩ := s
  -- the two plain looks, the type, what is found: a descriptor with a getter, which is called
  refine wpAny_bind (wpAny_pure ?_)
  refine wpAny_bind (wpAny_pure ?_)
  refine wpAny_bind (I.type.at ?_)
  refine wpAny_bind ((looks_find X I (Z.find od)).at ?_)
  exact wpAny_bind (wpAny_holding (wpAny_call (class_get X I Z.mo (wpAny_pure hq))))
theorem bga_kind : builtinKind "BaseException.__getattribute__" = some .slot := by decide +kernel
theorem bga_parts : splitId "BaseException.__getattribute__" = some ("BaseException", "__getattribute__") := by decide +kernel
theorem exc_check {M : Model} {nm : Value} {Q : Unit → Shared → Prop} (Z : ExcCls K D) (X : K.In s.heap) (I : InstAt s.heap x ox D od) (hq : Q () s) : wpAny M A (checkBuiltinCall "BaseException.__getattribute__" ⟨[.ref x, nm], []⟩) Q E s := by
  have l0 : Looks M s.heap (typeOf (.ref x)) (.ref D) := I.type
  have l1 : Looks M s.heap (isSubtype (.ref D) (.type "BaseException")) true := looks_subIn X Z.mb
  have l2 : Looks M s.heap (isInstance (.ref x) (.type "BaseException")) true := l0.andThen l1
  exact @check_slot M A E s "BaseException.__getattribute__" "BaseException" "__getattribute__" (.ref x) [nm] [] Q bga_kind bga_parts l2 (PySem.F.args_bexc_ga _ _) hq
/-- BaseException's own asking, from within -/
theorem exc_own {tk : Tok} {fill : Bool} {Q : Value → Shared → Prop} (Z : ExcCls K D) (X : K.In s.heap) (I : InstAt s.heap x ox D od) (hq : Q (.ref D) s) : wpAny (model prog w) A (getAttrByItsOwn (.ref x) (.str "__class__" tk) (.ref D) (.builtin "BaseException.__getattribute__") fill false) Q E s := by
  obtain ⟨h, g, d, t, os⟩ := s
  have hook : Looks (model prog w) h (hookBefore (.ref D)) none := looks_findIn X Z.gt
  refine wpAny_bind (hook.at (wpAny_bind (wpAny_attempt (wpAny_holding ?_))))
  have called : wpAny (model prog w) A (call (.builtin "BaseException.__getattribute__") [.ref x, .str "__class__" tk]) (fun v s' => wpAny (model prog w) A (handedOut v) Q E s') (fun _ _ => False) ⟨h, g, d, t, os⟩ :=
    wpAny_call (codeAny_call_builtin PySem.F.attr_ValueError.ga.plain PySem.F.entry_bexc_ga (exc_check (s := ⟨h, g, d, t, os⟩) Z X I (exc_entry (s := ⟨h, g, d, t, os⟩) Z X I (handed_on rfl hq))))
  exact wpAny_bind (wpAny_of_eq (PySem.F.attr_ValueError.ga.bind (.ref x)) (wpAny_mono called (fun _ _ z => z) fun _ _ z => z.elim))
theorem exc_class {Q : Option Value → Shared → Prop} (Z : ExcCls K D) (X : K.In s.heap) (I : InstAt s.heap x ox D od) (hq : Q (some (.ref D)) { s with toks := s.toks + 1 }) : wpAny (model prog w) A (getAttr? (.ref x) "__class__") Q E s := by
  obtain ⟨h, g, d, t, os⟩ := s
  have its : Looks (model prog w) h (typeLookup (.ref D) "__getattribute__") (some (.builtin "BaseException.__getattribute__")) := looks_findIn X Z.ga
  have by_ : wpAny (model prog w) A (getAttrBy (.ref x) (.str "__class__" t) false) (fun v s' => v = .ref D ∧ s' = ⟨h, g, d, t + 1, os⟩) (fun _ _ => False) ⟨h, g, d, t + 1, os⟩ :=
    wpAny_holding (wpAny_bind (I.type.at (wpAny_bind (its.at (exc_own (s := ⟨h, g, d, t + 1, os⟩) Z X I ⟨rfl, rfl⟩)))))
  refine wpAny_bind (wpAny_mkText (wpAny_bind (wpAny_attempt (wpAny_mono by_ (fun v s' z => ?_) fun _ _ z => z.elim))))
  obtain ⟨rfl, rfl⟩ := z
  exact wpAny_pure hq
/-- an exception, asked for its class -/
theorem kitx_exc (Z : ExcCls K D) : KitX K (.ref x) (.ref D) (fun h => ∃ ox od, InstAt h x ox D od) where
  ty := fun _ _ _ ⟨_, _, I⟩ => I.type
  it := fun _ _ X _ => by
    obtain ⟨v, e⟩ := Option.isSome_iff_exists.mp Z.ck
    exact (kit_cls X e).2.1
  ne := fun _ _ _ _ _ _ X tup => by
    obtain ⟨c, d, cd, sl, e⟩ := Z.cl
    refine beq_eq_false_iff_ne.mpr fun same => ?_
    cases same
    cases (X _ _ e).symm.trans tup
  ca := fun X ⟨_, _, I⟩ k => exc_class Z X I k
end
section
variable {X : Cx} {pins : List (Addr × Obj)} {σ : L2.St} {H : Hp} {s : Shared}
theorem xo_inst {e D : Addr} (I : L2.Inv X pins σ H s) (h : H e = some (XO e D none)) : ∃ ox od, InstAt s.heap e ox D od := by
  obtain ⟨⟨ob, e1, e2, e3, e4⟩, _⟩ := I.hok e _ h
  exact ⟨ob, none, ⟨e1, e2, e4, by rw [e3]; trivial⟩⟩
theorem call_isinst_x : CallR X (.builtin "isinstance") (fun xs H Q => ∃ e D y c b, xs = [.ref e, y] ∧ H e = some (XO e D none) ∧ ExcCls X.K D ∧ tyOne y = some c ∧ kitOne X.K (.ref D) c = some b ∧ Q (.bl b) H) := by
  intro pins s σ H xs us Q I r h
  obtain ⟨e, D, y, c, b, rfl, he, Z, hy, hb, q⟩ := h
  obtain ⟨u, u2, rfl, rx, ry⟩ := vals2 r
  cases rx
  have ec : u2 = c := by
    cases y with
    | ty n => cases hy; exact ry
    | ref a => cases hy; exact ry
    | _ => cases hy
  subst ec
  exact kia_one (kitx_exc Z) I.kIn (xo_inst I he) hb (fun z => nomatch z) fun tk => ⟨.bl b, H, I.tok _, rfl, q⟩
/-- classes, as values -/
def tyAll : List V → Option (List Value)
  | [] => some []
  | y :: ys => (tyOne y).bind fun c => (tyAll ys).map (c :: ·)
theorem tyAll_vals : ∀ {ys : List V} {us cs : List Value}, Vals ys us → tyAll ys = some cs → us = cs
  | [], _, _, .nil, h => by cases h; rfl
  | y :: ys, _, cs, .cons r1 r2, h => by
    obtain ⟨c, e1, h⟩ := Option.bind_eq_some_iff.mp h
    obtain ⟨cs', e2, rfl⟩ := Option.map_eq_some_iff.mp h
    rw [tyAll_vals r2 e2]
    congr 1
    cases y with
    | ty n => cases e1; exact r1
    | ref a => cases e1; exact r1
    | _ => cases e1
theorem call_isinst_xs : CallR X (.builtin "isinstance") (fun xs H Q => ∃ e D p ys cs b, xs = [.ref e, .ref p] ∧ H e = some (XO e D none) ∧ ExcCls X.K D ∧ H p = some (.tup ys) ∧ tyAll ys = some cs ∧ kitAny X.K (.ref D) cs = some b ∧ Q (.bl b) H) := by
  intro pins s σ H xs us Q I r h
  obtain ⟨e, D, p, ys, cs, b, rfl, he, Z, hp, hy, hb, q⟩ := h
  obtain ⟨u, u2, rfl, rx, ry⟩ := vals2 r
  cases rx
  cases ry
  obtain ⟨_, its, rv, ht⟩ := I.hok p _ hp
  have ei := tyAll_vals rv hy
  subst ei
  obtain ⟨⟨c, dd, da, sl⟩, e1, e2, n, e3⟩ := ht
  cases e2
  cases e3
  exact kia_tup (kitx_exc Z) I.kIn (xo_inst I he) e1 hb (fun z => nomatch z) fun tk => ⟨.bl b, H, I.tok _, rfl, q⟩
/-! ### partition, index -/
theorem mt_s_partition : MtR X "str.partition" (fun x vs H Q => ∃ z c, x = .str z ∧ vs = [.str ⟨#[c]⟩] ∧ z.length ≤ sizeLine ∧ ∀ p, H p = none → Q (.ref p) (upd H p (.tup [.str (Txt.partition z ⟨#[c]⟩).1, .str (Txt.partition z ⟨#[c]⟩).2.1, .str (Txt.partition z ⟨#[c]⟩).2.2]))) := by
  intro pins s σ H x xs v us Q I rx r h
  obtain ⟨z, c, rfl, rfl, hz, q⟩ := h
  obtain ⟨t, rfl⟩ := rx
  obtain ⟨u, rfl, t2, rfl⟩ := vals1 r
  have q := q _ I.fresh
  refine call_meets PySem.F.slot_str_partition (typeIs_str _ _ _) PySem.F.entry_str_partition (PySem.F.args_str_partition_2 _ _) (meets_str_partition z ⟨#[c]⟩ t t2 (by rfl) hz) ?_
  have three : 3 ≤ sizeLine := by rw [sizeLine_eq]; decide
  have new : ∀ (a b d : Str) (ta tb td : Tok) (k : Nat), L2.Inv X pins σ (upd H s.heap.objs.size (.tup [.str a, .str b, .str d])) { s with heap := s.heap.push { cls := .type "tuple", data := .seq [.str a ta, .str b tb, .str d td].toArray }, toks := k } := fun a b d ta tb td k =>
    I.laid (fun _ _ z => Heap.get?_push_of_some _ z) (Nat.le_refl _) ⟨three, [.str a ta, .str b tb, .str d td], .cons ⟨ta, rfl⟩ (.cons ⟨tb, rfl⟩ (.cons ⟨td, rfl⟩ .nil)), _, Heap.get?_push_size _ rfl, rfl, _, rfl⟩
  unfold Txt.partition at q
  revert q
  cases Builtin.Str.occurrences z ⟨#[c]⟩ 0 z.length 1 with
  | nil => exact fun q => ⟨.ref _, _, new _ _ _ _ _ _ _, rfl, q⟩
  | cons i r => exact fun q => ⟨.ref _, _, new _ _ _ _ _ _ _, rfl, q⟩
theorem mt_s_index : MtR X "str.index" (fun x vs H Q => ∃ z y i rest, x = .str z ∧ vs = [.str y] ∧ Builtin.Str.occurrences z y 0 z.length 1 = i :: rest ∧ Q (.int ((i : Nat) : Int)) H) := by
  intro pins s σ H x xs v us Q I rx r h
  obtain ⟨z, y, i, rest, rfl, rfl, ho, q⟩ := h
  obtain ⟨t, rfl⟩ := rx
  obtain ⟨u, rfl, t2, rfl⟩ := vals1 r
  exact call_gives PySem.F.slot_str_index (typeIs_str _ _ _) PySem.F.entry_str_index (PySem.F.args_str_index_2 _ _) (gives_str_index z y t t2 i rest ho) ⟨.int _, H, I.tok _, ⟨_, rfl⟩, q⟩
end
section
variable {X : Cx}
/-- written texts -/
def strsOf : List PySem.Expr → Option (List Str)
  | [] => some []
  | .Constant (.str x) _ _ :: r => (strsOf r).map (x :: ·)
  | _ => none
theorem pa_strs : ∀ {es : List PySem.Expr} {xs : List Str}, strsOf es = some xs → PA X es (fun _ H Q => Q (xs.map V.str) H)
  | [], xs, h => by
    cases h
    exact pa_nil
  | .Constant (.str x) k pos :: r, xs, h => by
    obtain ⟨ys, e, rfl⟩ := Option.map_eq_some_iff.mp h
    exact pa_cons pe_str (pa_strs e) (by rfl)
theorem pe_strs (xs : List Str) {es : List PySem.Expr} {pos : Pos} (h : strsOf es = some xs) : PE X (.List es pos) (tLst fun _ H Q => Q (xs.map V.str) H) := pe_lst (pa_strs h)
end
theorem sw_list {es : List PySem.Expr} {p : Pos} {t : Option PySem.Expr} {n : Nat} {env : Env} : swapsWith (.List es p) t n env = pure false := rfl
theorem sw_bin {a b : PySem.Expr} {o : Operator} {p : Pos} {t : Option PySem.Expr} {n : Nat} {env : Env} : swapsWith (.BinOp a o b p) t n env = pure false := rfl
/-- a namespace's keys are texts -/
def strKeys (es : Array DictEntry) : Bool := es.toList.all fun e => match e.key with
  | .str _ _ => true
  | _ => false
theorem nsOk_of {K : Frag} {N : Addr} {c : Value} {d : Option Addr} {es : Array DictEntry} {ep : Nat} {sl : Array (Option Value)} (h : K.lookup N = some ⟨c, d, .dict es ep, sl⟩) (e : strKeys es = true) : nsOkIn K N = true := by
  unfold nsOkIn
  rw [h]
  show es.all _ = true
  rw [← Array.all_toList]
  exact e
theorem bt_ValueError : bootBuiltins "ValueError" = some (.type "ValueError") := by decide +kernel
end L3
namespace M1
open PySem.Builtin PySem.Builtin.Str PySem
/-- partition by one sign -/
theorem part_one (z : Str) (c : Nat) : (c ∉ cs z ∧ Txt.partition z ⟨#[c]⟩ = (z, Str.empty, Str.empty)) ∨ ∃ a r, cs z = cs a ++ c :: cs r ∧ c ∉ cs a ∧ Txt.partition z ⟨#[c]⟩ = (a, ⟨#[c]⟩, r) := by
  rcases StrLaws.occ_head z ⟨#[c]⟩ 1 (Nat.le_refl _) with ⟨e, n⟩ | ⟨i, r, e, hi, n⟩
  · refine .inl ⟨fun h => ?_, by unfold Txt.partition; rw [e]⟩
    obtain ⟨k, hk⟩ := List.getElem?_of_mem h
    exact n k ((StrLaws.subAt_one z c k).mpr hk)
  · have ep : Txt.partition z ⟨#[c]⟩ = (strSub z 0 i, ⟨#[c]⟩, strSub z (i + (⟨#[c]⟩ : Str).length) z.length) := by unfold Txt.partition; rw [e]
    have sum := StrLaws.partition_sum z ⟨#[c]⟩
    rw [ep] at sum
    refine .inr ⟨_, _, ?_, StrLaws.part_free z c 0 i (by have := hi.1; omega) fun k _ => n k, ep⟩
    have := congrArg cs sum
    rw [cs_app, cs_app, cs_one, List.append_assoc] at this
    exact this.symm
/-- what stands behind the first sign splits on -/
theorem split_step {x a r : Str} {c : Nat} (e : cs x = cs a ++ c :: cs r) (n : c ∉ cs a) : Txt.split x ⟨#[c]⟩ = a :: Txt.split r ⟨#[c]⟩ := by
  refine split_eq x c _ (by simp) (fun p hp => ?_) ?_
  · cases List.mem_cons.mp hp with
    | inl e => rw [e]; exact n
    | inr m => exact StrLaws.split_free r c p m
  · rw [e, List.map_cons]
    have j : J c ((Txt.split r ⟨#[c]⟩).map cs) = cs r := by rw [← cs_join, StrLaws.join_split]
    cases q : Txt.split r ⟨#[c]⟩ with
    | nil => exact absurd q (split_ne r c)
    | cons b l => rw [q] at j; show _ = cs a ++ c :: J c (_ :: _); rw [← j]; rfl
theorem split_none {x : Str} {c : Nat} (n : c ∉ cs x) : Txt.split x ⟨#[c]⟩ = [x] := split_eq x c [x] (by simp) (fun p hp => by rw [List.mem_singleton.mp hp]; exact n) rfl
theorem J_le (c : Nat) : ∀ (ps : List (List Nat)) (p : List Nat), p ∈ ps → p.length ≤ (J c ps).length
  | [q], p, h => by
    rw [List.mem_singleton.mp h]
    exact Nat.le_refl _
  | q :: r :: l, p, h => by
    show _ ≤ (q ++ c :: J c (r :: l)).length
    rw [List.length_append, List.length_cons]
    cases List.mem_cons.mp h with
    | inl e => rw [e]; omega
    | inr m =>
      have := J_le c (r :: l) p m
      omega
/-- a part is no longer than the whole -/
theorem part_le {x z : Str} {c : Nat} (h : z ∈ Txt.split x ⟨#[c]⟩) : z.length ≤ x.length := by
  have e : cs x = J c ((Txt.split x ⟨#[c]⟩).map cs) := by rw [← cs_join, StrLaws.join_split]
  rw [len_cs, len_cs, e]
  exact J_le c _ _ (List.mem_map_of_mem h)
end M1

namespace K03
open PySem PySem.Spec PyProof.Rows L2 L3 M1 M2
set_option maxHeartbeats 5000000
def top (i : Nat) : Stmt := PySem.Challenge.pw_disposehall_k03_no_day_no_length.main.body.getD i (.Pass ⟨0, 0, 0, 0⟩)
abbrev s_is_made_of : Stmt := top 19
abbrev s_is_number : Stmt := top 20
abbrev s_is_two_figures : Stmt := top 21
abbrev s_is_day : Stmt := top 22
abbrev s_day_read : Stmt := top 23
abbrev s_days_of_letter : Stmt := top 24
abbrev s_length_read : Stmt := top 25
abbrev s_law_whole : Stmt := top 27
abbrev s_law_sign_by : Stmt := top 28
abbrev s_law_bent : Stmt := top 29
abbrev s_law_figures : Stmt := top 30
abbrev s_law_number : Stmt := top 31
abbrev s_law_day_due : Stmt := top 32
abbrev s_law_length_due : Stmt := top 33
abbrev s_law_refused : Stmt := top 34
abbrev s_law_day_so : Stmt := top 35
abbrev s_law_length_so : Stmt := top 36
abbrev s_law_odd : Stmt := top 37
abbrev s_law_holds : Stmt := top 38
abbrev s_law : Stmt := top 39
def c_FIGURES : Str := "0123456789"
structure Txt (K : PySem.W.Frag) (mg : Str → Option Value) (t_YEAR_DAYS : Tok) (t_MONTH_DAYS : Tok) (t_YEAR_MONTHS : Tok) (t_MOST_FIGURES : Tok) (t_FIGURES : Tok) (C_HallError : Addr) (C_NoDay : Addr) (C_NoLength : Addr) (C_HeldTwice : Addr) (C_NoBook : Addr) (C_NoRow : Addr) (C_NoSeries : Addr) (C_NoTerm : Addr) (C_PutTwice : Addr) (C_RunBack : Addr) (C_TooWide : Addr) (C_Unlike : Addr) : Prop where
  g_YEAR_DAYS : mg "YEAR_DAYS" = some (.int 360 t_YEAR_DAYS)
  g_MONTH_DAYS : mg "MONTH_DAYS" = some (.int 30 t_MONTH_DAYS)
  g_YEAR_MONTHS : mg "YEAR_MONTHS" = some (.int 12 t_YEAR_MONTHS)
  g_MOST_FIGURES : mg "MOST_FIGURES" = some (.int 40 t_MOST_FIGURES)
  g_FIGURES : mg "FIGURES" = some (.str c_FIGURES t_FIGURES)
  z_ValueError : mg "ValueError" = none
  z_all : mg "all" = none
  z_bool : mg "bool" = none
  z_int : mg "int" = none
  z_isinstance : mg "isinstance" = none
  z_len : mg "len" = none
  z_range : mg "range" = none
  z_str : mg "str" = none
  kib : PySem.W.kitOne K (.type "int") (.type "bool") = some false
  kii : PySem.W.kitOne K (.type "int") (.type "int") = some true
  mg_HallError : mg "HallError" = some (.ref C_HallError)
  mg_NoDay : mg "NoDay" = some (.ref C_NoDay)
  mg_NoLength : mg "NoLength" = some (.ref C_NoLength)
  mg_HeldTwice : mg "HeldTwice" = some (.ref C_HeldTwice)
  mg_NoBook : mg "NoBook" = some (.ref C_NoBook)
  mg_NoRow : mg "NoRow" = some (.ref C_NoRow)
  mg_NoSeries : mg "NoSeries" = some (.ref C_NoSeries)
  mg_NoTerm : mg "NoTerm" = some (.ref C_NoTerm)
  mg_PutTwice : mg "PutTwice" = some (.ref C_PutTwice)
  mg_RunBack : mg "RunBack" = some (.ref C_RunBack)
  mg_TooWide : mg "TooWide" = some (.ref C_TooWide)
  mg_Unlike : mg "Unlike" = some (.ref C_Unlike)
  xc_NoDay : ExcCls K C_NoDay
  xc_NoLength : ExcCls K C_NoLength
  xm_d : PySem.W.exmOne K (.ref C_NoDay) (.ref C_HallError) = some true
  xm_l : PySem.W.exmOne K (.ref C_NoLength) (.ref C_HallError) = some true
  i_dv : PySem.W.kitOne K (.ref C_NoDay) (.type "ValueError") = some true
  i_lv : PySem.W.kitOne K (.ref C_NoLength) (.type "ValueError") = some true
  i_dd : PySem.W.kitOne K (.ref C_NoDay) (.ref C_NoDay) = some true
  i_ld : PySem.W.kitOne K (.ref C_NoLength) (.ref C_NoDay) = some false
  i_dl : PySem.W.kitOne K (.ref C_NoDay) (.ref C_NoLength) = some false
  i_ll : PySem.W.kitOne K (.ref C_NoLength) (.ref C_NoLength) = some true
  i_dh : PySem.W.kitOne K (.ref C_NoDay) (.ref C_HallError) = some true
  i_lh : PySem.W.kitOne K (.ref C_NoLength) (.ref C_HallError) = some true
  i_do : PySem.W.kitAny K (.ref C_NoDay) [.ref C_HeldTwice, .ref C_NoBook, .ref C_NoRow, .ref C_NoSeries, .ref C_NoTerm, .ref C_PutTwice, .ref C_RunBack, .ref C_TooWide, .ref C_Unlike] = some false
  i_lo : PySem.W.kitAny K (.ref C_NoLength) [.ref C_HeldTwice, .ref C_NoBook, .ref C_NoRow, .ref C_NoSeries, .ref C_NoTerm, .ref C_PutTwice, .ref C_RunBack, .ref C_TooWide, .ref C_Unlike] = some false
theorem line5 : 100000 ≤ sizeLine := by rw [sizeLine_eq]; decide
theorem same_upd {H : Hp} {p : Addr} {o : HO} (h : H p = none) : Same H (upd H p o) := fun b u e => by rw [upd_ne (ne_of_none e h)]; exact e
theorem len_one (x : Str) (c : Nat) : (x ++ ⟨#[c]⟩ : Str).length = x.length + 1 := strLen_append x ⟨#[c]⟩
theorem atI_some {α : Type} {xs : List α} {i : Int} (h0 : -(xs.length : Int) ≤ i) (h1 : i < xs.length) : ∃ v, atI xs i = some v := by
  unfold atI ixN
  by_cases h : 0 ≤ i
  · rw [if_pos h, if_pos h1]
    exact ⟨_, List.getElem?_eq_getElem (by omega)⟩
  · rw [if_neg h, if_pos h0]
    exact ⟨_, List.getElem?_eq_getElem (by omega)⟩
theorem atI_ints {ns : List Int} {i : Int} (h0 : -(ns.length : Int) ≤ i) (h1 : i < ns.length) : ∃ c, c ∈ ns ∧ atI (ns.map V.int) i = some (.int c) := by
  obtain ⟨v, e⟩ := atI_some (xs := ns.map V.int) (i := i) (by rw [List.length_map]; exact h0) (by rw [List.length_map]; exact h1)
  obtain ⟨j, _, hj, _⟩ := atI_get e
  rw [List.getElem?_map] at hj
  cases q : ns[j]? with
  | none => rw [q] at hj; cases hj
  | some c =>
    rw [q] at hj
    cases hj
    exact ⟨c, List.mem_of_getElem? q, e⟩
theorem q_of {Q : VK} {a b : V} {H : Hp} (q : Q a H) (e : a = b) : Q b H := e ▸ q
theorem atI_head {α : Type} {xs : List α} {c : α} (h : atI xs 0 = some c) : xs.head? = some c := by
  unfold atI ixN at h
  rw [if_pos (by decide)] at h
  split at h
  · rw [List.head?_eq_getElem?]
    exact h
  · cases h
theorem iteS {c A B : Prop} [Decidable c] (hc : c) (h : A) : if decide c = true then A else B := by
  rw [decide_eq_true hc]
  exact iteT h
theorem big_nat (k : Nat) : ((10 : Int) ^ k) = ((10 ^ k : Nat) : Int) := by simp
theorem nat_of {v B : Int} {C : Nat} (hB : B = (C : Int)) (h0 : 0 ≤ v) (h1 : v < B) : ∃ n : Nat, n < C ∧ v = (n : Int) := ⟨v.toNat, by omega, by omega⟩
theorem pow_ok {k : Int} (h0 : 0 ≤ k) (h1 : k ≤ 1000) : CPow 10 k := ⟨h0, by omega, by decide⟩
theorem pow_pos (k : Nat) : (0 : Int) < 10 ^ k := by rw [big_nat]; exact Int.natCast_pos.mpr (Nat.pow_pos (by decide))

def sp_is_made_of : Sp := fun vs H Q _ => ∃ x y : Str, vs = [.str x, .str y] ∧ x.length ≤ 100000 ∧ ∀ H', Same H H' → Q (.bl (x.cps.toList.all (inS y))) H'

def isNum (x : Str) : Bool := if x.length = 0 ∨ 40 < x.length then false else if (cs x).head? = some 48 ∧ x ≠ ⟨#[48]⟩ then false else x.cps.toList.all (inS c_FIGURES)
def sp_is_number : Sp := fun vs H Q _ => ∃ x : Str, vs = [.str x] ∧ x.length ≤ 100000 ∧ ∀ H', Same H H' → Q (.bl (isNum x)) H'
theorem lit0 : Str.ofString "0" = ⟨#[48]⟩ := by decide
theorem one_zero (c : Nat) : V.str ⟨#[c]⟩ = V.str (Str.ofString "0") ↔ c = 48 := by
  rw [lit0]
  constructor
  · intro e
    injection e with e
    injection e with e
    have e : [c] = [48] := congrArg Array.toList e
    injection e
  · rintro rfl
    rfl
theorem fig_in : ∀ k < 10, inS c_FIGURES (48 + k) = true := by decide +kernel
theorem fig_of : ∀ c ∈ cs c_FIGURES, 48 ≤ c ∧ c ≤ 57 := by decide +kernel
theorem in_figs (c : Nat) : inS c_FIGURES c = true ↔ 48 ≤ c ∧ c ≤ 57 := by
  refine ⟨fun h => fig_of c ((inS_iff _ _).mp h), fun h => ?_⟩
  have := fig_in (c - 48) (by omega)
  rwa [Nat.add_sub_cancel' h.1] at this
theorem log_ok {m : Nat} (h : m < 10 ^ 100) : ((m : Nat) : Int).natAbs.log2 < 1920 := by
  rw [Int.natAbs_natCast]
  by_cases z : m = 0
  · rw [z]; decide
  · exact (Nat.log2_lt z).mpr (Nat.lt_trans h (by decide +kernel))
theorem num_len100 {m : Nat} (h : m < 10 ^ 100) : (num m).length ≤ 100 := num_len (by decide) h

def sp_law_whole : Sp := fun vs H Q _ => ∃ i : Int, vs = [.int i] ∧ ∀ H', Same H H' → Q (.bl true) H'

/-! ### days and lengths, whatever the text -/
def dv (x : Str) : Nat := NumText.digitsVal (cs x)
def isTwo (x : Str) (m : Nat) : Bool := decide (x.length = 2) && x.cps.toList.all (inS c_FIGURES) && decide (1 ≤ dv x) && decide (dv x ≤ m)
def isDay : List Str → Bool
  | [a, b, c] => isNum a && isTwo b 12 && isTwo c 30
  | _ => false
def dayV : List Str → V
  | [a, b, c] => .int (((dv a * 12 + dv b : Nat) : Int) * 30 + (dv c : Int) - 31)
  | _ => .non
abbrev bars (x : Str) : List Str := Txt.split x ⟨#[45]⟩
def Ok (x : Str) : Prop := ∀ c ∈ x.cps.toList, c < 16 ^ 8
def sp_is_two_figures : Sp := fun vs H Q _ => ∃ (x : Str) (m : Nat), vs = [.str x, .int (m : Int)] ∧ x.length ≤ 100000 ∧ ∀ H', Same H H' → Q (.bl (isTwo x m)) H'
def sp_is_day : Sp := fun vs H Q _ => ∃ (p : Addr) (ps : List Str), vs = [.ref p] ∧ H p = some (.lst (ps.map V.str)) ∧ (∀ x ∈ ps, x.length ≤ 100000) ∧ ∀ H', Same H H' → Q (.bl (isDay ps)) H'
def sp_day_read (C : Addr) : Sp := fun vs H Q E => ∃ x : Str, vs = [.str x] ∧ x.length ≤ 5000 ∧ Ok x ∧ (isDay (bars x) = true → ∀ H', Same H H' → Q (dayV (bars x)) H') ∧ (isDay (bars x) = false → ∀ H', Same H H' → E (.ref C) none H')
def unitV (x : Str) : V := if x = Str.ofString "y" then .int 360 else if x = Str.ofString "m" then .int 30 else if x = Str.ofString "d" then .int 1 else .non
def sp_days_of_letter : Sp := fun vs H Q _ => ∃ x : Str, vs = [.str x] ∧ ∀ H', Same H H' → Q (unitV x) H'
abbrev lnum (x : Str) : Str := Txt.slice x none (some (-1))
abbrev lunit (x : Str) : V := unitV (Txt.slice x (some (-1)) none)
def lenV (x : Str) : V := match lunit x with
  | .int u => if isNum (lnum x) = true then .int ((dv (lnum x) : Int) * u) else .non
  | _ => .non
def sp_length_read (C : Addr) : Sp := fun vs H Q E => ∃ x : Str, vs = [.str x] ∧ x.length ≤ 5000 ∧ Ok x ∧ (lenV x ≠ .non → ∀ H', Same H H' → Q (lenV x) H') ∧ (lenV x = .non → ∀ H', Same H H' → E (.ref C) none H')
theorem figs_digits {x : Str} (h : x.cps.toList.all (inS c_FIGURES) = true) : NumText.AllDigits (cs x) := fun c hc => (in_figs c).mp (List.all_eq_true.mp h c hc)
theorem figs_read {x : Str} (h : x.cps.toList.all (inS c_FIGURES) = true) (n : x.length ≠ 0) (l : x.length ≤ 4300) : intText? x = some (dv x : Int) :=
  intText_digits (x := x) (figs_digits h) (fun z => n (by rw [len_cs]; show (cs x).length = 0; rw [show cs x = [] from z]; rfl)) l
theorem num_figs {x : Str} (h : isNum x = true) : x.cps.toList.all (inS c_FIGURES) = true ∧ x.length ≠ 0 ∧ x.length ≤ 40 := by
  unfold isNum at h
  split at h
  · cases h
  · rename_i n
    split at h
    · cases h
    · exact ⟨h, by omega, by omega⟩
theorem two_figs {x : Str} {m : Nat} (h : isTwo x m = true) : x.cps.toList.all (inS c_FIGURES) = true ∧ x.length = 2 ∧ 1 ≤ dv x ∧ dv x ≤ m := by
  unfold isTwo at h
  rw [Bool.and_eq_true, Bool.and_eq_true, Bool.and_eq_true] at h
  exact ⟨h.1.1.2, of_decide_eq_true h.1.1.1, of_decide_eq_true h.1.2, of_decide_eq_true h.2⟩
theorem litbar : Str.ofString "-" = ⟨#[45]⟩ := by decide
theorem unit_cases (x : Str) : unitV x = .non ∨ ∃ u : Nat, unitV x = .int (u : Int) ∧ u ≤ 360 := by
  unfold unitV
  split
  · exact .inr ⟨360, rfl, by decide⟩
  · split
    · exact .inr ⟨30, rfl, by decide⟩
    · split
      · exact .inr ⟨1, rfl, by decide⟩
      · exact .inl rfl
theorem slice_ok {x : Str} (h : Ok x) (l u : Option Int) : Ok (Txt.slice x l u) := fun c hc => by
  have hc : c ∈ cs (Txt.slice x l u) := hc
  rw [slice_cut] at hc
  exact h c (List.mem_of_mem_drop (List.mem_of_mem_take hc))
theorem app_ok {x y : Str} (h : Ok x) (k : Ok y) : Ok (x ++ y) := fun c hc => by
  have hc : c ∈ cs (x ++ y) := hc
  rw [cs_app] at hc
  exact (List.mem_append.mp hc).elim (h c) (k c)
theorem empty_app (x : Str) : Str.empty ++ x = x := ext (by rw [cs_app]; rfl)

def sp_law_sign_by : Sp := fun vs H Q _ => ∃ c : Int, vs = [.int c] ∧ ∀ (k : Nat) H', k < 16 ^ 8 → Same H H' → Q (.str ⟨#[k]⟩) H'
def sp_law_bent : Sp := fun vs H Q _ => ∃ (x : Str) (c : Int), vs = [.str x, .int c] ∧ x.length ≤ 1000 ∧ Ok x ∧ ∀ (z : Str) H', z.length ≤ 2001 → Ok z → Same H H' → Q (.str z) H'
def figsUp (x : Str) (m : Nat) : Bool := decide (1 ≤ x.length) && decide (x.length ≤ m) && x.cps.toList.all (inS c_FIGURES)
def sp_law_figures : Sp := fun vs H Q _ => ∃ (x : Str) (m : Nat), vs = [.str x, .int (m : Int)] ∧ x.length ≤ 100000 ∧ ∀ H', Same H H' → Q (.bl (figsUp x m)) H'
def sp_law_number : Sp := fun vs H Q _ => ∃ x : Str, vs = [.str x] ∧ x.length ≤ 100000 ∧ ∀ H', Same H H' → Q (.bl (isNum x)) H'
def dueV (x : Str) : V := if isDay (bars x) = true then dayV (bars x) else .non
def sp_law_day_due : Sp := fun vs H Q _ => ∃ x : Str, vs = [.str x] ∧ x.length ≤ 5000 ∧ ∀ H', Same H H' → Q (dueV x) H'
def sp_law_length_due : Sp := fun vs H Q _ => ∃ x : Str, vs = [.str x] ∧ x.length ≤ 5000 ∧ ∀ H', Same H H' → Q (lenV x) H'
def sp_law_refused (C D : Addr) : Sp := fun vs H Q _ => ∃ (e B : Addr) (b : Bool), vs = [.ref e, .bl b] ∧ H e = some (XO e B none) ∧ ((b = true ∧ B = C) ∨ (b = false ∧ B = D)) ∧ ∀ H', Same H H' → Q (.bl true) H'
def sp_law_day_so : Sp := fun vs H Q _ => ∃ x : Str, vs = [.str x] ∧ x.length ≤ 5000 ∧ Ok x ∧ ∀ H', Same H H' → Q (.bl true) H'
def sp_law_length_so : Sp := sp_law_day_so
def sp_law_odd : Sp := fun vs H Q _ => ∃ c : Int, vs = [.int c] ∧ ∀ (z : Str) H', z.length ≤ 20 → Ok z → Same H H' → Q (.str z) H'
def sp_law_holds : Sp := fun vs H Q _ => ∃ c o : Int, vs = [.int c, .int o] ∧ ∀ H', Same H H' → Q (.bl true) H'
def someSigns : Str := "0123456789-ymd !\"#$&'()*+,./:;<=>?@ABCDEFGHIJKLMNOPQRSTUVWXYZ[\\]^_`abcefghijklnopqrstuvwxz{|}~\n"
theorem some_len : someSigns.length = 95 := by decide +kernel
theorem some_ok : ∀ c ∈ cs someSigns, c < 16 ^ 8 := by decide +kernel
theorem one_ok {k : Nat} (h : k < 16 ^ 8) : Ok ⟨#[k]⟩ := fun c hc => by
  have e : c = k := by simpa using hc
  rw [e]
  exact h
theorem num_up (x : Str) : isNum x = (figsUp x 40 && (decide (x = ⟨#[48]⟩) || !decide ((cs x).head? = some 48))) := by
  unfold isNum figsUp
  by_cases h : x.length = 0 ∨ 40 < x.length
  · rw [if_pos h]
    rcases h with h | h
    · rw [decide_eq_false (show ¬ 1 ≤ x.length by omega)]; rfl
    · rw [decide_eq_false (show ¬ x.length ≤ 40 by omega)]; simp
  · rw [if_neg h, decide_eq_true (show 1 ≤ x.length by omega), decide_eq_true (show x.length ≤ 40 by omega), Bool.true_and, Bool.true_and]
    by_cases q : (cs x).head? = some 48 ∧ x ≠ ⟨#[48]⟩
    · rw [if_pos q, decide_eq_true q.1, decide_eq_false q.2]; simp
    · rw [if_neg q]
      by_cases z : x = ⟨#[48]⟩
      · rw [decide_eq_true z]; simp
      · rw [decide_eq_false (show ¬ (cs x).head? = some 48 from fun y => q ⟨y, z⟩)]; simp

section
variable {P : Program} {w : World} {K : PySem.W.Frag} {mg : Str → Option Value} {base : Heap} {t_YEAR_DAYS : Tok} {t_MONTH_DAYS : Tok} {t_YEAR_MONTHS : Tok} {t_MOST_FIGURES : Tok} {t_FIGURES : Tok} {C_HallError : Addr} {C_NoDay : Addr} {C_NoLength : Addr} {C_HeldTwice : Addr} {C_NoBook : Addr} {C_NoRow : Addr} {C_NoSeries : Addr} {C_NoTerm : Addr} {C_PutTwice : Addr} {C_RunBack : Addr} {C_TooWide : Addr} {C_Unlike : Addr}
theorem sc_is_made_of : FnScope ["text", "signs"] ["text", "signs"] (defScope s_is_made_of) := ⟨rfl, rfl, rfl, by decide +kernel, rfl, by decide +kernel, by decide +kernel⟩
theorem ok_is_made_of {f : Addr} {fd : FuncData} (F : Fun K "is_made_of" "is_made_of" s_is_made_of f fd) (T : Txt K mg t_YEAR_DAYS t_MONTH_DAYS t_YEAR_MONTHS t_MOST_FIGURES t_FIGURES C_HallError C_NoDay C_NoLength C_HeldTwice C_NoBook C_NoRow C_NoSeries C_NoTerm C_PutTwice C_RunBack C_TooWide C_Unlike) : FnOk P w K mg base CX0 1 f fd ["text", "signs"] sp_is_made_of := by
  refine F.ok sc_is_made_of (fun vs H Q E h => ?_) (fun cdv A outer s H vs Q E hr h => ?_)
  · obtain ⟨x, y, rfl, _⟩ := h
    rfl
  · obtain ⟨x, y, rfl, hx, k⟩ := h
    refine ⟨_, (pss_one (ps_ret (pe_callB (call_all_l rfl) (by rfl) T.z_all bt_all (pa_cons (pe_comp ["sign"] [("signs", 1)] rfl (pi_str (pv 0)) (by rfl) (by exact ⟨rfl, trivial⟩) (by rfl) (by exact ⟨⟨rfl, rfl, rfl⟩, trivial⟩) (fun _ _ _ _ => (pg_name (i := 0) (show (nmY ["sign"] [("signs", 1)]).Nodup by decide +kernel) rfl (Or.inl rfl))) (fun _ _ _ _ => pts_nil) (fun _ _ _ _ => (pe_cmpR op_in_str (pv 0) (pv 1) rfl))) pa_nil)))), ?_⟩
    refine rd_ret (rd_call (rd_arg (comp_str (f := fun c => V.bl (inS y c)) rfl (Nat.le_trans hx line5) (fun v => ⟨rfl, trivial⟩) (fun c H2 Q2 q => ⟨_, rfl, _, rfl, _, _, rfl, rfl, q⟩) fun D hD => ?_)))
    refine ⟨D, x.cps.toList.map (inS y), rfl, SqL.of (by rw [upd_same, List.map_map]; rfl), ?_⟩
    have e : (x.cps.toList.map (inS y)).all id = x.cps.toList.all (inS y) := by rw [List.all_map]; rfl
    rw [e]
    exact k _ (same_upd hD)

theorem sc_is_number : FnScope ["text"] ["text"] (defScope s_is_number) := ⟨rfl, rfl, rfl, by decide +kernel, rfl, by decide +kernel, by decide +kernel⟩
theorem ok_is_number {f : Addr} {fd : FuncData} (F : Fun K "is_number" "is_number" s_is_number f fd) (T : Txt K mg t_YEAR_DAYS t_MONTH_DAYS t_YEAR_MONTHS t_MOST_FIGURES t_FIGURES C_HallError C_NoDay C_NoLength C_HeldTwice C_NoBook C_NoRow C_NoSeries C_NoTerm C_PutTwice C_RunBack C_TooWide C_Unlike) (c_is_made_of : Cal P w K mg base CX0 1 "is_made_of" ["text", "signs"] sp_is_made_of) : FnOk P w K mg base CX0 2 f fd ["text"] sp_is_number := by
  refine F.ok sc_is_number (fun vs H Q E h => ?_) (fun cdv A outer s H vs Q E hr h => ?_)
  · obtain ⟨x, rfl, _⟩ := h
    rfl
  · obtain ⟨x, rfl, hx, k⟩ := h
    have hz := Nat.le_trans hx line5
    refine ⟨_, (pss_cons (ps_if (PW.pt (pw_or (pt_cmpR op_eq (pe_callB call_len (by rfl) T.z_len bt_len (pa_cons (pv 0) pa_nil)) pe_int (nomark _)) (pw_or1 (pt_cmpR op_gt (pe_callB call_len (by rfl) T.z_len bt_len (pa_cons (pv 0) pa_nil)) (pe_glob (v := .int 40) rfl T.g_MOST_FIGURES ⟨_, rfl⟩) (nomark _))))) (pss_one (ps_ret pe_bl)) pss_nil) (pss_cons (ps_if (PW.pt (pw_and (pt_cmpR op_eq (pe_ix ix_str (pv 0) pe_int (fun _ _ => rfl)) pe_str (nomark _)) (pw_and1 (pt_cmpR op_ne (pv 0) pe_str (nomark _))))) (pss_one (ps_ret pe_bl)) pss_nil) (pss_one (ps_ret (pe_fn c_is_made_of (hr.mono (by omega)) rfl pass0 (pa_cons (pv 0) (pa_cons (pe_glob (v := .str c_FIGURES) rfl T.g_FIGURES ⟨_, rfl⟩) pa_nil))))))), ?_⟩
    refine ⟨_, rfl, _, _, rfl, ⟨hz, rfl⟩, rfl, _, rfl, ?_⟩
    refine ite2 (fun e => iteT ?_) (fun e => ?_)
    · have e : V.int (x.length : Int) = V.int 0 := of_decide_eq_true e
      have e : x.length = 0 := by injection e with e; omega
      exact q_of (k H (Same.refl H)) (by unfold isNum; rw [if_pos (.inl e)])
    · have e : ¬ V.int (x.length : Int) = V.int 0 := fun z => e (decide_eq_true z)
      have e : x.length ≠ 0 := fun z => e (by rw [z]; rfl)
      refine ⟨_, rfl, _, _, rfl, ⟨hz, rfl⟩, _, _, rfl, rfl, _, rfl, ?_⟩
      refine ite2 (fun e2 => ?_) (fun e2 => ?_)
      · have e2 : (40 : Int) < (x.length : Int) := of_decide_eq_true e2
        exact q_of (k H (Same.refl H)) (by unfold isNum; rw [if_pos (.inr (by omega))])
      · have e2 : ¬ (40 : Int) < (x.length : Int) := fun z => e2 (decide_eq_true z)
        have hn : ¬ (x.length = 0 ∨ 40 < x.length) := by omega
        obtain ⟨c, hc⟩ := atI_some (xs := x.cps.toList) (i := 0) (by omega) (by rw [Array.length_toList]; show (0 : Int) < ((x.length : Nat) : Int); omega)
        have hh : (cs x).head? = some c := atI_head hc
        refine ⟨_, rfl, x, 0, c, rfl, rfl, hz, hc, rfl, _, rfl, ?_⟩
        have fin : ¬ ((cs x).head? = some 48 ∧ x ≠ ⟨#[48]⟩) → isNum x = x.cps.toList.all (inS c_FIGURES) := fun z => by
          unfold isNum
          rw [if_neg hn, if_neg z]
        refine ite2 (fun e3 => ?_) (fun e3 => ?_)
        · have e3 : c = 48 := (one_zero c).mp (of_decide_eq_true e3)
          refine ⟨_, rfl, rfl, _, rfl, ?_⟩
          by_cases ex : x = ⟨#[48]⟩
          · refine iteNS (by rw [ex, ← lit0]) ?_
            refine ⟨_, rfl, x, c_FIGURES, rfl, hx, fun H' s' => ?_⟩
            exact q_of (k H' s') (by rw [fin (fun z => z.2 ex)])
          · have ed : decide (V.str x = V.str (Str.ofString "0")) = false := decide_eq_false (fun z => ex ((V.str.inj z).trans lit0))
            show if (!decide (V.str x = V.str (Str.ofString "0"))) = true then _ else _
            rw [ed]
            refine iteT ?_
            exact q_of (k H (Same.refl H)) (by unfold isNum; rw [if_neg hn, if_pos ⟨by rw [hh, e3], ex⟩])
        · have e3 : ¬ c = 48 := fun z => e3 (decide_eq_true ((one_zero c).mpr z))
          refine iteF ?_
          refine ⟨_, rfl, x, c_FIGURES, rfl, hx, fun H' s' => ?_⟩
          exact q_of (k H' s') (by rw [fin (fun z => e3 (by have := z.1; rw [hh] at this; exact Option.some.inj this))])

theorem sc_law_whole : FnScope ["_law_found"] ["_law_found"] (defScope s_law_whole) := ⟨rfl, rfl, rfl, by decide +kernel, rfl, by decide +kernel, by decide +kernel⟩
theorem ok_law_whole {f : Addr} {fd : FuncData} (F : Fun K "_law_whole" "_law_whole" s_law_whole f fd) (T : Txt K mg t_YEAR_DAYS t_MONTH_DAYS t_YEAR_MONTHS t_MOST_FIGURES t_FIGURES C_HallError C_NoDay C_NoLength C_HeldTwice C_NoBook C_NoRow C_NoSeries C_NoTerm C_PutTwice C_RunBack C_TooWide C_Unlike) : FnOk P w K mg base CX0 1 f fd ["_law_found"] sp_law_whole := by
  refine F.ok sc_law_whole (fun vs H Q E h => ?_) (fun cdv A outer s H vs Q E hr h => ?_)
  · obtain ⟨i, rfl, _⟩ := h
    rfl
  · obtain ⟨i, rfl, k⟩ := h
    refine ⟨_, (pss_one (ps_ret (pe_and (pe_callB call_isinst (by rfl) T.z_isinstance bt_isinstance (pa_cons (pv 0) (pa_cons (pe_bltn (v := .ty "int") rfl T.z_int bt_int rfl) pa_nil))) (pe_one (pe_not (pe_callB call_isinst (by rfl) T.z_isinstance bt_isinstance (pa_cons (pv 0) (pa_cons (pe_bltn (v := .ty "bool") rfl T.z_bool bt_bool rfl) pa_nil)))))))), ?_⟩
    refine ⟨_, rfl, _, _, _, _, true, rfl, rfl, TyOf.int _, T.kii, _, rfl, iteT ?_⟩
    exact ⟨_, rfl, _, _, _, _, false, rfl, rfl, TyOf.int _, T.kib, _, rfl, k H (Same.refl H)⟩

theorem sc_is_two_figures : FnScope ["text", "most"] ["text", "most"] (defScope s_is_two_figures) := ⟨rfl, rfl, rfl, by decide +kernel, rfl, by decide +kernel, by decide +kernel⟩
theorem ok_is_two_figures {f : Addr} {fd : FuncData} (F : Fun K "is_two_figures" "is_two_figures" s_is_two_figures f fd) (T : Txt K mg t_YEAR_DAYS t_MONTH_DAYS t_YEAR_MONTHS t_MOST_FIGURES t_FIGURES C_HallError C_NoDay C_NoLength C_HeldTwice C_NoBook C_NoRow C_NoSeries C_NoTerm C_PutTwice C_RunBack C_TooWide C_Unlike) (c_is_made_of : Cal P w K mg base CX0 1 "is_made_of" ["text", "signs"] sp_is_made_of) : FnOk P w K mg base CX0 2 f fd ["text", "most"] sp_is_two_figures := by
  refine F.ok sc_is_two_figures (fun vs H Q E h => ?_) (fun cdv A outer s H vs Q E hr h => ?_)
  · obtain ⟨x, m, rfl, _⟩ := h
    rfl
  · obtain ⟨x, m, rfl, hx, k⟩ := h
    have l5 := line5
    refine ⟨_, (pss_cons (ps_if (PW.pt (pw_or (pt_cmpR op_ne (pe_callB call_len (by rfl) T.z_len bt_len (pa_cons (pv 0) pa_nil)) pe_int (nomark _)) (pw_or1 (pt_not (pt_val (pe_fn c_is_made_of (hr.mono (by omega)) rfl pass0 (pa_cons (pv 0) (pa_cons (pe_glob (v := .str c_FIGURES) rfl T.g_FIGURES ⟨_, rfl⟩) pa_nil)))))))) (pss_one (ps_ret pe_bl)) pss_nil) (pss_one (ps_ret (pe_and (pe_cmpR op_ge (pe_callTy call_int_str (by rfl) T.z_int bt_int (pa_cons (pv 0) pa_nil)) pe_int (nomark _)) (pe_one (pe_cmpR op_le (pe_callTy call_int_str (by rfl) T.z_int bt_int (pa_cons (pv 0) pa_nil)) (pv 1) (nomark _))))))), ?_⟩
    refine ⟨_, rfl, _, _, rfl, ⟨by omega, rfl⟩, rfl, _, rfl, ?_⟩
    by_cases e : x.length = 2
    · refine iteNS (by rw [e]; rfl) ?_
      refine ⟨_, rfl, x, c_FIGURES, rfl, hx, fun H1 s1 => ⟨_, rfl, ?_⟩⟩
      cases f : x.cps.toList.all (inS c_FIGURES) with
      | false => exact iteT (q_of (k H1 s1) (by unfold isTwo; rw [f]; simp))
      | true =>
        refine iteF ?_
        have rd := figs_read f (by omega) (by omega)
        refine ⟨_, rfl, x, _, rfl, rd, by omega, _, _, rfl, rfl, _, rfl, ite2 (fun e1 => ?_) (fun e1 => ?_)⟩
        · have e1 : (1 : Int) ≤ (dv x : Int) := of_decide_eq_true e1
          refine ⟨_, rfl, x, _, rfl, rd, by omega, _, rfl, _, _, rfl, rfl, q_of (k H1 s1) ?_⟩
          unfold isTwo
          rw [f, decide_eq_true e, decide_eq_true (show 1 ≤ dv x by omega), Bool.and_self, Bool.and_self, Bool.true_and]
          by_cases q : dv x ≤ m
          · rw [decide_eq_true q]; exact congrArg V.bl (decide_eq_true (show (dv x : Int) ≤ (m : Int) by omega)).symm
          · rw [decide_eq_false q]; exact congrArg V.bl (decide_eq_false (show ¬ (dv x : Int) ≤ (m : Int) by omega)).symm
        · have e1 : ¬ (1 : Int) ≤ (dv x : Int) := fun z => e1 (decide_eq_true z)
          refine q_of (k H1 s1) ?_
          unfold isTwo
          rw [decide_eq_false (show ¬ 1 ≤ dv x by omega)]
          simp
    · have ne : ¬ V.int (x.length : Int) = V.int 2 := fun z => e (by injection z with z; omega)
      have ed : decide (V.int (x.length : Int) = V.int 2) = false := decide_eq_false ne
      show if (!decide (V.int (x.length : Int) = V.int 2)) = true then _ else _
      rw [ed]
      exact iteT (iteT (q_of (k H (Same.refl H)) (by unfold isTwo; rw [decide_eq_false e]; simp)))
theorem sc_is_day : FnScope ["parts"] ["parts"] (defScope s_is_day) := ⟨rfl, rfl, rfl, by decide +kernel, rfl, by decide +kernel, by decide +kernel⟩
theorem ok_is_day {f : Addr} {fd : FuncData} (F : Fun K "is_day" "is_day" s_is_day f fd) (T : Txt K mg t_YEAR_DAYS t_MONTH_DAYS t_YEAR_MONTHS t_MOST_FIGURES t_FIGURES C_HallError C_NoDay C_NoLength C_HeldTwice C_NoBook C_NoRow C_NoSeries C_NoTerm C_PutTwice C_RunBack C_TooWide C_Unlike) (c_is_number : Cal P w K mg base CX0 2 "is_number" ["text"] sp_is_number) (c_is_two_figures : Cal P w K mg base CX0 2 "is_two_figures" ["text", "most"] sp_is_two_figures) : FnOk P w K mg base CX0 3 f fd ["parts"] sp_is_day := by
  refine F.ok sc_is_day (fun vs H Q E h => ?_) (fun cdv A outer s H vs Q E hr h => ?_)
  · obtain ⟨p, ps, rfl, _⟩ := h
    rfl
  · obtain ⟨p, ps, rfl, hp, hl, k⟩ := h
    refine ⟨_, (pss_cons (ps_if (pt_cmpR op_ne (pe_callB call_len (by rfl) T.z_len bt_len (pa_cons (pv 0) pa_nil)) pe_int (nomark _)) (pss_one (ps_ret pe_bl)) pss_nil) (pss_cons (ps_if (pt_not (pt_val (pe_fn c_is_number (hr.mono (by omega)) rfl pass0 (pa_cons (pe_ix ix_list (pv 0) pe_int (fun _ _ => rfl)) pa_nil)))) (pss_one (ps_ret pe_bl)) pss_nil) (pss_one (ps_ret (pe_and (pe_fn c_is_two_figures (hr.mono (by omega)) rfl pass0 (pa_cons (pe_ix ix_list (pv 0) pe_int (fun _ _ => rfl)) (pa_cons (pe_glob (v := .int 12) rfl T.g_YEAR_MONTHS ⟨_, rfl⟩) pa_nil))) (pe_one (pe_fn c_is_two_figures (hr.mono (by omega)) rfl pass0 (pa_cons (pe_ix ix_list (pv 0) pe_int (fun _ _ => rfl)) (pa_cons (pe_glob (v := .int 30) rfl T.g_MONTH_DAYS ⟨_, rfl⟩) pa_nil))))))))), ?_⟩
    refine ⟨_, rfl, _, _, rfl, .inl ⟨_, SqL.of hp, rfl⟩, rfl, _, rfl, ?_⟩
    have other : ps.length ≠ 3 → isDay ps = false := fun n => by
      unfold isDay
      split
      · exact absurd rfl n
      · rfl
    by_cases e : ps.length = 3
    · obtain ⟨a, b, c, rfl⟩ : ∃ a b c, ps = [a, b, c] := by
        match ps, e with
        | [a, b, c], _ => exact ⟨a, b, c, rfl⟩
      refine iteNS rfl ?_
      refine ⟨_, rfl, p, _, _, _, rfl, rfl, SqL.of hp, rfl, a, rfl, hl a (by simp), fun H1 s1 => ⟨_, rfl, ?_⟩⟩
      cases f : isNum a with
      | false => exact iteT (q_of (k H1 s1) (by show V.bl (isNum a && _ && _) = _; rw [f]; rfl))
      | true =>
        refine iteF ?_
        refine ⟨_, rfl, p, _, _, _, rfl, rfl, SqL.of (s1 _ _ hp), rfl, b, 12, rfl, hl b (by simp), fun H2 s2 => ⟨_, rfl, ?_⟩⟩
        cases f2 : isTwo b 12 with
        | false => exact iteF (q_of (k H2 (s1.trans s2)) (by show V.bl (isNum a && isTwo b 12 && _) = _; rw [f, f2]; rfl))
        | true =>
          refine iteT ?_
          refine ⟨_, rfl, p, _, _, _, rfl, rfl, SqL.of (s2 _ _ (s1 _ _ hp)), rfl, c, 30, rfl, hl c (by simp), fun H3 s3 => ?_⟩
          exact q_of (k H3 (s1.trans (s2.trans s3))) (by show V.bl (isNum a && isTwo b 12 && isTwo c 30) = _; rw [f, f2]; rfl)
    · have ne : ¬ V.int (((ps.map V.str).length : Nat) : Int) = V.int 3 := fun z => e (by injection z with z; rw [List.length_map] at z; omega)
      show if (!decide (V.int (((ps.map V.str).length : Nat) : Int) = V.int 3)) = true then _ else _
      rw [decide_eq_false ne]
      exact iteT (q_of (k H (Same.refl H)) (by rw [other e]))
theorem bars_le {x : Str} (hx : x.length ≤ 5000) : ∀ z ∈ bars x, z.length ≤ 100000 := fun z hz => by
  have := part_le hz
  omega
theorem said_len {x w : Str} (hx : x.length ≤ 5000) (hok : Ok x) (hw : w.length ≤ 100) : (reprText x ++ w).length ≤ sizeLine := by
  have l5 := line5
  have lr := StrLaws.reprText_len x hok
  rw [strLen_append]
  omega
theorem sc_day_read : FnScope ["text", "parts", "whole_months"] ["text"] (defScope s_day_read) := ⟨rfl, rfl, rfl, by decide +kernel, rfl, by decide +kernel, by decide +kernel⟩
theorem ok_day_read {f : Addr} {fd : FuncData} (F : Fun K "day_read" "day_read" s_day_read f fd) (T : Txt K mg t_YEAR_DAYS t_MONTH_DAYS t_YEAR_MONTHS t_MOST_FIGURES t_FIGURES C_HallError C_NoDay C_NoLength C_HeldTwice C_NoBook C_NoRow C_NoSeries C_NoTerm C_PutTwice C_RunBack C_TooWide C_Unlike) (o_NoDay : OwnX "NoDay" C_NoDay mg base) (c_is_day : Cal P w K mg base CX0 3 "is_day" ["parts"] sp_is_day) : FnOk P w K mg base (CXr P w) 4 f fd ["text"] (sp_day_read C_NoDay) := by
  refine okX F sc_day_read (fun vs H Q E h => ?_) (fun cdv A outer s H vs Q E hr h => ?_)
  · obtain ⟨x, rfl, _⟩ := h
    rfl
  · obtain ⟨x, rfl, hx, hok, k1, k2⟩ := h
    have l5 := line5
    refine ⟨_, (pss_cons (ps_set (i := 1) sc_day_read.nd rfl (Or.inl rfl) (pe_bm PySem.F.plainAttrs_str PySem.F.slot_str_split PySem.F.type_str_split mt_s_split (pv 0) (pa_cons pe_str pa_nil))) (pss_cons (ps_if (pt_not (pt_val (pe_fn c_is_day (hr.mono (by omega)) rfl pass0 (pa_cons (pv 1) pa_nil)))) (pss_one (ps_raise raises_own o_NoDay rfl rfl (pa_cons (pe_fstr (pf_cons (pf_repr (pv 0)) (pf_cons pf_lit pf_nil))) pa_nil))) pss_nil) (pss_cons (ps_set (i := 2) sc_day_read.nd rfl (Or.inl rfl) (pe_op op_sub (pe_op op_add (pe_op op_mulK (pe_callTy call_int_str (by rfl) T.z_int bt_int (pa_cons (pe_ix ix_list (pv 1) pe_int (fun _ _ => rfl)) pa_nil)) (pe_glob (v := .int 12) rfl T.g_YEAR_MONTHS ⟨_, rfl⟩)) (pe_callTy call_int_str (by rfl) T.z_int bt_int (pa_cons (pe_ix ix_list (pv 1) pe_int (fun _ _ => rfl)) pa_nil))) pe_int)) (pss_one (ps_ret (pe_op op_sub (pe_op op_add (pe_op op_mulK (pv 2) (pe_glob (v := .int 30) rfl T.g_MONTH_DAYS ⟨_, rfl⟩)) (pe_callTy call_int_str (by rfl) T.z_int bt_int (pa_cons (pe_ix ix_list (pv 1) pe_int (fun _ _ => rfl)) pa_nil))) pe_int)))))), ?_⟩
    refine ⟨_, rfl, rfl, x, 45, rfl, by rw [litbar], by omega, fun p hp => ?_⟩
    refine ⟨_, rfl, p, bars x, rfl, upd_same, bars_le hx, fun H1 s1 => ⟨_, rfl, ?_⟩⟩
    have s01 := (same_upd (o := .lst ((bars x).map V.str)) hp).trans s1
    cases f : isDay (bars x) with
    | false =>
      refine iteT ?_
      have lr := StrLaws.reprText_len x hok
      refine ⟨_, rfl, x, rfl, by omega, hok, ?_⟩
      try dsimp only
      rw [empty_app]
      exact ⟨by omega, said_len hx hok (by decide), said_len hx hok (by decide), (by show 1 ≤ sizeLine; omega), k2 f H1 s01⟩
    | true =>
      refine iteF ?_
      have hp1 := s1 _ _ (upd_same (H := H) (a := p) (o := .lst ((bars x).map V.str)))
      have q := k1 f H1 s01
      obtain ⟨a, b, c, e⟩ : ∃ a b c, bars x = [a, b, c] := by
        cases q : bars x with
        | nil => rw [q] at f; cases f
        | cons a l =>
          match l, q with
          | [], q => rw [q] at f; cases f
          | [b], q => rw [q] at f; cases f
          | [b, c], q => exact ⟨a, b, c, rfl⟩
          | b :: c :: d :: l, q => rw [q] at f; cases f
      rw [e] at f hp1 q
      have f : (isNum a && isTwo b 12 && isTwo c 30) = true := f
      rw [Bool.and_eq_true, Bool.and_eq_true] at f
      obtain ⟨a1, a2, a3⟩ := num_figs f.1.1
      obtain ⟨b1, b2, b3, b4⟩ := two_figs f.1.2
      obtain ⟨c1, c2, c3, c4⟩ := two_figs f.2
      refine ⟨_, rfl, p, _, _, _, rfl, rfl, SqL.of hp1, rfl, a, _, rfl, figs_read a1 a2 (by omega), by omega, _, _, rfl, rfl, IntMulOk.of_right (intBits_le_64 (by decide) (by decide)),
        _, rfl, p, _, _, _, rfl, rfl, SqL.of hp1, rfl, b, _, rfl, figs_read b1 (by omega) (by omega), by omega, _, _, rfl, rfl, _, _, rfl, rfl, ?_⟩
      refine ⟨_, rfl, _, _, rfl, rfl, IntMulOk.of_right (intBits_le_64 (by decide) (by decide)), _, rfl, p, _, _, _, rfl, rfl, SqL.of hp1, rfl, c, _, rfl, figs_read c1 (by omega) (by omega), by omega, _, _, rfl, rfl, _, _, rfl, rfl, ?_⟩
      refine q_of q ?_
      show V.int _ = V.int _
      congr 1
      omega
theorem sc_days_of_letter : FnScope ["letter"] ["letter"] (defScope s_days_of_letter) := ⟨rfl, rfl, rfl, by decide +kernel, rfl, by decide +kernel, by decide +kernel⟩
theorem ok_days_of_letter {f : Addr} {fd : FuncData} (F : Fun K "days_of_letter" "days_of_letter" s_days_of_letter f fd) (T : Txt K mg t_YEAR_DAYS t_MONTH_DAYS t_YEAR_MONTHS t_MOST_FIGURES t_FIGURES C_HallError C_NoDay C_NoLength C_HeldTwice C_NoBook C_NoRow C_NoSeries C_NoTerm C_PutTwice C_RunBack C_TooWide C_Unlike) : FnOk P w K mg base CX0 1 f fd ["letter"] sp_days_of_letter := by
  refine F.ok sc_days_of_letter (fun vs H Q E h => ?_) (fun cdv A outer s H vs Q E hr h => ?_)
  · obtain ⟨x, rfl, _⟩ := h
    rfl
  · obtain ⟨x, rfl, k⟩ := h
    have q := k H (Same.refl H)
    unfold unitV at q
    refine ⟨_, (pss_cons (ps_if (pt_cmpR op_eq (pv 0) pe_str (nomark _)) (pss_one (ps_ret (pe_glob (v := .int 360) rfl T.g_YEAR_DAYS ⟨_, rfl⟩))) pss_nil) (pss_cons (ps_if (pt_cmpR op_eq (pv 0) pe_str (nomark _)) (pss_one (ps_ret (pe_glob (v := .int 30) rfl T.g_MONTH_DAYS ⟨_, rfl⟩))) pss_nil) (pss_cons (ps_if (pt_cmpR op_eq (pv 0) pe_str (nomark _)) (pss_one (ps_ret pe_int)) pss_nil) (pss_one (ps_ret pe_non))))), ?_⟩
    have ds : ∀ y : Str, V.str x = V.str y → x = y := fun y e => by injection e
    refine ⟨_, rfl, rfl, _, rfl, ite2 (fun e => ?_) (fun e => ?_)⟩
    · rw [if_pos (ds _ (of_decide_eq_true e))] at q
      exact q
    · rw [if_neg (fun z => e (decide_eq_true (by rw [z])))] at q
      refine ⟨_, rfl, rfl, _, rfl, ite2 (fun e => ?_) (fun e => ?_)⟩
      · rw [if_pos (ds _ (of_decide_eq_true e))] at q
        exact q
      · rw [if_neg (fun z => e (decide_eq_true (by rw [z])))] at q
        refine ⟨_, rfl, rfl, _, rfl, ite2 (fun e => ?_) (fun e => ?_)⟩
        · rw [if_pos (ds _ (of_decide_eq_true e))] at q
          exact q
        · rw [if_neg (fun z => e (decide_eq_true (by rw [z])))] at q
          exact q
theorem sc_length_read : FnScope ["text", "number", "unit"] ["text"] (defScope s_length_read) := ⟨rfl, rfl, rfl, by decide +kernel, rfl, by decide +kernel, by decide +kernel⟩
theorem ok_length_read {f : Addr} {fd : FuncData} (F : Fun K "length_read" "length_read" s_length_read f fd) (T : Txt K mg t_YEAR_DAYS t_MONTH_DAYS t_YEAR_MONTHS t_MOST_FIGURES t_FIGURES C_HallError C_NoDay C_NoLength C_HeldTwice C_NoBook C_NoRow C_NoSeries C_NoTerm C_PutTwice C_RunBack C_TooWide C_Unlike) (o_NoLength : OwnX "NoLength" C_NoLength mg base) (c_days_of_letter : Cal P w K mg base CX0 1 "days_of_letter" ["letter"] sp_days_of_letter) (c_is_number : Cal P w K mg base CX0 2 "is_number" ["text"] sp_is_number) : FnOk P w K mg base (CXr P w) 3 f fd ["text"] (sp_length_read C_NoLength) := by
  refine okX F sc_length_read (fun vs H Q E h => ?_) (fun cdv A outer s H vs Q E hr h => ?_)
  · obtain ⟨x, rfl, _⟩ := h
    rfl
  · obtain ⟨x, rfl, hx, hok, k1, k2⟩ := h
    have l5 := line5
    have hz : x.length ≤ sizeLine := by omega
    have lr := StrLaws.reprText_len x hok
    have ln : (lnum x).length ≤ x.length := Txt.slice_le x none (some (-1))
    refine ⟨_, (pss_cons (ps_set (i := 1) sc_length_read.nd rfl (Or.inl rfl) (pe_slice sl_str (pv 0) po_none (po_some (pe_un un_neg pe_int)))) (pss_cons (ps_set (i := 2) sc_length_read.nd rfl (Or.inl rfl) (pe_fn c_days_of_letter (hr.mono (by omega)) rfl pass0 (pa_cons (pe_slice sl_str (pv 0) (po_some (pe_un un_neg pe_int)) po_none) pa_nil))) (pss_cons (ps_if (PW.pt (pw_or (pt_cmpR op_isN (pv 2) pe_non (nomark _)) (pw_or1 (pt_not (pt_val (pe_fn c_is_number (hr.mono (by omega)) rfl pass0 (pa_cons (pv 1) pa_nil))))))) (pss_one (ps_raise raises_own o_NoLength rfl rfl (pa_cons (pe_fstr (pf_cons (pf_repr (pv 0)) (pf_cons pf_lit pf_nil))) pa_nil))) pss_nil) (pss_one (ps_ret (pe_op op_mulK (pe_callTy call_int_str (by rfl) T.z_int bt_int (pa_cons (pv 1) pa_nil)) (pv 2))))))), ?_⟩
    refine ⟨_, rfl, _, rfl, _, rfl, _, rfl, hz, ?_⟩
    refine ⟨_, rfl, _, rfl, _, rfl, _, rfl, hz, _, rfl, fun H1 s1 => ?_⟩
    rcases unit_cases (Txt.slice x (some (-1)) none) with e | ⟨u, e, hu⟩
    · have en : lenV x = .non := by unfold lenV; rw [show lunit x = .non from e]
      rw [e]
      refine ⟨_, rfl, rfl, _, rfl, iteT (iteT ?_)⟩
      refine ⟨_, rfl, x, rfl, by omega, hok, ?_⟩
      try dsimp only
      rw [empty_app]
      exact ⟨by omega, said_len hx hok (by decide), said_len hx hok (by decide), (by show 1 ≤ sizeLine; omega), k2 en H1 s1⟩
    · rw [e]
      refine ⟨_, rfl, rfl, _, rfl, iteF ?_⟩
      refine ⟨_, rfl, lnum x, rfl, by omega, fun H2 s2 => ⟨_, rfl, ?_⟩⟩
      cases f : isNum (lnum x) with
      | false =>
        have en : lenV x = .non := by unfold lenV; rw [show lunit x = .int (u : Int) from e, f]; rfl
        refine iteT ?_
        refine ⟨_, rfl, x, rfl, by omega, hok, ?_⟩
        try dsimp only
        rw [empty_app]
        exact ⟨by omega, said_len hx hok (by decide), said_len hx hok (by decide), (by show 1 ≤ sizeLine; omega), k2 en H2 (s1.trans s2)⟩
      | true =>
        have en : lenV x = .int ((dv (lnum x) : Int) * (u : Int)) := by unfold lenV; rw [show lunit x = .int (u : Int) from e, f]; rfl
        obtain ⟨a1, a2, a3⟩ := num_figs f
        refine iteF ?_
        refine ⟨_, rfl, lnum x, _, rfl, figs_read a1 a2 (by omega), by omega, _, rfl, _, _, rfl, rfl, IntMulOk.of_right (intBits_le_64 (by omega) (by omega)), ?_⟩
        exact q_of (k1 (by rw [en]; intro z; cases z) H2 (s1.trans s2)) en

theorem sc_law_sign_by : FnScope ["_law_cell", "_law_some"] ["_law_cell"] (defScope s_law_sign_by) := ⟨rfl, rfl, rfl, by decide +kernel, rfl, by decide +kernel, by decide +kernel⟩
theorem ok_law_sign_by {f : Addr} {fd : FuncData} (F : Fun K "_law_sign_by" "_law_sign_by" s_law_sign_by f fd) (T : Txt K mg t_YEAR_DAYS t_MONTH_DAYS t_YEAR_MONTHS t_MOST_FIGURES t_FIGURES C_HallError C_NoDay C_NoLength C_HeldTwice C_NoBook C_NoRow C_NoSeries C_NoTerm C_PutTwice C_RunBack C_TooWide C_Unlike) : FnOk P w K mg base CX0 1 f fd ["_law_cell"] sp_law_sign_by := by
  refine F.ok sc_law_sign_by (fun vs H Q E h => ?_) (fun cdv A outer s H vs Q E hr h => ?_)
  · obtain ⟨c, rfl, _⟩ := h
    rfl
  · obtain ⟨c, rfl, k⟩ := h
    have l5 := line5
    have m0 := Int.emod_nonneg c (show (95 : Int) ≠ 0 by decide)
    have m1 := Int.emod_lt_of_pos c (show (0 : Int) < 95 by decide)
    obtain ⟨d, ed⟩ := atI_some (xs := someSigns.cps.toList) (i := c % 95) (by rw [Array.length_toList]; show -((someSigns.length : Nat) : Int) ≤ _; rw [some_len]; omega) (by rw [Array.length_toList]; show _ < ((someSigns.length : Nat) : Int); rw [some_len]; omega)
    obtain ⟨j, _, hj, _⟩ := atI_get ed
    refine ⟨_, (pss_cons (ps_set (i := 1) sc_law_sign_by.nd rfl (Or.inl rfl) pe_str) (pss_one (ps_ret (pe_ix ix_str (pv 1) (pe_op op_mod (pv 0) (pe_callB call_len (by rfl) T.z_len bt_len (pa_cons (pv 1) pa_nil))) (fun _ _ => rfl))))), ?_⟩
    have ps : (0 : Int) < ((someSigns.length : Nat) : Int) := by rw [some_len]; decide
    have em : c % ((someSigns.length : Nat) : Int) = c % 95 := by rw [some_len]; rfl
    refine ⟨_, rfl, _, rfl, _, rfl, _, _, rfl, ⟨by decide +kernel, rfl⟩, _, _, rfl, rfl, ps, ?_⟩
    exact ⟨someSigns, _, d, rfl, rfl, by decide +kernel, (by show atI someSigns.cps.toList (c % ((someSigns.length : Nat) : Int)) = _; rw [em]; exact ed), k d H (some_ok d (List.mem_of_getElem? hj)) (Same.refl H)⟩
theorem sc_law_bent : FnScope ["_law_text", "_law_cell", "_law_at", "_law_sign"] ["_law_text", "_law_cell"] (defScope s_law_bent) := ⟨rfl, rfl, rfl, by decide +kernel, rfl, by decide +kernel, by decide +kernel⟩
theorem ok_law_bent {f : Addr} {fd : FuncData} (F : Fun K "_law_bent" "_law_bent" s_law_bent f fd) (T : Txt K mg t_YEAR_DAYS t_MONTH_DAYS t_YEAR_MONTHS t_MOST_FIGURES t_FIGURES C_HallError C_NoDay C_NoLength C_HeldTwice C_NoBook C_NoRow C_NoSeries C_NoTerm C_PutTwice C_RunBack C_TooWide C_Unlike) (c_law_sign_by : Cal P w K mg base CX0 1 "_law_sign_by" ["_law_cell"] sp_law_sign_by) : FnOk P w K mg base CX0 2 f fd ["_law_text", "_law_cell"] sp_law_bent := by
  refine F.ok sc_law_bent (fun vs H Q E h => ?_) (fun cdv A outer s H vs Q E hr h => ?_)
  · obtain ⟨x, c, rfl, _⟩ := h
    rfl
  · obtain ⟨x, c, rfl, hx, hok, k⟩ := h
    have l5 := line5
    have hz : x.length ≤ sizeLine := by omega
    have sl : ∀ a b, (Txt.slice x a b).length ≤ x.length := fun a b => Txt.slice_le x a b
    have one : ∀ d : Nat, (⟨#[d]⟩ : Str).length = 1 := fun _ => rfl
    refine ⟨_, (pss_cons (ps_set (i := 2) sc_law_bent.nd rfl (Or.inl rfl) (pe_op op_mod (pe_op op_fdiv (pv 1) pe_int) (pe_op op_add (pe_callB call_len (by rfl) T.z_len bt_len (pa_cons (pv 0) pa_nil)) pe_int))) (pss_cons (ps_set (i := 3) sc_law_bent.nd rfl (Or.inl rfl) (pe_fn c_law_sign_by (hr.mono (by omega)) rfl pass0 (pa_cons (pe_op op_fdiv (pv 1) pe_int) pa_nil))) (pss_cons (ps_if (pt_cmpR op_eq (pe_op op_mod (pv 1) pe_int) pe_int (nomark _)) (pss_one (ps_ret (pe_op op_add_str (pe_op op_add_str (pe_slice sl_str (pv 0) po_none (po_some (pv 2))) (pv 3)) (pe_slice sl_str (pv 0) (po_some (pv 2)) po_none)))) pss_nil) (pss_cons (ps_if (pt_cmpR op_eq (pe_op op_mod (pv 1) pe_int) pe_int (nomark _)) (pss_one (ps_ret (pe_op op_add_str (pe_slice sl_str (pv 0) po_none (po_some (pv 2))) (pe_slice sl_str (pv 0) (po_some (pe_op op_add (pv 2) pe_int)) po_none)))) pss_nil) (pss_cons (ps_if (pt_cmpR op_eq (pe_op op_mod (pv 1) pe_int) pe_int (nomark _)) (pss_one (ps_ret (pe_op op_add_str (pe_op op_add_str (pe_slice sl_str (pv 0) po_none (po_some (pv 2))) (pv 3)) (pe_slice sl_str (pv 0) (po_some (pe_op op_add (pv 2) pe_int)) po_none)))) pss_nil) (pss_one (ps_ret (pv 0)))))))), ?_⟩
    refine ⟨_, rfl, _, _, rfl, rfl, ⟨by decide, by decide⟩, _, rfl, _, _, rfl, ⟨hz, rfl⟩, _, _, rfl, rfl, _, _, rfl, rfl, (by show (0 : Int) < ((x.length : Nat) : Int) + 1; omega), ?_⟩
    refine ⟨_, rfl, _, _, rfl, rfl, ⟨by decide, by decide⟩, _, rfl, fun d H1 hd s1 => ?_⟩
    have od := one_ok hd
    refine ⟨_, rfl, _, _, rfl, rfl, (by show (0 : Int) < 4; decide), rfl, _, rfl, ite2 (fun _ => ?_) (fun _ => ?_)⟩
    · have a1 := sl none (some (c / 4 % (((x.length : Nat) : Int) + 1)))
      have a2 := sl (some (c / 4 % (((x.length : Nat) : Int) + 1))) none
      refine ⟨_, rfl, _, rfl, _, rfl, _, rfl, hz, _, rfl, _, _, rfl, rfl, (by show _ + 1 ≤ sizeLine; omega), _, rfl, _, rfl, _, rfl, _, rfl, hz, _, _, rfl, rfl, (by rw [strLen_append, one]; omega), k _ H1 (by rw [strLen_append, strLen_append, one]; omega) (app_ok (app_ok (slice_ok hok _ _) od) (slice_ok hok _ _)) s1⟩
    · refine ⟨_, rfl, _, _, rfl, rfl, (by show (0 : Int) < 4; decide), rfl, _, rfl, ite2 (fun _ => ?_) (fun _ => ?_)⟩
      · have a1 := sl none (some (c / 4 % (((x.length : Nat) : Int) + 1)))
        have a2 := sl (some (c / 4 % (((x.length : Nat) : Int) + 1) + 1)) none
        exact ⟨_, rfl, _, rfl, _, rfl, _, rfl, hz, _, rfl, _, rfl, _, _, rfl, rfl, _, rfl, _, rfl, hz, _, _, rfl, rfl, by omega, k _ H1 (by rw [strLen_append]; omega) (app_ok (slice_ok hok _ _) (slice_ok hok _ _)) s1⟩
      · refine ⟨_, rfl, _, _, rfl, rfl, (by show (0 : Int) < 4; decide), rfl, _, rfl, ite2 (fun _ => ?_) (fun _ => ?_)⟩
        · have a1 := sl none (some (c / 4 % (((x.length : Nat) : Int) + 1)))
          have a2 := sl (some (c / 4 % (((x.length : Nat) : Int) + 1) + 1)) none
          exact ⟨_, rfl, _, rfl, _, rfl, _, rfl, hz, _, rfl, _, _, rfl, rfl, (by show _ + 1 ≤ sizeLine; omega), _, rfl, _, rfl, _, _, rfl, rfl, _, rfl, _, rfl, hz, _, _, rfl, rfl, (by rw [strLen_append, one]; omega), k _ H1 (by rw [strLen_append, strLen_append, one]; omega) (app_ok (app_ok (slice_ok hok _ _) od) (slice_ok hok _ _)) s1⟩
        · exact ⟨_, rfl, k x H1 (by omega) hok s1⟩
theorem sc_law_figures : FnScope ["_law_text", "_law_most", "_law_sign"] ["_law_text", "_law_most"] (defScope s_law_figures) := ⟨rfl, rfl, rfl, by decide +kernel, rfl, by decide +kernel, by decide +kernel⟩
theorem ok_law_figures {f : Addr} {fd : FuncData} (F : Fun K "_law_figures" "_law_figures" s_law_figures f fd) (T : Txt K mg t_YEAR_DAYS t_MONTH_DAYS t_YEAR_MONTHS t_MOST_FIGURES t_FIGURES C_HallError C_NoDay C_NoLength C_HeldTwice C_NoBook C_NoRow C_NoSeries C_NoTerm C_PutTwice C_RunBack C_TooWide C_Unlike) : FnOk P w K mg base CX0 1 f fd ["_law_text", "_law_most"] sp_law_figures := by
  refine F.ok sc_law_figures (fun vs H Q E h => ?_) (fun cdv A outer s H vs Q E hr h => ?_)
  · obtain ⟨x, m, rfl, _⟩ := h
    rfl
  · obtain ⟨x, m, rfl, hx, k⟩ := h
    have hz := Nat.le_trans hx line5
    have hl : x.cps.toList.length = x.length := by rw [Array.length_toList]; rfl
    refine ⟨_, (pss_cons (ps_if (PW.pt (pw_or (pt_cmpR op_lt (pe_callB call_len (by rfl) T.z_len bt_len (pa_cons (pv 0) pa_nil)) pe_int (nomark _)) (pw_or1 (pt_cmpR op_gt (pe_callB call_len (by rfl) T.z_len bt_len (pa_cons (pv 0) pa_nil)) (pv 1) (nomark _))))) (pss_one (ps_ret pe_bl)) pss_nil) (pss_cons (ps_for PassesOwn.never rfl (pi_str (pv 0)) (pg_name (i := 2) sc_law_figures.nd rfl (Or.inl rfl)) (pss_one (ps_if (pt_cmpR op_notin_str (pv 2) pe_str rfl) (pss_one (ps_ret pe_bl)) pss_nil))) (pss_one (ps_ret pe_bl)))), ?_⟩
    refine ⟨_, rfl, _, _, rfl, ⟨hz, rfl⟩, _, _, rfl, rfl, _, rfl, ite2 (fun e => iteT ?_) (fun e => ?_)⟩
    · have e : ((x.length : Nat) : Int) < 1 := of_decide_eq_true e
      exact q_of (k H (Same.refl H)) (by unfold figsUp; rw [decide_eq_false (show ¬ 1 ≤ x.length by omega)]; rfl)
    · have e : ¬ ((x.length : Nat) : Int) < 1 := fun z => e (decide_eq_true z)
      refine ⟨_, rfl, _, _, rfl, ⟨hz, rfl⟩, _, rfl, _, _, rfl, rfl, _, rfl, ite2 (fun e2 => ?_) (fun e2 => ?_)⟩
      · have e2 : (m : Int) < ((x.length : Nat) : Int) := of_decide_eq_true e2
        exact q_of (k H (Same.refl H)) (by unfold figsUp; rw [decide_eq_false (show ¬ x.length ≤ m by omega)]; simp)
      · have e2 : ¬ (m : Int) < ((x.length : Nat) : Int) := fun z => e2 (decide_eq_true z)
        have ev : figsUp x m = x.cps.toList.all (inS c_FIGURES) := by
          unfold figsUp
          rw [decide_eq_true (show 1 ≤ x.length by omega), decide_eq_true (show x.length ≤ m by omega)]
          rfl
        refine ⟨_, rfl, x, rfl, for_str (fun i σ H' => ∃ v, σ = [some (.str x), some (.int (m : Int)), v] ∧ H' = H ∧ (x.cps.toList.take i).all (inS c_FIGURES) = true) ?_ ?_ ?_⟩
        · exact ⟨none, rfl, rfl, by simp⟩
        · rintro i c σ H1 hc ⟨v, rfl, rfl, ha⟩
          refine ⟨_, rfl, _, _, rfl, rfl, _, rfl, ?_⟩
          show if (!(inS c_FIGURES c)) = true then _ else _
          have e3 : x.cps.toList[i]? = some c := by rw [Array.getElem?_toList]; exact hc
          cases q : inS c_FIGURES c with
          | false =>
            refine iteT ?_
            have af : x.cps.toList.all (inS c_FIGURES) = false := by
              rw [List.all_eq_false]
              exact ⟨c, List.mem_of_getElem? e3, by rw [q]; exact Bool.false_ne_true⟩
            exact q_of (k _ (Same.refl _)) (by rw [ev, af])
          | true =>
            refine iteF ⟨_, rfl, rfl, ?_⟩
            rw [List.take_add_one, e3, List.all_append, ha]
            simp [q]
        · rintro σ H1 ⟨v, rfl, rfl, ha⟩
          rw [List.take_of_length_le (by rw [hl]; exact Nat.le_refl _)] at ha
          exact q_of (k _ (Same.refl _)) (by rw [ev, ha])
theorem sc_law_number : FnScope ["_law_text"] ["_law_text"] (defScope s_law_number) := ⟨rfl, rfl, rfl, by decide +kernel, rfl, by decide +kernel, by decide +kernel⟩
theorem ok_law_number {f : Addr} {fd : FuncData} (F : Fun K "_law_number" "_law_number" s_law_number f fd) (T : Txt K mg t_YEAR_DAYS t_MONTH_DAYS t_YEAR_MONTHS t_MOST_FIGURES t_FIGURES C_HallError C_NoDay C_NoLength C_HeldTwice C_NoBook C_NoRow C_NoSeries C_NoTerm C_PutTwice C_RunBack C_TooWide C_Unlike) (c_law_figures : Cal P w K mg base CX0 1 "_law_figures" ["_law_text", "_law_most"] sp_law_figures) : FnOk P w K mg base CX0 2 f fd ["_law_text"] sp_law_number := by
  refine F.ok sc_law_number (fun vs H Q E h => ?_) (fun cdv A outer s H vs Q E hr h => ?_)
  · obtain ⟨x, rfl, _⟩ := h
    rfl
  · obtain ⟨x, rfl, hx, k⟩ := h
    have hz := Nat.le_trans hx line5
    refine ⟨_, (pss_one (ps_ret (pe_and (pe_fn c_law_figures (hr.mono (by omega)) rfl pass0 (pa_cons (pv 0) (pa_cons pe_int pa_nil))) (pe_one (pe_or (pe_cmpR op_eq (pv 0) pe_str (nomark _)) (pe_one (pe_cmpR op_ne (pe_ix ix_str (pv 0) pe_int (fun _ _ => rfl)) pe_str (nomark _)))))))), ?_⟩
    have nu := num_up x
    refine ⟨_, rfl, x, 40, rfl, hx, fun H1 s1 => ⟨_, rfl, ?_⟩⟩
    cases f : figsUp x 40 with
    | false => exact iteF (q_of (k H1 s1) (by rw [nu, f]; rfl))
    | true =>
      refine iteT ?_
      rw [f, Bool.true_and] at nu
      have q := k H1 s1
      rw [nu] at q
      refine ⟨_, rfl, rfl, _, rfl, ?_⟩
      by_cases z : x = ⟨#[48]⟩
      · rw [decide_eq_true z, Bool.true_or] at q
        refine iteS (by rw [z, ← lit0]) ?_
        exact q
      · have ez : decide (V.str x = V.str (Str.ofString "0")) = false := decide_eq_false (fun y => z ((V.str.inj y).trans lit0))
        show if decide (V.str x = V.str (Str.ofString "0")) = true then _ else _
        rw [ez]
        refine iteF ?_
        have l1 : 1 ≤ x.length := by
          unfold figsUp at f
          rw [Bool.and_eq_true, Bool.and_eq_true] at f
          exact of_decide_eq_true f.1.1
        obtain ⟨c, hc⟩ := atI_some (xs := x.cps.toList) (i := 0) (by omega) (by rw [Array.length_toList]; show (0 : Int) < ((x.length : Nat) : Int); omega)
        have hh : (cs x).head? = some c := atI_head hc
        rw [decide_eq_false z, Bool.false_or, hh] at q
        refine ⟨_, rfl, x, 0, c, rfl, rfl, hz, hc, rfl, q_of q ?_⟩
        show V.bl _ = V.bl (!decide (V.str ⟨#[c]⟩ = V.str (Str.ofString "0")))
        congr 2
        by_cases e : c = 48
        · rw [decide_eq_true (show some c = some 48 by rw [e]), decide_eq_true ((one_zero c).mpr e)]
        · rw [decide_eq_false (show ¬ some c = some 48 from fun y => e (Option.some.inj y)), decide_eq_false (fun y => e ((one_zero c).mp y))]

theorem lit_empty : Str.ofString "" = Str.empty := by decide
theorem day_none {x : Str} (h : isDay (bars x) = false) : dueV x = .non := by unfold dueV; rw [h]; rfl
theorem two_up {b : Str} {m : Nat} (h : isTwo b m = true) : b.length = 2 ∧ figsUp b 2 = true ∧ 1 ≤ dv b ∧ dv b ≤ m := by
  obtain ⟨h1, h2, h3, h4⟩ := two_figs h
  refine ⟨h2, ?_, h3, h4⟩
  unfold figsUp
  rw [h1, h2]
  rfl
theorem two_of {b : Str} {m : Nat} (h1 : b.length = 2) (h2 : figsUp b 2 = true) (h3 : 1 ≤ dv b) (h4 : dv b ≤ m) : isTwo b m = true := by
  unfold figsUp at h2
  rw [Bool.and_eq_true] at h2
  unfold isTwo
  rw [decide_eq_true h1, h2.2, decide_eq_true h3, decide_eq_true h4]
  rfl
theorem bar_no : inS c_FIGURES 45 = false := by decide +kernel
/-- three parts, the last one whatever -/
theorem day_three {a b c x : Str} (h : bars x = a :: b :: bars c) : isDay (bars x) = (isNum a && isTwo b 12 && isTwo c 30) := by
  rw [h]
  by_cases n : 45 ∈ cs c
  · have f : isTwo c 30 = false := by
      cases q : isTwo c 30 with
      | false => rfl
      | true =>
        have z := List.all_eq_true.mp (two_figs q).1 45 n
        rw [bar_no] at z
        cases z
    rw [f, Bool.and_false]
    rcases part_one c 45 with ⟨n0, _⟩ | ⟨u, v, e, nu, _⟩
    · exact absurd n n0
    · rw [show bars c = u :: bars v from split_step e nu]
      cases q : bars v with
      | nil => exact absurd q (split_ne v 45)
      | cons _ _ => rfl
  · rw [show bars c = [c] from split_none n]
    rfl
theorem day_three_v {a b c x : Str} (h : bars x = a :: b :: bars c) (d : isDay (bars x) = true) : dueV x = .int (((dv a * 12 + dv b : Nat) : Int) * 30 + (dv c : Int) - 31) := by
  have d' := d
  rw [day_three h, Bool.and_eq_true] at d'
  have n : 45 ∉ cs c := fun n => by
    have z := List.all_eq_true.mp (two_figs d'.2).1 45 n
    rw [bar_no] at z
    cases z
  unfold dueV
  rw [if_pos d, h, show bars c = [c] from split_none n]
  rfl
theorem sc_law_day_due : FnScope ["_law_text", "_law_year", "_law_bar", "_law_rest", "_law_month", "_law_other", "_law_last"] ["_law_text"] (defScope s_law_day_due) := ⟨rfl, rfl, rfl, by decide +kernel, rfl, by decide +kernel, by decide +kernel⟩
theorem ok_law_day_due {f : Addr} {fd : FuncData} (F : Fun K "_law_day_due" "_law_day_due" s_law_day_due f fd) (T : Txt K mg t_YEAR_DAYS t_MONTH_DAYS t_YEAR_MONTHS t_MOST_FIGURES t_FIGURES C_HallError C_NoDay C_NoLength C_HeldTwice C_NoBook C_NoRow C_NoSeries C_NoTerm C_PutTwice C_RunBack C_TooWide C_Unlike) (c_law_figures : Cal P w K mg base CX0 1 "_law_figures" ["_law_text", "_law_most"] sp_law_figures) (c_law_number : Cal P w K mg base CX0 2 "_law_number" ["_law_text"] sp_law_number) : FnOk P w K mg base CX0 3 f fd ["_law_text"] sp_law_day_due := by
  refine F.ok sc_law_day_due (fun vs H Q E h => ?_) (fun cdv A outer s H vs Q E hr h => ?_)
  · obtain ⟨x, rfl, _⟩ := h
    rfl
  · obtain ⟨x, rfl, hx, k⟩ := h
    have l5 := line5
    refine ⟨_, (pss_cons (ps_asg (pe_bm PySem.F.plainAttrs_str PySem.F.slot_str_partition PySem.F.type_str_partition mt_s_partition (pv 0) (pa_cons pe_str pa_nil)) (pg_tup rfl (pgs_cons (pg_name (i := 1) sc_law_day_due.nd rfl (Or.inl rfl)) (pgs_cons (pg_name (i := 2) sc_law_day_due.nd rfl (Or.inl rfl)) (pgs_cons (pg_name (i := 3) sc_law_day_due.nd rfl (Or.inl rfl)) pgs_nil))))) (pss_cons (ps_asg (pe_bm PySem.F.plainAttrs_str PySem.F.slot_str_partition PySem.F.type_str_partition mt_s_partition (pv 3) (pa_cons pe_str pa_nil)) (pg_tup rfl (pgs_cons (pg_name (i := 4) sc_law_day_due.nd rfl (Or.inl rfl)) (pgs_cons (pg_name (i := 5) sc_law_day_due.nd rfl (Or.inl rfl)) (pgs_cons (pg_name (i := 6) sc_law_day_due.nd rfl (Or.inl rfl)) pgs_nil))))) (pss_cons (ps_if (PW.pt (pw_or (pt_cmpR op_eq (pv 2) pe_str (nomark _)) (pw_or (pt_cmpR op_eq (pv 5) pe_str (nomark _)) (pw_or1 (pt_not (pt_val (pe_fn c_law_number (hr.mono (by omega)) rfl pass0 (pa_cons (pv 1) pa_nil)))))))) (pss_one (ps_ret pe_non)) pss_nil) (pss_cons (ps_if (PW.pt (pw_or (pt_cmpR op_ne (pe_callB call_len (by rfl) T.z_len bt_len (pa_cons (pv 4) pa_nil)) pe_int (nomark _)) (pw_or (pt_cmpR op_ne (pe_callB call_len (by rfl) T.z_len bt_len (pa_cons (pv 6) pa_nil)) pe_int (nomark _)) (pw_or (pt_not (pt_val (pe_fn c_law_figures (hr.mono (by omega)) rfl pass0 (pa_cons (pv 4) (pa_cons pe_int pa_nil))))) (pw_or1 (pt_not (pt_val (pe_fn c_law_figures (hr.mono (by omega)) rfl pass0 (pa_cons (pv 6) (pa_cons pe_int pa_nil)))))))))) (pss_one (ps_ret pe_non)) pss_nil) (pss_cons (ps_if (PW.pt (pw_or (pt_not (pt_chain op_le op_le pe_int (pe_callTy call_int_str (by rfl) T.z_int bt_int (pa_cons (pv 4) pa_nil)) pe_int )) (pw_or1 (pt_not (pt_chain op_le op_le pe_int (pe_callTy call_int_str (by rfl) T.z_int bt_int (pa_cons (pv 6) pa_nil)) pe_int ))))) (pss_one (ps_ret pe_non)) pss_nil) (pss_one (ps_ret (pe_op op_sub (pe_op op_add (pe_op op_add (pe_op op_mulK pe_int (pe_callTy call_int_str (by rfl) T.z_int bt_int (pa_cons (pv 1) pa_nil))) (pe_op op_mulK pe_int (pe_callTy call_int_str (by rfl) T.z_int bt_int (pa_cons (pv 4) pa_nil)))) (pe_callTy call_int_str (by rfl) T.z_int bt_int (pa_cons (pv 6) pa_nil))) pe_int)))))))), ?_⟩
    refine ⟨_, rfl, rfl, x, 45, rfl, by rw [litbar], by omega, fun p hp => ⟨p, _, rfl, SqT.of upd_same, rfl, _, _, rfl, _, _, rfl, _, _, rfl, rfl, ?_⟩⟩
    have sp := same_upd (o := .tup [V.str (Txt.partition x ⟨#[45]⟩).1, V.str (Txt.partition x ⟨#[45]⟩).2.1, V.str (Txt.partition x ⟨#[45]⟩).2.2]) hp
    have lenx : ∀ {z y : Str} {c : Nat}, cs x = cs z ++ c :: cs y → z.length ≤ 5000 ∧ y.length ≤ 5000 := fun {z y c} e => by
      have := congrArg List.length e
      rw [List.length_append, List.length_cons, ← len_cs, ← len_cs, ← len_cs] at this
      omega
    have no : ∀ H', Same H H' → isDay (bars x) = false → Q .non H' := fun H' s' d => by
      have := k H' s'
      rw [day_none d] at this
      exact this
    rcases part_one x 45 with ⟨n0, e0⟩ | ⟨a, r, ex, na, e0⟩
    · rw [e0] at sp ⊢
      refine ⟨_, rfl, rfl, Str.empty, 45, rfl, by rw [litbar], Nat.zero_le _, fun p2 hp2 => ⟨p2, _, rfl, SqT.of upd_same, rfl, _, _, rfl, _, _, rfl, _, _, rfl, rfl, ?_⟩⟩
      refine ⟨_, rfl, rfl, _, rfl, iteS (by rw [lit_empty]) (iteT ?_)⟩
      exact no _ (sp.trans (same_upd hp2)) (by rw [show bars x = [x] from split_none n0]; rfl)
    · have bx : bars x = a :: bars r := split_step ex na
      obtain ⟨la, lr⟩ := lenx ex
      rw [e0] at sp ⊢
      refine ⟨_, rfl, rfl, r, 45, rfl, by rw [litbar], by omega, fun p2 hp2 => ⟨p2, _, rfl, SqT.of upd_same, rfl, _, _, rfl, _, _, rfl, _, _, rfl, rfl, ?_⟩⟩
      have barne : ¬ V.str (⟨#[45]⟩ : Str) = V.str (Str.ofString "") := by decide
      refine ⟨_, rfl, rfl, _, rfl, iteNo barne ?_⟩
      have sp2 := sp.trans (same_upd (o := .tup [V.str (Txt.partition r ⟨#[45]⟩).1, V.str (Txt.partition r ⟨#[45]⟩).2.1, V.str (Txt.partition r ⟨#[45]⟩).2.2]) hp2)
      rcases part_one r 45 with ⟨n1, e1⟩ | ⟨b, c, er, nb, e1⟩
      · rw [e1] at sp2 ⊢
        refine ⟨_, rfl, rfl, _, rfl, iteS (by rw [lit_empty]) (iteT ?_)⟩
        exact no _ sp2 (by rw [bx, show bars r = [r] from split_none n1]; rfl)
      · have b3 : bars x = a :: b :: bars c := by rw [bx, show bars r = b :: bars c from split_step er nb]
        have d3 := day_three b3
        have lbc : b.length ≤ 5000 ∧ c.length ≤ 5000 := by
          have := congrArg List.length er
          rw [List.length_append, List.length_cons, ← len_cs, ← len_cs, ← len_cs] at this
          omega
        rw [e1] at sp2 ⊢
        refine ⟨_, rfl, rfl, _, rfl, iteNo barne ?_⟩
        refine ⟨_, rfl, a, rfl, by omega, fun H3 s3 => ⟨_, rfl, ?_⟩⟩
        have s13 := sp2.trans s3
        cases fa : isNum a with
        | false => exact iteT (no _ s13 (by rw [d3, fa]; rfl))
        | true =>
          refine iteF ?_
          refine ⟨_, rfl, _, _, rfl, ⟨(by show b.length ≤ sizeLine; omega), rfl⟩, rfl, _, rfl, ?_⟩
          by_cases eb : b.length = 2
          · refine iteNS (by rw [eb]; rfl) ?_
            refine ⟨_, rfl, _, _, rfl, ⟨(by show c.length ≤ sizeLine; omega), rfl⟩, rfl, _, rfl, ?_⟩
            by_cases ec : c.length = 2
            · refine iteNS (by rw [ec]; rfl) ?_
              refine ⟨_, rfl, b, 2, rfl, by omega, fun H4 s4 => ⟨_, rfl, ?_⟩⟩
              have s14 := s13.trans s4
              cases fb : figsUp b 2 with
              | false =>
                have nb : isTwo b 12 = false := Bool.eq_false_iff.mpr fun z => by rw [(two_up z).2.1] at fb; cases fb
                exact iteT (iteT (no _ s14 (by rw [d3, nb, Bool.and_false, Bool.false_and])))
              | true =>
                refine iteF ?_
                refine ⟨_, rfl, c, 2, rfl, by omega, fun H5 s5 => ⟨_, rfl, ?_⟩⟩
                have s15 := s14.trans s5
                cases fc : figsUp c 2 with
                | false =>
                  have nc : isTwo c 30 = false := Bool.eq_false_iff.mpr fun z => by rw [(two_up z).2.1] at fc; cases fc
                  exact iteT (no _ s15 (by rw [d3, nc, Bool.and_false]))
                | true =>
                  refine iteF ?_
                  have up : ∀ {z : Str}, figsUp z 2 = true → z.cps.toList.all (inS c_FIGURES) = true := fun {z} h => by
                    unfold figsUp at h
                    exact (Bool.and_eq_true_iff.mp h).2
                  have rb := figs_read (up fb) (by omega) (by omega)
                  have rc := figs_read (up fc) (by omega) (by omega)
                  obtain ⟨a1, a2, a3⟩ := num_figs fa
                  have ra := figs_read a1 a2 (by omega)
                  refine ⟨_, rfl, b, _, rfl, rb, by omega, _, _, rfl, rfl, _, rfl, ite2 (fun m1 => ?_) (fun m1 => ?_)⟩
                  · have m1 : (1 : Int) ≤ (dv b : Int) := of_decide_eq_true m1
                    refine ⟨_, _, rfl, rfl, _, rfl, ?_⟩
                    by_cases m2 : (dv b : Int) ≤ 12
                    · show if (!decide ((dv b : Int) ≤ 12)) = true then _ else _
                      rw [decide_eq_true m2]
                      refine iteF ?_
                      refine ⟨_, rfl, c, _, rfl, rc, by omega, _, _, rfl, rfl, _, rfl, ite2 (fun n1 => ?_) (fun n1 => ?_)⟩
                      · have n1 : (1 : Int) ≤ (dv c : Int) := of_decide_eq_true n1
                        refine ⟨_, _, rfl, rfl, _, rfl, ?_⟩
                        by_cases n2 : (dv c : Int) ≤ 30
                        · show if (!decide ((dv c : Int) ≤ 30)) = true then _ else _
                          rw [decide_eq_true n2]
                          refine iteF ?_
                          have d : isDay (bars x) = true := by rw [d3, fa, two_of eb fb (by omega) (by omega), two_of ec fc (by omega) (by omega)]; rfl
                          have q := k _ s15
                          rw [day_three_v b3 d] at q
                          refine ⟨_, rfl, a, _, rfl, ra, by omega, _, _, rfl, rfl, IntMulOk.of_left (intBits_le_64 (by decide) (by decide)), _, rfl, b, _, rfl, rb, by omega, _, _, rfl, rfl, IntMulOk.of_left (intBits_le_64 (by decide) (by decide)),
                            _, _, rfl, rfl, _, rfl, c, _, rfl, rc, by omega, _, _, rfl, rfl, _, _, rfl, rfl, q_of q ?_⟩
                          show V.int _ = V.int _
                          congr 1
                          omega
                        · have nc : isTwo c 30 = false := Bool.eq_false_iff.mpr fun z => n2 (by have := (two_up z).2.2.2; omega)
                          show if (!decide ((dv c : Int) ≤ 30)) = true then _ else _
                          rw [decide_eq_false n2]
                          exact iteT (no _ s15 (by rw [d3, nc, Bool.and_false]))
                      · have n1 : ¬ (1 : Int) ≤ (dv c : Int) := fun z => n1 (decide_eq_true z)
                        have nc : isTwo c 30 = false := Bool.eq_false_iff.mpr fun z => n1 (by have := (two_up z).2.2.1; omega)
                        exact ⟨_, rfl, iteT (no _ s15 (by rw [d3, nc, Bool.and_false]))⟩
                    · have nb : isTwo b 12 = false := Bool.eq_false_iff.mpr fun z => m2 (by have := (two_up z).2.2.2; omega)
                      show if (!decide ((dv b : Int) ≤ 12)) = true then _ else _
                      rw [decide_eq_false m2]
                      exact iteT (iteT (no _ s15 (by rw [d3, nb, Bool.and_false, Bool.false_and])))
                  · have m1 : ¬ (1 : Int) ≤ (dv b : Int) := fun z => m1 (decide_eq_true z)
                    have nb : isTwo b 12 = false := Bool.eq_false_iff.mpr fun z => m1 (by have := (two_up z).2.2.1; omega)
                    exact ⟨_, rfl, iteT (iteT (no _ s15 (by rw [d3, nb, Bool.and_false, Bool.false_and])))⟩
            · have ne : ¬ V.int ((c.length : Nat) : Int) = V.int 2 := fun z => ec (by injection z with z; omega)
              have nc : isTwo c 30 = false := Bool.eq_false_iff.mpr fun z => ec (two_up z).1
              show if (!decide (V.int ((c.length : Nat) : Int) = V.int 2)) = true then _ else _
              rw [decide_eq_false ne]
              exact iteT (iteT (no _ s13 (by rw [d3, nc, Bool.and_false])))
          · have ne : ¬ V.int ((b.length : Nat) : Int) = V.int 2 := fun z => eb (by injection z with z; omega)
            have nb : isTwo b 12 = false := Bool.eq_false_iff.mpr fun z => eb (two_up z).1
            show if (!decide (V.int ((b.length : Nat) : Int) = V.int 2)) = true then _ else _
            rw [decide_eq_false ne]
            exact iteT (iteT (no _ s13 (by rw [d3, nb, Bool.and_false, Bool.false_and])))
theorem last_part {x : Str} (h : x.length ≠ 0) : ∃ (z : Str) (c : Nat), x = z ++ ⟨#[c]⟩ := by
  have ne : cs x ≠ [] := fun z => h (by rw [len_cs, z]; rfl)
  refine ⟨⟨(cs x).dropLast.toArray⟩, (cs x).getLast ne, ext ?_⟩
  rw [cs_app, cs_one]
  exact (List.dropLast_concat_getLast ne).symm
theorem last_at' (z : Str) (c : Nat) : atI (z ++ ⟨#[c]⟩ : Str).cps.toList (-1) = some c := by
  have e : (z ++ ⟨#[c]⟩ : Str).cps.toList = cs z ++ [c] := cs_app z ⟨#[c]⟩
  rw [e]
  unfold atI ixN
  rw [if_neg (by decide), if_pos (by rw [List.length_append]; show -(((cs z).length + 1 : Nat) : Int) ≤ -1; omega), List.length_append, show (-1 + (((cs z).length + [c].length : Nat) : Int)).toNat = (cs z).length by show (-1 + (((cs z).length + 1 : Nat) : Int)).toNat = _; omega]
  simp
theorem ymd_cs : cs (Str.ofString "ymd") = [121, 109, 100] := by decide +kernel
theorem unit_out {c : Nat} (h : inS (Str.ofString "ymd") c = false) : unitV ⟨#[c]⟩ = .non := by
  have n : ¬ c ∈ cs (Str.ofString "ymd") := fun m => by rw [(inS_iff _ _).mpr m] at h; cases h
  rw [ymd_cs] at n
  simp only [List.mem_cons, List.not_mem_nil, or_false, not_or] at n
  have one : ∀ d : Nat, (⟨#[c]⟩ : Str) = ⟨#[d]⟩ → c = d := fun d e => by injection e with e; have e : [c] = [d] := congrArg Array.toList e; injection e
  unfold unitV
  rw [show Str.ofString "y" = ⟨#[121]⟩ by decide, show Str.ofString "m" = ⟨#[109]⟩ by decide, show Str.ofString "d" = ⟨#[100]⟩ by decide, if_neg (fun e => n.1 (one _ e)), if_neg (fun e => n.2.1 (one _ e)), if_neg (fun e => n.2.2 (one _ e))]
theorem unit_in {c : Nat} (h : inS (Str.ofString "ymd") c = true) : ∃ (u i : Nat) (rest : List Nat), unitV ⟨#[c]⟩ = .int (u : Int) ∧ Builtin.Str.occurrences (Str.ofString "ymd") ⟨#[c]⟩ 0 (Str.ofString "ymd").length 1 = i :: rest ∧ atI [V.int 360, .int 30, .int 1] (i : Int) = some (.int (u : Int)) ∧ u ≤ 360 := by
  have m := (inS_iff _ _).mp h
  rw [ymd_cs] at m
  simp only [List.mem_cons, List.not_mem_nil, or_false] at m
  rcases m with rfl | rfl | rfl
  · exact ⟨360, 0, [], by decide, by decide +kernel, rfl, by decide⟩
  · exact ⟨30, 1, [], by decide, by decide +kernel, rfl, by decide⟩
  · exact ⟨1, 2, [], by decide, by decide +kernel, rfl, by decide⟩
theorem sc_law_length_due : FnScope ["_law_text"] ["_law_text"] (defScope s_law_length_due) := ⟨rfl, rfl, rfl, by decide +kernel, rfl, by decide +kernel, by decide +kernel⟩
theorem ok_law_length_due {f : Addr} {fd : FuncData} (F : Fun K "_law_length_due" "_law_length_due" s_law_length_due f fd) (T : Txt K mg t_YEAR_DAYS t_MONTH_DAYS t_YEAR_MONTHS t_MOST_FIGURES t_FIGURES C_HallError C_NoDay C_NoLength C_HeldTwice C_NoBook C_NoRow C_NoSeries C_NoTerm C_PutTwice C_RunBack C_TooWide C_Unlike) (c_law_number : Cal P w K mg base CX0 2 "_law_number" ["_law_text"] sp_law_number) : FnOk P w K mg base CX0 3 f fd ["_law_text"] sp_law_length_due := by
  refine F.ok sc_law_length_due (fun vs H Q E h => ?_) (fun cdv A outer s H vs Q E hr h => ?_)
  · obtain ⟨x, rfl, _⟩ := h
    rfl
  · obtain ⟨x, rfl, hx, k⟩ := h
    have l5 := line5
    refine ⟨_, (pss_cons (ps_if (PW.pt (pw_or (pt_not (pt_val (pe_fn c_law_number (hr.mono (by omega)) rfl pass0 (pa_cons (pe_slice sl_str (pv 0) po_none (po_some (pe_un un_neg pe_int))) pa_nil)))) (pw_or1 (pt_cmpR op_notin_str (pe_ix ix_str (pv 0) (pe_un un_neg pe_int) (fun _ _ => rfl)) pe_str rfl)))) (pss_one (ps_ret pe_non)) pss_nil) (pss_one (ps_ret (pe_op op_mulK (pe_callTy call_int_str (by rfl) T.z_int bt_int (pa_cons (pe_slice sl_str (pv 0) po_none (po_some (pe_un un_neg pe_int))) pa_nil)) (pe_ix ix_list (pe_lst (pa_cons pe_int (pa_cons pe_int (pa_cons pe_int pa_nil)))) (pe_bm PySem.F.plainAttrs_str PySem.F.slot_str_index PySem.F.type_str_index mt_s_index pe_str (pa_cons (pe_ix ix_str (pv 0) (pe_un un_neg pe_int) (fun _ _ => rfl)) pa_nil)) (fun _ _ => rfl)))))), ?_⟩
    have hz : x.length ≤ sizeLine := by omega
    have ln : (lnum x).length ≤ x.length := Txt.slice_le x none (some (-1))
    refine ⟨_, rfl, _, rfl, _, rfl, _, rfl, hz, lnum x, rfl, by omega, fun H1 s1 => ⟨_, rfl, ?_⟩⟩
    have q := k H1 s1
    cases f : isNum (lnum x) with
    | false =>
      have en : lenV x = .non := by
        rcases unit_cases (Txt.slice x (some (-1)) none) with e | ⟨u, e, _⟩
        · unfold lenV; rw [show lunit x = .non from e]
        · unfold lenV; rw [show lunit x = .int (u : Int) from e, f]; rfl
      rw [en] at q
      exact iteT (iteT q)
    | true =>
      refine iteF ?_
      obtain ⟨a1, a2, a3⟩ := num_figs f
      obtain ⟨z, c, rfl⟩ := last_part (x := x) (by omega)
      have e1 : lnum (z ++ ⟨#[c]⟩) = z := slice_init z c
      have e2 : lunit (z ++ ⟨#[c]⟩) = unitV ⟨#[c]⟩ := by show unitV _ = _; rw [slice_last]
      have at_ : atI (z ++ ⟨#[c]⟩ : Str).cps.toList (-1) = some c := last_at' z c
      refine ⟨_, rfl, _, rfl, _, _, c, rfl, rfl, hz, at_, _, _, rfl, rfl, _, rfl, ?_⟩
      show if (!(inS (Str.ofString "ymd") c)) = true then _ else _
      cases m : inS (Str.ofString "ymd") c with
      | false =>
        have un := unit_out m
        have en : lenV (z ++ ⟨#[c]⟩) = .non := by unfold lenV; rw [e2, un]
        rw [en] at q
        exact iteT q
      | true =>
        refine iteF ?_
        obtain ⟨u, i, rest, un, oc, ix, hu⟩ := unit_in m
        have en : lenV (z ++ ⟨#[c]⟩) = .int ((dv z : Int) * (u : Int)) := by
          rw [e1] at f
          unfold lenV
          rw [e2, un, e1]
          exact if_pos f
        rw [en] at q
        rw [e1] at a1 a2 a3
        refine ⟨_, rfl, _, rfl, _, rfl, _, rfl, hz, ?_⟩
        rw [slice_init]
        refine ⟨z, _, rfl, figs_read a1 a2 (by omega), by omega, ?_⟩
        refine ⟨(by show 3 ≤ sizeLine; omega), fun p hp => ⟨rfl, _, rfl, _, rfl, _, _, c, rfl, rfl, hz, at_, Str.ofString "ymd", ⟨#[c]⟩, i, rest, rfl, rfl, oc, p, _, _, _, rfl, rfl, SqL.of upd_same, ix, _, _, rfl, rfl, IntMulOk.of_right (intBits_le_64 (by omega) (by omega)), ?_⟩⟩
        have q := k _ (s1.trans (same_upd (o := .lst [V.int 360, .int 30, .int 1]) hp))
        rw [en] at q
        exact q

theorem sc_law_refused : FnScope ["_law_told", "_law_one"] ["_law_told", "_law_one"] (defScope s_law_refused) := ⟨rfl, rfl, rfl, by decide +kernel, rfl, by decide +kernel, by decide +kernel⟩
theorem ok_law_refused {f : Addr} {fd : FuncData} (F : Fun K "_law_refused" "_law_refused" s_law_refused f fd) (T : Txt K mg t_YEAR_DAYS t_MONTH_DAYS t_YEAR_MONTHS t_MOST_FIGURES t_FIGURES C_HallError C_NoDay C_NoLength C_HeldTwice C_NoBook C_NoRow C_NoSeries C_NoTerm C_PutTwice C_RunBack C_TooWide C_Unlike) : FnOk P w K mg base CX0 1 f fd ["_law_told", "_law_one"] (sp_law_refused C_NoDay C_NoLength) := by
  refine F.ok sc_law_refused (fun vs H Q E h => ?_) (fun cdv A outer s H vs Q E hr h => ?_)
  · obtain ⟨e, B, b, rfl, _⟩ := h
    rfl
  · obtain ⟨e, B, b, rfl, he, hb, k⟩ := h
    have l5 := line5
    refine ⟨_, (pss_cons (ps_if (PW.pt (pw_or (pt_not (pt_val (pe_callB call_isinst_x (by rfl) T.z_isinstance bt_isinstance (pa_cons (pv 0) (pa_cons (pe_bltn (v := .ty "ValueError") rfl T.z_ValueError bt_ValueError rfl) pa_nil))))) (pw_or (pt_cmpR op_ne (pe_callB call_isinst_x (by rfl) T.z_isinstance bt_isinstance (pa_cons (pv 0) (pa_cons (pe_glob (v := .ref C_NoDay) rfl T.mg_NoDay rfl) pa_nil))) (pv 1) (nomark _)) (pw_or1 (pt_cmpR op_eq (pe_callB call_isinst_x (by rfl) T.z_isinstance bt_isinstance (pa_cons (pv 0) (pa_cons (pe_glob (v := .ref C_NoLength) rfl T.mg_NoLength rfl) pa_nil))) (pv 1) (nomark _)))))) (pss_one (ps_ret pe_bl)) pss_nil) (pss_cons (ps_if (pt_val (pe_callB call_isinst_xs (by rfl) T.z_isinstance bt_isinstance (pa_cons (pv 0) (pa_cons (pe_tup (pa_cons (pe_glob (v := .ref C_HeldTwice) rfl T.mg_HeldTwice rfl) (pa_cons (pe_glob (v := .ref C_NoBook) rfl T.mg_NoBook rfl) (pa_cons (pe_glob (v := .ref C_NoRow) rfl T.mg_NoRow rfl) (pa_cons (pe_glob (v := .ref C_NoSeries) rfl T.mg_NoSeries rfl) (pa_cons (pe_glob (v := .ref C_NoTerm) rfl T.mg_NoTerm rfl) (pa_cons (pe_glob (v := .ref C_PutTwice) rfl T.mg_PutTwice rfl) (pa_cons (pe_glob (v := .ref C_RunBack) rfl T.mg_RunBack rfl) (pa_cons (pe_glob (v := .ref C_TooWide) rfl T.mg_TooWide rfl) (pa_cons (pe_glob (v := .ref C_Unlike) rfl T.mg_Unlike rfl) pa_nil)))))))))) pa_nil)))) (pss_one (ps_ret pe_bl)) pss_nil) (pss_one (ps_ret (pe_callB call_isinst_x (by rfl) T.z_isinstance bt_isinstance (pa_cons (pv 0) (pa_cons (pe_glob (v := .ref C_HallError) rfl T.mg_HallError rfl) pa_nil))))))), ?_⟩
    rcases hb with ⟨rfl, rfl⟩ | ⟨rfl, rfl⟩
    · refine ⟨_, rfl, e, B, _, _, true, rfl, he, T.xc_NoDay, rfl, T.i_dv, _, rfl, iteF ?_⟩
      refine ⟨_, rfl, e, B, _, _, true, rfl, he, T.xc_NoDay, rfl, T.i_dd, _, rfl, rfl, _, rfl, iteF ?_⟩
      refine ⟨_, rfl, e, B, _, _, false, rfl, he, T.xc_NoDay, rfl, T.i_dl, _, rfl, rfl, _, rfl, iteF ?_⟩
      refine ⟨_, rfl, (by show 9 ≤ sizeLine; omega), fun p hp => ⟨e, B, p, _, _, false, rfl, same_upd hp _ _ he, T.xc_NoDay, upd_same, rfl, T.i_do, _, rfl, iteF ?_⟩⟩
      exact ⟨_, rfl, e, B, _, _, true, rfl, same_upd hp _ _ he, T.xc_NoDay, rfl, T.i_dh, k _ (same_upd hp)⟩
    · refine ⟨_, rfl, e, B, _, _, true, rfl, he, T.xc_NoLength, rfl, T.i_lv, _, rfl, iteF ?_⟩
      refine ⟨_, rfl, e, B, _, _, false, rfl, he, T.xc_NoLength, rfl, T.i_ld, _, rfl, rfl, _, rfl, iteF ?_⟩
      refine ⟨_, rfl, e, B, _, _, true, rfl, he, T.xc_NoLength, rfl, T.i_ll, _, rfl, rfl, _, rfl, iteF ?_⟩
      refine ⟨_, rfl, (by show 9 ≤ sizeLine; omega), fun p hp => ⟨e, B, p, _, _, false, rfl, same_upd hp _ _ he, T.xc_NoLength, upd_same, rfl, T.i_lo, _, rfl, iteF ?_⟩⟩
      exact ⟨_, rfl, e, B, _, _, true, rfl, same_upd hp _ _ he, T.xc_NoLength, rfl, T.i_lh, k _ (same_upd hp)⟩
theorem day_int {ps : List Str} (h : isDay ps = true) : ∃ n : Int, dayV ps = .int n := by
  unfold isDay at h
  split at h
  · exact ⟨_, rfl⟩
  · cases h
theorem sc_law_day_so : FnScope ["_law_text", "_law_told", "_law_found", "e", "_law_due"] ["_law_text"] (defScope s_law_day_so) := ⟨rfl, rfl, rfl, by decide +kernel, rfl, by decide +kernel, by decide +kernel⟩
theorem ok_law_day_so {f : Addr} {fd : FuncData} (F : Fun K "_law_day_so" "_law_day_so" s_law_day_so f fd) (T : Txt K mg t_YEAR_DAYS t_MONTH_DAYS t_YEAR_MONTHS t_MOST_FIGURES t_FIGURES C_HallError C_NoDay C_NoLength C_HeldTwice C_NoBook C_NoRow C_NoSeries C_NoTerm C_PutTwice C_RunBack C_TooWide C_Unlike) (c_law_day_due : Cal P w K mg base CX0 3 "_law_day_due" ["_law_text"] sp_law_day_due) (c_law_refused : Cal P w K mg base CX0 1 "_law_refused" ["_law_told", "_law_one"] (sp_law_refused C_NoDay C_NoLength)) (c_law_whole : Cal P w K mg base CX0 1 "_law_whole" ["_law_found"] sp_law_whole) (c_day_read : Cal P w K mg base (CXr P w) 4 "day_read" ["text"] (sp_day_read C_NoDay)) : FnOk P w K mg base CX0 5 f fd ["_law_text"] sp_law_day_so := by
  refine F.ok sc_law_day_so (fun vs H Q E h => ?_) (fun cdv A outer s H vs Q E hr h => ?_)
  · obtain ⟨x, rfl, _⟩ := h
    rfl
  · obtain ⟨x, rfl, hx, hok, k⟩ := h
    refine ⟨_, (pss_cons (ps_set (i := 1) sc_law_day_so.nd rfl (Or.inl rfl) pe_non) (pss_cons (ps_set (i := 2) sc_law_day_so.nd rfl (Or.inl rfl) pe_non) (pss_cons (ps_tryCallN (CX := CX0) (iy := 2) (i := 3) (by rfl) c_day_read (hr.mono (by omega)) (by rfl) (pa_cons (pv 0) pa_nil) sc_law_day_so.nd (by rfl) (by rfl) (by rfl) T.mg_HallError (by rfl) (by rfl) (fun _ => (pss_one (ps_set (i := 1) sc_law_day_so.nd rfl (Or.inl rfl) (pv 3))))) (pss_cons (ps_set (i := 4) sc_law_day_so.nd rfl (Or.inl rfl) (pe_fn c_law_day_due (hr.mono (by omega)) rfl pass0 (pa_cons (pv 0) pa_nil))) (pss_cons (ps_if (pt_cmpR op_isN (pv 4) pe_non (nomark _)) (pss_one (ps_ret (pe_fn c_law_refused (hr.mono (by omega)) rfl pass0 (pa_cons (pv 1) (pa_cons pe_bl pa_nil))))) pss_nil) (pss_one (ps_ret (pe_and (pe_cmpR op_isN (pv 1) pe_non (nomark _)) (pe_and (pe_fn c_law_whole (hr.mono (by omega)) rfl pass0 (pa_cons (pv 2) pa_nil)) (pe_one (pe_cmpR op_eq (pv 2) (pv 4) (nomark _)))))))))))), ?_⟩
    refine ⟨_, rfl, x, rfl, hx, hok, fun f H1 s1 => ?_, fun f H1 s1 e he => ⟨C_NoDay, rfl, T.xm_d, ?_⟩⟩
    · obtain ⟨n, en⟩ := day_int f
      have ed : dueV x = .int n := by unfold dueV; rw [if_pos f, en]
      refine ⟨_, rfl, x, rfl, hx, fun H2 s2 => ?_⟩
      rw [ed, en]
      refine ⟨_, rfl, rfl, _, rfl, iteF ?_⟩
      refine ⟨_, rfl, rfl, _, rfl, iteT ?_⟩
      refine ⟨_, rfl, n, rfl, fun H3 s3 => ⟨_, rfl, iteT ?_⟩⟩
      refine ⟨_, rfl, _, rfl, rfl, ?_⟩
      exact q_of (k H3 (s1.trans (s2.trans s3))) (by rw [decide_eq_true rfl])
    · have ed : dueV x = .non := by unfold dueV; rw [f]; rfl
      refine ⟨_, rfl, ?_⟩
      refine ⟨_, rfl, x, rfl, hx, fun H2 s2 => ?_⟩
      rw [ed]
      refine ⟨_, rfl, rfl, _, rfl, iteT ?_⟩
      refine ⟨_, rfl, e, C_NoDay, true, rfl, s2 _ _ upd_same, .inl ⟨rfl, rfl⟩, fun H3 s3 => ?_⟩
      exact k H3 (s1.trans ((same_upd he).trans (s2.trans s3)))
theorem len_int {x : Str} (h : lenV x ≠ .non) : ∃ n : Int, lenV x = .int n := by
  rcases unit_cases (Txt.slice x (some (-1)) none) with e | ⟨u, e, _⟩
  · exact absurd (by unfold lenV; rw [show lunit x = .non from e]) h
  · unfold lenV at h ⊢
    rw [show lunit x = .int (u : Int) from e] at h ⊢
    cases f : isNum (lnum x) with
    | true => exact ⟨_, rfl⟩
    | false => rw [f] at h; exact absurd rfl h
theorem sc_law_length_so : FnScope ["_law_text", "_law_told", "_law_found", "e", "_law_due"] ["_law_text"] (defScope s_law_length_so) := ⟨rfl, rfl, rfl, by decide +kernel, rfl, by decide +kernel, by decide +kernel⟩
theorem ok_law_length_so {f : Addr} {fd : FuncData} (F : Fun K "_law_length_so" "_law_length_so" s_law_length_so f fd) (T : Txt K mg t_YEAR_DAYS t_MONTH_DAYS t_YEAR_MONTHS t_MOST_FIGURES t_FIGURES C_HallError C_NoDay C_NoLength C_HeldTwice C_NoBook C_NoRow C_NoSeries C_NoTerm C_PutTwice C_RunBack C_TooWide C_Unlike) (c_law_length_due : Cal P w K mg base CX0 3 "_law_length_due" ["_law_text"] sp_law_length_due) (c_law_refused : Cal P w K mg base CX0 1 "_law_refused" ["_law_told", "_law_one"] (sp_law_refused C_NoDay C_NoLength)) (c_law_whole : Cal P w K mg base CX0 1 "_law_whole" ["_law_found"] sp_law_whole) (c_length_read : Cal P w K mg base (CXr P w) 3 "length_read" ["text"] (sp_length_read C_NoLength)) : FnOk P w K mg base CX0 4 f fd ["_law_text"] sp_law_length_so := by
  refine F.ok sc_law_length_so (fun vs H Q E h => ?_) (fun cdv A outer s H vs Q E hr h => ?_)
  · obtain ⟨x, rfl, _⟩ := h
    rfl
  · obtain ⟨x, rfl, hx, hok, k⟩ := h
    refine ⟨_, (pss_cons (ps_set (i := 1) sc_law_length_so.nd rfl (Or.inl rfl) pe_non) (pss_cons (ps_set (i := 2) sc_law_length_so.nd rfl (Or.inl rfl) pe_non) (pss_cons (ps_tryCallN (CX := CX0) (iy := 2) (i := 3) (by rfl) c_length_read (hr.mono (by omega)) (by rfl) (pa_cons (pv 0) pa_nil) sc_law_length_so.nd (by rfl) (by rfl) (by rfl) T.mg_HallError (by rfl) (by rfl) (fun _ => (pss_one (ps_set (i := 1) sc_law_length_so.nd rfl (Or.inl rfl) (pv 3))))) (pss_cons (ps_set (i := 4) sc_law_length_so.nd rfl (Or.inl rfl) (pe_fn c_law_length_due (hr.mono (by omega)) rfl pass0 (pa_cons (pv 0) pa_nil))) (pss_cons (ps_if (pt_cmpR op_isN (pv 4) pe_non (nomark _)) (pss_one (ps_ret (pe_fn c_law_refused (hr.mono (by omega)) rfl pass0 (pa_cons (pv 1) (pa_cons pe_bl pa_nil))))) pss_nil) (pss_one (ps_ret (pe_and (pe_cmpR op_isN (pv 1) pe_non (nomark _)) (pe_and (pe_fn c_law_whole (hr.mono (by omega)) rfl pass0 (pa_cons (pv 2) pa_nil)) (pe_one (pe_cmpR op_eq (pv 2) (pv 4) (nomark _)))))))))))), ?_⟩
    refine ⟨_, rfl, x, rfl, hx, hok, fun f H1 s1 => ?_, fun f H1 s1 e he => ⟨C_NoLength, rfl, T.xm_l, ?_⟩⟩
    · obtain ⟨n, en⟩ := len_int f
      rw [en]
      refine ⟨_, rfl, x, rfl, hx, fun H2 s2 => ?_⟩
      rw [en]
      refine ⟨_, rfl, rfl, _, rfl, iteF ?_⟩
      refine ⟨_, rfl, rfl, _, rfl, iteT ?_⟩
      refine ⟨_, rfl, n, rfl, fun H3 s3 => ⟨_, rfl, iteT ?_⟩⟩
      refine ⟨_, rfl, _, rfl, rfl, ?_⟩
      exact q_of (k H3 (s1.trans (s2.trans s3))) (by rw [decide_eq_true rfl])
    · refine ⟨_, rfl, ?_⟩
      refine ⟨_, rfl, x, rfl, hx, fun H2 s2 => ?_⟩
      rw [f]
      refine ⟨_, rfl, rfl, _, rfl, iteT ?_⟩
      refine ⟨_, rfl, e, C_NoLength, false, rfl, s2 _ _ upd_same, .inr ⟨rfl, rfl⟩, fun H3 s3 => ?_⟩
      exact k H3 (s1.trans ((same_upd he).trans (s2.trans s3)))

def odds : List Str := [Str.ofString "", Str.ofString "-", Str.ofString "--", Str.ofString "0-01", Str.ofString "0-1-01", Str.ofString "0-01-1", Str.ofString "0-00-01", Str.ofString "0-01-00", Str.ofString "0-13-01", Str.ofString "0-12-31", Str.ofString "00-01-01",
  Str.ofString "-1-01-01", Str.ofString "0-01-01-", Str.ofString "0--01-01", Str.ofString "y", Str.ofString "0", Str.ofString "00d", Str.ofString "01y", Str.ofString "-1d", Str.ofString "1 d", Str.ofString "1w", Str.ofString "1Y", Str.ofString "d1", Str.ofString "0-01-010", Str.ofString "0-001-01"]
theorem odds_ok : ∀ z ∈ odds, z.length ≤ 20 ∧ ∀ c ∈ z.cps.toList, c < 16 ^ 8 := by decide +kernel
theorem odds_at (k : Int) (h0 : 0 ≤ k) (h1 : k < 25) : ∃ z, atI (odds.map V.str) k = some (.str z) ∧ z.length ≤ 20 ∧ Ok z := by
  obtain ⟨v, e⟩ := atI_some (xs := odds.map V.str) (i := k) (by rw [List.length_map]; show -(25 : Int) ≤ k; omega) (by rw [List.length_map]; exact h1)
  obtain ⟨j, _, hj, _⟩ := atI_get e
  obtain ⟨z, hz, rfl⟩ := List.mem_map.mp (List.mem_of_getElem? hj)
  exact ⟨z, e, (odds_ok z hz).1, (odds_ok z hz).2⟩
def odds1 : List Str := [Str.ofString "", Str.ofString "-", Str.ofString "--", Str.ofString "0-01", Str.ofString "0-1-01", Str.ofString "0-01-1", Str.ofString "0-00-01", Str.ofString "0-01-00", Str.ofString "0-13-01", Str.ofString "0-12-31", Str.ofString "00-01-01"]
theorem odd_body : ∃ p es q r, defBody s_law_odd = [.Assign [.Name (Str.ofString "_law_some") p] (.List es q) r, (defBody s_law_odd).getD 1 (.Pass ⟨0, 0, 0, 0⟩), (defBody s_law_odd).getD 2 (.Pass ⟨0, 0, 0, 0⟩), (defBody s_law_odd).getD 3 (.Pass ⟨0, 0, 0, 0⟩)] ∧ strsOf es = some odds1 := ⟨_, _, _, _, rfl, rfl⟩
theorem sc_law_odd : FnScope ["_law_cell", "_law_some"] ["_law_cell"] (defScope s_law_odd) := ⟨rfl, rfl, rfl, by decide +kernel, rfl, by decide +kernel, by decide +kernel⟩
theorem ok_law_odd {f : Addr} {fd : FuncData} (F : Fun K "_law_odd" "_law_odd" s_law_odd f fd) (T : Txt K mg t_YEAR_DAYS t_MONTH_DAYS t_YEAR_MONTHS t_MOST_FIGURES t_FIGURES C_HallError C_NoDay C_NoLength C_HeldTwice C_NoBook C_NoRow C_NoSeries C_NoTerm C_PutTwice C_RunBack C_TooWide C_Unlike) : FnOk P w K mg base CX0 1 f fd ["_law_cell"] sp_law_odd := by
  refine F.ok sc_law_odd (fun vs H Q E h => ?_) (fun cdv A outer s H vs Q E hr h => ?_)
  · obtain ⟨c, rfl, _⟩ := h
    rfl
  · obtain ⟨c, rfl, k⟩ := h
    have l5 := line5
    obtain ⟨z, ez, z1, z2⟩ := odds_at (c % 25) (Int.emod_nonneg c (by decide)) (Int.emod_lt_of_pos c (by decide))
    obtain ⟨p0, es, q0, r0, eb, eL⟩ := odd_body
    rw [eb]
    refine ⟨_, (pss_cons (ps_set (i := 1) sc_law_odd.nd rfl (Or.inl rfl) (pe_strs odds1 eL) sw_list) (pss_cons (ps_set (i := 1) sc_law_odd.nd rfl (Or.inl rfl) (pe_op op_catS (pv 1) (pe_strs [Str.ofString "-1-01-01", Str.ofString "0-01-01-", Str.ofString "0--01-01", Str.ofString "y", Str.ofString "0", Str.ofString "00d", Str.ofString "01y", Str.ofString "-1d", Str.ofString "1 d", Str.ofString "1w", Str.ofString "1Y", Str.ofString "d1"] (by rfl))) sw_bin) (pss_cons (ps_set (i := 1) sc_law_odd.nd rfl (Or.inl rfl) (pe_op op_catS (pv 1) (pe_lst (pa_cons pe_str (pa_cons pe_str pa_nil))))) (pss_one (ps_ret (pe_ix ix_list (pv 1) (pe_op op_mod (pv 0) pe_int) (fun _ _ => rfl))))))), ?_⟩
    refine ⟨(by show 11 ≤ sizeLine; omega), fun p1 hp1 => ?_⟩
    refine ⟨_, rfl, (by show 12 ≤ sizeLine; omega), fun p2 hp2 => ⟨p1, p2, _, _, rfl, rfl, SqL.of (same_upd hp2 _ _ upd_same), SqL.of upd_same, (by show 11 + 12 ≤ sizeLine; omega), fun p3 hp3 => ?_⟩⟩
    refine ⟨_, rfl, (by show 2 ≤ sizeLine; omega), fun p4 hp4 => ⟨p3, p4, _, _, rfl, rfl, SqL.of (same_upd hp4 _ _ upd_same), SqL.of upd_same, (by show 23 + 2 ≤ sizeLine; omega), fun p5 hp5 => ?_⟩⟩
    exact ⟨_, rfl, _, rfl, _, _, rfl, rfl, (by show (0 : Int) < 25; decide), p5, _, _, _, rfl, rfl, SqL.of upd_same, ez, k z _ z1 z2 ((same_upd hp1).trans ((same_upd hp2).trans ((same_upd hp3).trans ((same_upd hp4).trans (same_upd hp5)))))⟩

theorem t41 : ((41 : Int)).toNat = 41 := rfl
theorem t40 : ((40 : Int)).toNat = 40 := rfl
theorem nums3 (r k : Int) (h0 : 0 ≤ k) (h1 : k < 5) : ∃ N : Nat, N < 10 ^ 100 ∧
    atI [V.int (r % 12), .int (r * 982451653 % 10 ^ (41 : Int).toNat), .int (10 ^ (40 : Int).toNat - 1 + r % 2), .int 0, .int (r % 100)] k = some (.int (N : Int)) := by
  rw [t41, t40, big_nat 41, big_nat 40]
  have p1 : ((10 ^ 40 : Nat) : Int) + 10 ≤ ((10 ^ 41 : Nat) : Int) := by decide +kernel
  have p2 : (1000 : Int) < ((10 ^ 40 : Nat) : Int) := by decide +kernel
  have p3 : 10 ^ 41 ≤ 10 ^ 100 := by decide +kernel
  generalize hB : ((10 ^ 41 : Nat) : Int) = B at *
  generalize hC : ((10 ^ 40 : Nat) : Int) = C at *
  have e : k = 0 ∨ k = 1 ∨ k = 2 ∨ k = 3 ∨ k = 4 := by omega
  have a1 := Int.emod_nonneg r (show (12 : Int) ≠ 0 by decide)
  have a2 := Int.emod_lt_of_pos r (show (0 : Int) < 12 by decide)
  have b1 := Int.emod_nonneg (r * 982451653) (show B ≠ 0 by omega)
  have b2 := Int.emod_lt_of_pos (r * 982451653) (show (0 : Int) < B by omega)
  have c1 := Int.emod_nonneg r (show (2 : Int) ≠ 0 by decide)
  have c2 := Int.emod_lt_of_pos r (show (0 : Int) < 2 by decide)
  have d1 := Int.emod_nonneg r (show (100 : Int) ≠ 0 by decide)
  have d2 := Int.emod_lt_of_pos r (show (0 : Int) < 100 by decide)
  have key : ∀ v : Int, 0 ≤ v → v < B → ∃ n : Nat, n < 10 ^ 100 ∧ v = (n : Int) := fun v h0 h1 => by
    obtain ⟨n, hn, e⟩ := nat_of hB.symm h0 h1
    exact ⟨n, Nat.lt_of_lt_of_le hn p3, e⟩
  rcases e with rfl | rfl | rfl | rfl | rfl
  · obtain ⟨n, hn, e⟩ := key (r % 12) a1 (by omega)
    exact ⟨n, hn, by rw [← e]; rfl⟩
  · obtain ⟨n, hn, e⟩ := key (r * 982451653 % B) b1 b2
    exact ⟨n, hn, by rw [← e]; rfl⟩
  · obtain ⟨n, hn, e⟩ := key (C - 1 + r % 2) (by omega) (by omega)
    exact ⟨n, hn, by rw [← e]; rfl⟩
  · exact ⟨0, by decide +kernel, rfl⟩
  · obtain ⟨n, hn, e⟩ := key (r % 100) d1 (by omega)
    exact ⟨n, hn, by rw [← e]; rfl⟩
theorem num_ok (n : Nat) : Ok (num n) := fun c hc => by
  have := num_digits n c hc
  omega
theorem ymdh_at (k : Int) (h0 : 0 ≤ k) (h1 : k < 4) : ∃ d : Nat, atI (Str.ofString "ymdh").cps.toList k = some d ∧ d < 16 ^ 8 := by
  have e : k = 0 ∨ k = 1 ∨ k = 2 ∨ k = 3 := by omega
  rcases e with rfl | rfl | rfl | rfl
  · exact ⟨121, by decide +kernel, by decide⟩
  · exact ⟨109, by decide +kernel, by decide⟩
  · exact ⟨100, by decide +kernel, by decide⟩
  · exact ⟨104, by decide +kernel, by decide⟩
theorem bar_ok : Ok (Str.ofString "-") := by unfold Ok; decide +kernel
theorem len_bar : (Str.ofString "-").length = 1 := by decide
theorem up100 (a b : Int) (hb : 0 < b) (hb2 : b ≤ 50) : ∃ n : Nat, (100 : Int) + a % b = (n : Int) ∧ n < 10 ^ 100 := by
  have h1 := Int.emod_nonneg a (Int.ne_of_gt hb)
  have h2 := Int.emod_lt_of_pos a hb
  have p : 1000 < 10 ^ 100 := by decide +kernel
  exact ⟨((100 : Int) + a % b).toNat, by omega, by omega⟩
theorem sc_law_holds : FnScope ["_law_cell", "_law_other", "_law_rest", "_law_number_here", "_law_two", "_law_last"] ["_law_cell", "_law_other"] (defScope s_law_holds) := ⟨rfl, rfl, rfl, by decide +kernel, rfl, by decide +kernel, by decide +kernel⟩
theorem ok_law_holds {f : Addr} {fd : FuncData} (F : Fun K "_law_holds" "_law_holds" s_law_holds f fd) (T : Txt K mg t_YEAR_DAYS t_MONTH_DAYS t_YEAR_MONTHS t_MOST_FIGURES t_FIGURES C_HallError C_NoDay C_NoLength C_HeldTwice C_NoBook C_NoRow C_NoSeries C_NoTerm C_PutTwice C_RunBack C_TooWide C_Unlike) (c_law_bent : Cal P w K mg base CX0 2 "_law_bent" ["_law_text", "_law_cell"] sp_law_bent) (c_law_day_so : Cal P w K mg base CX0 5 "_law_day_so" ["_law_text"] sp_law_day_so) (c_law_length_so : Cal P w K mg base CX0 4 "_law_length_so" ["_law_text"] sp_law_length_so) (c_law_odd : Cal P w K mg base CX0 1 "_law_odd" ["_law_cell"] sp_law_odd) : FnOk P w K mg base CX0 6 f fd ["_law_cell", "_law_other"] sp_law_holds := by
  refine F.ok sc_law_holds (fun vs H Q E h => ?_) (fun cdv A outer s H vs Q E hr h => ?_)
  · obtain ⟨c, o, rfl, _⟩ := h
    rfl
  · obtain ⟨c, o, rfl, k⟩ := h
    have l5 := line5
    obtain ⟨N, hN, eN⟩ := nums3 (c / 5) (c % 5) (Int.emod_nonneg c (by decide)) (Int.emod_lt_of_pos c (by decide))
    obtain ⟨n1, e1, b1⟩ := up100 o 14 (by decide) (by decide)
    obtain ⟨n2, e2, b2⟩ := up100 (o / 14) 33 (by decide) (by decide)
    obtain ⟨d, ed, hd⟩ := ymdh_at (o / 3 % 4) (Int.emod_nonneg _ (by decide)) (Int.emod_lt_of_pos _ (by decide))
    have lN := num_len100 hN
    have l1 := num_len100 b1
    have l2 := num_len100 b2
    have s1l := Txt.slice_le (num n1) (some 1) none
    have s2l := Txt.slice_le (num n2) (some 1) none
    refine ⟨_, (pss_cons (ps_set (i := 2) sc_law_holds.nd rfl (Or.inl rfl) (pe_op op_fdiv (pv 0) pe_int)) (pss_cons (ps_set (i := 3) sc_law_holds.nd rfl (Or.inl rfl) (pe_ix ix_list (pe_lst (pa_cons (pe_op op_mod (pv 2) pe_int) (pa_cons (pe_op op_mod (pe_op op_mulK (pv 2) pe_int) (pe_op op_pow pe_int pe_int)) (pa_cons (pe_op op_add (pe_op op_sub (pe_op op_pow pe_int pe_int) pe_int) (pe_op op_mod (pv 2) pe_int)) (pa_cons pe_int (pa_cons (pe_op op_mod (pv 2) pe_int) pa_nil)))))) (pe_op op_mod (pv 0) pe_int) (fun _ _ => rfl))) (pss_cons (ps_set (i := 4) sc_law_holds.nd rfl (Or.inl rfl) (pe_slice sl_str (pe_callTy call_str_int (by rfl) T.z_str bt_str (pa_cons (pe_op op_add pe_int (pe_op op_mod (pv 1) pe_int)) pa_nil)) (po_some pe_int) po_none)) (pss_cons (ps_set (i := 5) sc_law_holds.nd rfl (Or.inl rfl) (pe_slice sl_str (pe_callTy call_str_int (by rfl) T.z_str bt_str (pa_cons (pe_op op_add pe_int (pe_op op_mod (pe_op op_fdiv (pv 1) pe_int) pe_int)) pa_nil)) (po_some pe_int) po_none)) (pss_cons (ps_if (pt_not (pt_val (pe_fn c_law_day_so (hr.mono (by omega)) rfl pass0 (pa_cons (pe_fn c_law_bent (hr.mono (by omega)) rfl pass0 (pa_cons (pe_op op_add_str (pe_op op_add_str (pe_op op_add_str (pe_op op_add_str (pe_callTy call_str_int (by rfl) T.z_str bt_str (pa_cons (pv 3) pa_nil)) pe_str) (pv 4)) pe_str) (pv 5)) (pa_cons (pv 1) pa_nil))) pa_nil)))) (pss_one (ps_ret pe_bl)) pss_nil) (pss_cons (ps_if (pt_not (pt_val (pe_fn c_law_length_so (hr.mono (by omega)) rfl pass0 (pa_cons (pe_fn c_law_bent (hr.mono (by omega)) rfl pass0 (pa_cons (pe_op op_add_str (pe_callTy call_str_int (by rfl) T.z_str bt_str (pa_cons (pv 3) pa_nil)) (pe_ix ix_str pe_str (pe_op op_mod (pe_op op_fdiv (pv 1) pe_int) pe_int) (fun _ _ => rfl))) (pa_cons (pe_op op_fdiv (pv 1) pe_int) pa_nil))) pa_nil)))) (pss_one (ps_ret pe_bl)) pss_nil) (pss_one (ps_ret (pe_and (pe_fn c_law_day_so (hr.mono (by omega)) rfl pass0 (pa_cons (pe_fn c_law_odd (hr.mono (by omega)) rfl pass0 (pa_cons (pv 0) pa_nil)) pa_nil)) (pe_one (pe_fn c_law_length_so (hr.mono (by omega)) rfl pass0 (pa_cons (pe_fn c_law_odd (hr.mono (by omega)) rfl pass0 (pa_cons (pv 1) pa_nil)) pa_nil)))))))))))), ?_⟩
    refine ⟨_, rfl, _, _, rfl, rfl, ⟨by decide, by decide⟩, ?_⟩
    refine ⟨_, rfl, _, _, rfl, rfl, (by show (0 : Int) < 12; decide), _, rfl, _, _, rfl, rfl, IntMulOk.of_right (intBits_le_64 (by decide) (by decide)), _, _, rfl, rfl, pow_ok (by decide) (by decide), _, _, rfl, rfl, pow_pos _,
      _, _, rfl, rfl, pow_ok (by decide) (by decide), _, _, rfl, rfl, _, rfl, _, _, rfl, rfl, (by show (0 : Int) < 2; decide), _, _, rfl, rfl, _, rfl, _, _, rfl, rfl, (by show (0 : Int) < 100; decide),
      (by show 5 ≤ sizeLine; omega), fun p1 hp1 => ⟨_, rfl, _, _, rfl, rfl, (by show (0 : Int) < 5; decide), p1, _, _, _, rfl, rfl, SqL.of upd_same, eN, ?_⟩⟩
    have s1 := same_upd (o := .lst [V.int (c / 5 % 12), .int (c / 5 * 982451653 % 10 ^ (41 : Int).toNat), .int (10 ^ (40 : Int).toNat - 1 + c / 5 % 2), .int 0, .int (c / 5 % 100)]) hp1
    -- two, last
    refine ⟨_, rfl, _, _, rfl, rfl, (by show (0 : Int) < 14; decide), _, _, rfl, rfl, ?_⟩
    try dsimp only
    rw [e1]
    refine ⟨(n1 : Int), rfl, log_ok b1, _, rfl, _, rfl, (by show (num n1).length ≤ sizeLine; omega), ?_⟩
    refine ⟨_, rfl, _, _, rfl, rfl, ⟨by decide, by decide⟩, _, _, rfl, rfl, (by show (0 : Int) < 33; decide), _, _, rfl, rfl, ?_⟩
    try dsimp only
    rw [e2]
    refine ⟨(n2 : Int), rfl, log_ok b2, _, rfl, _, rfl, (by show (num n2).length ≤ sizeLine; omega), ?_⟩
    -- a day
    have a1 : (num N ++ Str.ofString "-").length ≤ 101 := by rw [strLen_append, len_bar]; omega
    have a2 : (num N ++ Str.ofString "-" ++ Txt.slice (num n1) (some 1) none).length ≤ 201 := by rw [strLen_append]; omega
    have a3 : (num N ++ Str.ofString "-" ++ Txt.slice (num n1) (some 1) none ++ Str.ofString "-").length ≤ 202 := by rw [strLen_append, len_bar]; omega
    have a4 : (num N ++ Str.ofString "-" ++ Txt.slice (num n1) (some 1) none ++ Str.ofString "-" ++ Txt.slice (num n2) (some 1) none).length ≤ 302 := by rw [strLen_append]; omega
    refine ⟨_, rfl, (N : Int), rfl, log_ok hN, _, _, rfl, rfl, (by show (num N).length + (Str.ofString "-").length ≤ sizeLine; rw [len_bar]; omega), _, rfl, _, _, rfl, rfl, (by show (num N ++ Str.ofString "-").length + (Txt.slice (num n1) (some 1) none).length ≤ sizeLine; omega),
      _, _, rfl, rfl, (by show (num N ++ Str.ofString "-" ++ Txt.slice (num n1) (some 1) none).length + (Str.ofString "-").length ≤ sizeLine; rw [len_bar]; omega), _, rfl, _, _, rfl, rfl, (by show (num N ++ Str.ofString "-" ++ Txt.slice (num n1) (some 1) none ++ Str.ofString "-").length + (Txt.slice (num n2) (some 1) none).length ≤ sizeLine; omega),
      _, rfl, _, _, rfl, (by show (num N ++ Str.ofString "-" ++ Txt.slice (num n1) (some 1) none ++ Str.ofString "-" ++ Txt.slice (num n2) (some 1) none).length ≤ 1000; omega), app_ok (app_ok (app_ok (app_ok (num_ok N) bar_ok) (slice_ok (num_ok n1) _ _)) bar_ok) (slice_ok (num_ok n2) _ _),
      fun z H2 hz oz s2 => ⟨z, rfl, by omega, oz, fun H3 s3 => ⟨_, rfl, iteF ?_⟩⟩⟩
    -- a length
    refine ⟨_, rfl, (N : Int), rfl, log_ok hN, _, rfl, _, _, rfl, rfl, ⟨by decide, by decide⟩, _, _, rfl, rfl, (by show (0 : Int) < 4; decide), _, _, d, rfl, rfl, by decide +kernel, ed, _, _, rfl, rfl, (by show (num N).length + 1 ≤ sizeLine; omega),
      _, rfl, _, _, rfl, rfl, ⟨by decide, by decide⟩, _, _, rfl, (by show (num N ++ ⟨#[d]⟩ : Str).length ≤ 1000; rw [len_one]; omega), app_ok (num_ok N) (one_ok hd), fun z4 H4 hz4 oz4 s4 => ⟨z4, rfl, by omega, oz4, fun H5 s5 => ⟨_, rfl, iteF ?_⟩⟩⟩
    -- odd ones
    refine ⟨_, rfl, c, rfl, fun z6 H6 hz6 oz6 s6 => ⟨z6, rfl, by omega, oz6, fun H7 s7 => ⟨_, rfl, iteT ?_⟩⟩⟩
    refine ⟨_, rfl, o, rfl, fun z8 H8 hz8 oz8 s8 => ⟨z8, rfl, by omega, oz8, fun H9 s9 => ?_⟩⟩
    exact k H9 (s1.trans (s2.trans (s3.trans (s4.trans (s5.trans (s6.trans (s7.trans (s8.trans s9))))))))
theorem sc_law : FnScope ["_law_script", "_law_cells", "_law_k"] ["_law_script"] (defScope s_law) := ⟨rfl, rfl, rfl, by decide +kernel, rfl, by decide +kernel, by decide +kernel⟩
theorem ok_law {f : Addr} {fd : FuncData} (F : Fun K "law" "law" s_law f fd) (T : Txt K mg t_YEAR_DAYS t_MONTH_DAYS t_YEAR_MONTHS t_MOST_FIGURES t_FIGURES C_HallError C_NoDay C_NoLength C_HeldTwice C_NoBook C_NoRow C_NoSeries C_NoTerm C_PutTwice C_RunBack C_TooWide C_Unlike) (c_law_holds : Cal P w K mg base CX0 6 "_law_holds" ["_law_cell", "_law_other"] sp_law_holds) : FnOk P w K mg base CX0 7 f fd ["_law_script"] (spLaw K) := by
  refine F.ok sc_law (fun vs H Q E h => ?_) (fun cdv A outer s H vs Q E hr h => ?_)
  · obtain ⟨a, ns, rfl, _⟩ := h
    rfl
  · obtain ⟨a, ns, rfl, hS, hlen, hbits, k⟩ := h
    have l5 := line5
    refine ⟨_, (pss_cons (ps_set (i := 1) sc_law.nd rfl (Or.inl rfl) (pe_op op_catS (pv 0) (pe_lst (pa_cons pe_int pa_nil)))) (pss_cons (ps_for PassesOwn.never rfl (pi_range1 rfl T.z_range (pa_cons (pe_callB call_len (by rfl) T.z_len bt_len (pa_cons (pv 1) pa_nil)) pa_nil)) (pg_name (i := 2) sc_law.nd rfl (Or.inl rfl)) (pss_one (ps_if (pt_not (pt_val (pe_fn c_law_holds (hr.mono (by omega)) rfl pass0 (pa_cons (pe_ix ix_list (pv 1) (pv 2) (fun _ _ => rfl)) (pa_cons (pe_ix ix_list (pv 1) (pe_op op_sub (pv 2) pe_int) (fun _ _ => rfl)) pa_nil))))) (pss_one (ps_ret pe_bl)) pss_nil))) (pss_one (ps_ret pe_bl)))), ?_⟩
    refine ⟨_, rfl, (by show 1 ≤ sizeLine; omega), fun p hp => ⟨a, p, ns.map V.int, [.int 0], rfl, rfl, (same_upd hp).seq hS, SqL.of upd_same, ?_, fun D hD => ?_⟩⟩
    · rw [List.length_map]
      show ns.length + 1 ≤ sizeLine
      omega
    have ecs : ns.map V.int ++ [V.int 0] = (ns ++ [0]).map V.int := by rw [List.map_append]; rfl
    rw [ecs]
    have hcl : (ns ++ [0]).length = ns.length + 1 := by simp
    refine ⟨_, rfl, _, _, rfl, .inl ⟨_, SqL.of upd_same, rfl⟩, _, rfl, ?_, ?_, ?_⟩
    · rw [List.length_map]; omega
    · rw [List.length_map, hcl]; omega
    rw [List.length_map, hcl]
    refine for_range (fun i σ H' => ∃ v2, σ = [some (.ref a), some (.ref D), v2] ∧ H' D = some (.lst ((ns ++ [0]).map V.int))) ⟨none, rfl, upd_same⟩ ?_ ?_
    · rintro i σ H1 hi ⟨v2, rfl, d1⟩
      have hi' : (i : Int) < (ns.length : Int) + 1 := by omega
      obtain ⟨c1, m1, e1⟩ := atI_ints (ns := ns ++ [0]) (i := 0 + (i : Int)) (by rw [hcl]; omega) (by rw [hcl]; omega)
      obtain ⟨c2, _, e2⟩ := atI_ints (ns := ns ++ [0]) (i := 0 + (i : Int) - 1) (by rw [hcl]; omega) (by rw [hcl]; omega)
      refine ⟨_, rfl, _, rfl, D, _, _, _, rfl, rfl, SqL.of d1, e1, _, rfl, _, rfl, _, _, rfl, rfl, D, _, _, _, rfl, rfl, SqL.of d1, e2, ?_⟩
      exact ⟨c1, c2, rfl, fun H2 s2 => ⟨_, rfl, iteF ⟨_, rfl, s2 _ _ d1⟩⟩⟩
    · rintro σ H1 ⟨v2, rfl, d1⟩
      exact k H1

end
theorem all_mk {l : PySem.W.OpenLaw} {w : World} {K : PySem.W.Frag} {h : Heap} {mg : Str → Option Value} {fa : Addr} {A_is_made_of : Addr} {oc_is_made_of kV_is_made_of dc_is_made_of pm_is_made_of cd_is_made_of ct_is_made_of : Value} {od_is_made_of an_is_made_of : Option Addr} {sl_is_made_of : Array (Option Value)} {A_is_number : Addr} {oc_is_number kV_is_number dc_is_number pm_is_number cd_is_number ct_is_number : Value} {od_is_number an_is_number : Option Addr} {sl_is_number : Array (Option Value)} {A_is_two_figures : Addr} {oc_is_two_figures kV_is_two_figures dc_is_two_figures pm_is_two_figures cd_is_two_figures ct_is_two_figures : Value} {od_is_two_figures an_is_two_figures : Option Addr} {sl_is_two_figures : Array (Option Value)} {A_is_day : Addr} {oc_is_day kV_is_day dc_is_day pm_is_day cd_is_day ct_is_day : Value} {od_is_day an_is_day : Option Addr} {sl_is_day : Array (Option Value)} {A_day_read : Addr} {oc_day_read kV_day_read dc_day_read pm_day_read cd_day_read ct_day_read : Value} {od_day_read an_day_read : Option Addr} {sl_day_read : Array (Option Value)} {A_days_of_letter : Addr} {oc_days_of_letter kV_days_of_letter dc_days_of_letter pm_days_of_letter cd_days_of_letter ct_days_of_letter : Value} {od_days_of_letter an_days_of_letter : Option Addr} {sl_days_of_letter : Array (Option Value)} {A_length_read : Addr} {oc_length_read kV_length_read dc_length_read pm_length_read cd_length_read ct_length_read : Value} {od_length_read an_length_read : Option Addr} {sl_length_read : Array (Option Value)} {A_law_whole : Addr} {oc_law_whole kV_law_whole dc_law_whole pm_law_whole cd_law_whole ct_law_whole : Value} {od_law_whole an_law_whole : Option Addr} {sl_law_whole : Array (Option Value)} {A_law_sign_by : Addr} {oc_law_sign_by kV_law_sign_by dc_law_sign_by pm_law_sign_by cd_law_sign_by ct_law_sign_by : Value} {od_law_sign_by an_law_sign_by : Option Addr} {sl_law_sign_by : Array (Option Value)} {A_law_bent : Addr} {oc_law_bent kV_law_bent dc_law_bent pm_law_bent cd_law_bent ct_law_bent : Value} {od_law_bent an_law_bent : Option Addr} {sl_law_bent : Array (Option Value)} {A_law_figures : Addr} {oc_law_figures kV_law_figures dc_law_figures pm_law_figures cd_law_figures ct_law_figures : Value} {od_law_figures an_law_figures : Option Addr} {sl_law_figures : Array (Option Value)} {A_law_number : Addr} {oc_law_number kV_law_number dc_law_number pm_law_number cd_law_number ct_law_number : Value} {od_law_number an_law_number : Option Addr} {sl_law_number : Array (Option Value)} {A_law_day_due : Addr} {oc_law_day_due kV_law_day_due dc_law_day_due pm_law_day_due cd_law_day_due ct_law_day_due : Value} {od_law_day_due an_law_day_due : Option Addr} {sl_law_day_due : Array (Option Value)} {A_law_length_due : Addr} {oc_law_length_due kV_law_length_due dc_law_length_due pm_law_length_due cd_law_length_due ct_law_length_due : Value} {od_law_length_due an_law_length_due : Option Addr} {sl_law_length_due : Array (Option Value)} {A_law_refused : Addr} {oc_law_refused kV_law_refused dc_law_refused pm_law_refused cd_law_refused ct_law_refused : Value} {od_law_refused an_law_refused : Option Addr} {sl_law_refused : Array (Option Value)} {A_law_day_so : Addr} {oc_law_day_so kV_law_day_so dc_law_day_so pm_law_day_so cd_law_day_so ct_law_day_so : Value} {od_law_day_so an_law_day_so : Option Addr} {sl_law_day_so : Array (Option Value)} {A_law_length_so : Addr} {oc_law_length_so kV_law_length_so dc_law_length_so pm_law_length_so cd_law_length_so ct_law_length_so : Value} {od_law_length_so an_law_length_so : Option Addr} {sl_law_length_so : Array (Option Value)} {A_law_odd : Addr} {oc_law_odd kV_law_odd dc_law_odd pm_law_odd cd_law_odd ct_law_odd : Value} {od_law_odd an_law_odd : Option Addr} {sl_law_odd : Array (Option Value)} {A_law_holds : Addr} {oc_law_holds kV_law_holds dc_law_holds pm_law_holds cd_law_holds ct_law_holds : Value} {od_law_holds an_law_holds : Option Addr} {sl_law_holds : Array (Option Value)} {A_law : Addr} {oc_law kV_law dc_law pm_law cd_law ct_law : Value} {od_law an_law : Option Addr} {sl_law : Array (Option Value)} {C_HallError : Addr} {C_NoDay : Addr} {C_NoLength : Addr} {C_HeldTwice : Addr} {C_NoBook : Addr} {C_NoRow : Addr} {C_NoSeries : Addr} {C_NoTerm : Addr} {C_PutTwice : Addr} {C_RunBack : Addr} {C_TooWide : Addr} {C_Unlike : Addr} {t_YEAR_DAYS : Tok} {t_MONTH_DAYS : Tok} {t_YEAR_MONTHS : Tok} {t_MOST_FIGURES : Tok} {t_FIGURES : Tok} {x_FIGURES : Str} {N_NoDay : Addr} {nm_NoDay qn_NoDay : Str} {bs_NoDay sb_NoDay : List Value} {hd_NoDay ab_NoDay : Bool} {sn_NoDay : List Str} {co_NoDay : Option Bool} {dd_NoDay : Option Addr} {k0_NoDay k1_NoDay k2_NoDay k3_NoDay k5_NoDay : Option Value} {nc_NoDay : Value} {nd_NoDay : Option Addr} {ne_NoDay : Array DictEntry} {np_NoDay : Nat} {nl_NoDay : Array (Option Value)} {N_NoLength : Addr} {nm_NoLength qn_NoLength : Str} {bs_NoLength sb_NoLength : List Value} {hd_NoLength ab_NoLength : Bool} {sn_NoLength : List Str} {co_NoLength : Option Bool} {dd_NoLength : Option Addr} {k0_NoLength k1_NoLength k2_NoLength k3_NoLength k5_NoLength : Option Value} {nc_NoLength : Value} {nd_NoLength : Option Addr} {ne_NoLength : Array DictEntry} {np_NoLength : Nat} {nl_NoLength : Array (Option Value)} {N_HallError : Addr} {nm_HallError qn_HallError : Str} {bs_HallError sb_HallError : List Value} {hd_HallError ab_HallError : Bool} {sn_HallError : List Str} {co_HallError : Option Bool} {dd_HallError : Option Addr} {k0_HallError k1_HallError k2_HallError k3_HallError k5_HallError : Option Value} {nc_HallError : Value} {nd_HallError : Option Addr} {ne_HallError : Array DictEntry} {np_HallError : Nat} {nl_HallError : Array (Option Value)}
    (X : K.In h) (G : h.Ns mainGlobals mg) (hfa : mg "law" = some (.ref fa))
    (a_is_made_of : PySem.W.nsIn K mainGlobals "is_made_of" = some (some (.ref A_is_made_of)))
    (l_is_made_of : K.lookup A_is_made_of = some ⟨oc_is_made_of, od_is_made_of, .func (PySem.W.fnOf "is_made_of" "is_made_of" (defArgs s_is_made_of) (defBody s_is_made_of) (defScope s_is_made_of) .none kV_is_made_of dc_is_made_of pm_is_made_of an_is_made_of cd_is_made_of ct_is_made_of), sl_is_made_of⟩)
    (cd_is_made_of' : PySem.W.codeIn K cd_is_made_of "is_made_of" = true)
    (k_is_made_of : PySem.W.keepIn K (.ref A_is_made_of) = true)
    (a_is_number : PySem.W.nsIn K mainGlobals "is_number" = some (some (.ref A_is_number)))
    (l_is_number : K.lookup A_is_number = some ⟨oc_is_number, od_is_number, .func (PySem.W.fnOf "is_number" "is_number" (defArgs s_is_number) (defBody s_is_number) (defScope s_is_number) .none kV_is_number dc_is_number pm_is_number an_is_number cd_is_number ct_is_number), sl_is_number⟩)
    (cd_is_number' : PySem.W.codeIn K cd_is_number "is_number" = true)
    (k_is_number : PySem.W.keepIn K (.ref A_is_number) = true)
    (a_is_two_figures : PySem.W.nsIn K mainGlobals "is_two_figures" = some (some (.ref A_is_two_figures)))
    (l_is_two_figures : K.lookup A_is_two_figures = some ⟨oc_is_two_figures, od_is_two_figures, .func (PySem.W.fnOf "is_two_figures" "is_two_figures" (defArgs s_is_two_figures) (defBody s_is_two_figures) (defScope s_is_two_figures) .none kV_is_two_figures dc_is_two_figures pm_is_two_figures an_is_two_figures cd_is_two_figures ct_is_two_figures), sl_is_two_figures⟩)
    (cd_is_two_figures' : PySem.W.codeIn K cd_is_two_figures "is_two_figures" = true)
    (k_is_two_figures : PySem.W.keepIn K (.ref A_is_two_figures) = true)
    (a_is_day : PySem.W.nsIn K mainGlobals "is_day" = some (some (.ref A_is_day)))
    (l_is_day : K.lookup A_is_day = some ⟨oc_is_day, od_is_day, .func (PySem.W.fnOf "is_day" "is_day" (defArgs s_is_day) (defBody s_is_day) (defScope s_is_day) .none kV_is_day dc_is_day pm_is_day an_is_day cd_is_day ct_is_day), sl_is_day⟩)
    (cd_is_day' : PySem.W.codeIn K cd_is_day "is_day" = true)
    (k_is_day : PySem.W.keepIn K (.ref A_is_day) = true)
    (a_day_read : PySem.W.nsIn K mainGlobals "day_read" = some (some (.ref A_day_read)))
    (l_day_read : K.lookup A_day_read = some ⟨oc_day_read, od_day_read, .func (PySem.W.fnOf "day_read" "day_read" (defArgs s_day_read) (defBody s_day_read) (defScope s_day_read) .none kV_day_read dc_day_read pm_day_read an_day_read cd_day_read ct_day_read), sl_day_read⟩)
    (cd_day_read' : PySem.W.codeIn K cd_day_read "day_read" = true)
    (k_day_read : PySem.W.keepIn K (.ref A_day_read) = true)
    (a_days_of_letter : PySem.W.nsIn K mainGlobals "days_of_letter" = some (some (.ref A_days_of_letter)))
    (l_days_of_letter : K.lookup A_days_of_letter = some ⟨oc_days_of_letter, od_days_of_letter, .func (PySem.W.fnOf "days_of_letter" "days_of_letter" (defArgs s_days_of_letter) (defBody s_days_of_letter) (defScope s_days_of_letter) .none kV_days_of_letter dc_days_of_letter pm_days_of_letter an_days_of_letter cd_days_of_letter ct_days_of_letter), sl_days_of_letter⟩)
    (cd_days_of_letter' : PySem.W.codeIn K cd_days_of_letter "days_of_letter" = true)
    (k_days_of_letter : PySem.W.keepIn K (.ref A_days_of_letter) = true)
    (a_length_read : PySem.W.nsIn K mainGlobals "length_read" = some (some (.ref A_length_read)))
    (l_length_read : K.lookup A_length_read = some ⟨oc_length_read, od_length_read, .func (PySem.W.fnOf "length_read" "length_read" (defArgs s_length_read) (defBody s_length_read) (defScope s_length_read) .none kV_length_read dc_length_read pm_length_read an_length_read cd_length_read ct_length_read), sl_length_read⟩)
    (cd_length_read' : PySem.W.codeIn K cd_length_read "length_read" = true)
    (k_length_read : PySem.W.keepIn K (.ref A_length_read) = true)
    (a_law_whole : PySem.W.nsIn K mainGlobals "_law_whole" = some (some (.ref A_law_whole)))
    (l_law_whole : K.lookup A_law_whole = some ⟨oc_law_whole, od_law_whole, .func (PySem.W.fnOf "_law_whole" "_law_whole" (defArgs s_law_whole) (defBody s_law_whole) (defScope s_law_whole) .none kV_law_whole dc_law_whole pm_law_whole an_law_whole cd_law_whole ct_law_whole), sl_law_whole⟩)
    (cd_law_whole' : PySem.W.codeIn K cd_law_whole "_law_whole" = true)
    (k_law_whole : PySem.W.keepIn K (.ref A_law_whole) = true)
    (a_law_sign_by : PySem.W.nsIn K mainGlobals "_law_sign_by" = some (some (.ref A_law_sign_by)))
    (l_law_sign_by : K.lookup A_law_sign_by = some ⟨oc_law_sign_by, od_law_sign_by, .func (PySem.W.fnOf "_law_sign_by" "_law_sign_by" (defArgs s_law_sign_by) (defBody s_law_sign_by) (defScope s_law_sign_by) .none kV_law_sign_by dc_law_sign_by pm_law_sign_by an_law_sign_by cd_law_sign_by ct_law_sign_by), sl_law_sign_by⟩)
    (cd_law_sign_by' : PySem.W.codeIn K cd_law_sign_by "_law_sign_by" = true)
    (k_law_sign_by : PySem.W.keepIn K (.ref A_law_sign_by) = true)
    (a_law_bent : PySem.W.nsIn K mainGlobals "_law_bent" = some (some (.ref A_law_bent)))
    (l_law_bent : K.lookup A_law_bent = some ⟨oc_law_bent, od_law_bent, .func (PySem.W.fnOf "_law_bent" "_law_bent" (defArgs s_law_bent) (defBody s_law_bent) (defScope s_law_bent) .none kV_law_bent dc_law_bent pm_law_bent an_law_bent cd_law_bent ct_law_bent), sl_law_bent⟩)
    (cd_law_bent' : PySem.W.codeIn K cd_law_bent "_law_bent" = true)
    (k_law_bent : PySem.W.keepIn K (.ref A_law_bent) = true)
    (a_law_figures : PySem.W.nsIn K mainGlobals "_law_figures" = some (some (.ref A_law_figures)))
    (l_law_figures : K.lookup A_law_figures = some ⟨oc_law_figures, od_law_figures, .func (PySem.W.fnOf "_law_figures" "_law_figures" (defArgs s_law_figures) (defBody s_law_figures) (defScope s_law_figures) .none kV_law_figures dc_law_figures pm_law_figures an_law_figures cd_law_figures ct_law_figures), sl_law_figures⟩)
    (cd_law_figures' : PySem.W.codeIn K cd_law_figures "_law_figures" = true)
    (k_law_figures : PySem.W.keepIn K (.ref A_law_figures) = true)
    (a_law_number : PySem.W.nsIn K mainGlobals "_law_number" = some (some (.ref A_law_number)))
    (l_law_number : K.lookup A_law_number = some ⟨oc_law_number, od_law_number, .func (PySem.W.fnOf "_law_number" "_law_number" (defArgs s_law_number) (defBody s_law_number) (defScope s_law_number) .none kV_law_number dc_law_number pm_law_number an_law_number cd_law_number ct_law_number), sl_law_number⟩)
    (cd_law_number' : PySem.W.codeIn K cd_law_number "_law_number" = true)
    (k_law_number : PySem.W.keepIn K (.ref A_law_number) = true)
    (a_law_day_due : PySem.W.nsIn K mainGlobals "_law_day_due" = some (some (.ref A_law_day_due)))
    (l_law_day_due : K.lookup A_law_day_due = some ⟨oc_law_day_due, od_law_day_due, .func (PySem.W.fnOf "_law_day_due" "_law_day_due" (defArgs s_law_day_due) (defBody s_law_day_due) (defScope s_law_day_due) .none kV_law_day_due dc_law_day_due pm_law_day_due an_law_day_due cd_law_day_due ct_law_day_due), sl_law_day_due⟩)
    (cd_law_day_due' : PySem.W.codeIn K cd_law_day_due "_law_day_due" = true)
    (k_law_day_due : PySem.W.keepIn K (.ref A_law_day_due) = true)
    (a_law_length_due : PySem.W.nsIn K mainGlobals "_law_length_due" = some (some (.ref A_law_length_due)))
    (l_law_length_due : K.lookup A_law_length_due = some ⟨oc_law_length_due, od_law_length_due, .func (PySem.W.fnOf "_law_length_due" "_law_length_due" (defArgs s_law_length_due) (defBody s_law_length_due) (defScope s_law_length_due) .none kV_law_length_due dc_law_length_due pm_law_length_due an_law_length_due cd_law_length_due ct_law_length_due), sl_law_length_due⟩)
    (cd_law_length_due' : PySem.W.codeIn K cd_law_length_due "_law_length_due" = true)
    (k_law_length_due : PySem.W.keepIn K (.ref A_law_length_due) = true)
    (a_law_refused : PySem.W.nsIn K mainGlobals "_law_refused" = some (some (.ref A_law_refused)))
    (l_law_refused : K.lookup A_law_refused = some ⟨oc_law_refused, od_law_refused, .func (PySem.W.fnOf "_law_refused" "_law_refused" (defArgs s_law_refused) (defBody s_law_refused) (defScope s_law_refused) .none kV_law_refused dc_law_refused pm_law_refused an_law_refused cd_law_refused ct_law_refused), sl_law_refused⟩)
    (cd_law_refused' : PySem.W.codeIn K cd_law_refused "_law_refused" = true)
    (k_law_refused : PySem.W.keepIn K (.ref A_law_refused) = true)
    (a_law_day_so : PySem.W.nsIn K mainGlobals "_law_day_so" = some (some (.ref A_law_day_so)))
    (l_law_day_so : K.lookup A_law_day_so = some ⟨oc_law_day_so, od_law_day_so, .func (PySem.W.fnOf "_law_day_so" "_law_day_so" (defArgs s_law_day_so) (defBody s_law_day_so) (defScope s_law_day_so) .none kV_law_day_so dc_law_day_so pm_law_day_so an_law_day_so cd_law_day_so ct_law_day_so), sl_law_day_so⟩)
    (cd_law_day_so' : PySem.W.codeIn K cd_law_day_so "_law_day_so" = true)
    (k_law_day_so : PySem.W.keepIn K (.ref A_law_day_so) = true)
    (a_law_length_so : PySem.W.nsIn K mainGlobals "_law_length_so" = some (some (.ref A_law_length_so)))
    (l_law_length_so : K.lookup A_law_length_so = some ⟨oc_law_length_so, od_law_length_so, .func (PySem.W.fnOf "_law_length_so" "_law_length_so" (defArgs s_law_length_so) (defBody s_law_length_so) (defScope s_law_length_so) .none kV_law_length_so dc_law_length_so pm_law_length_so an_law_length_so cd_law_length_so ct_law_length_so), sl_law_length_so⟩)
    (cd_law_length_so' : PySem.W.codeIn K cd_law_length_so "_law_length_so" = true)
    (k_law_length_so : PySem.W.keepIn K (.ref A_law_length_so) = true)
    (a_law_odd : PySem.W.nsIn K mainGlobals "_law_odd" = some (some (.ref A_law_odd)))
    (l_law_odd : K.lookup A_law_odd = some ⟨oc_law_odd, od_law_odd, .func (PySem.W.fnOf "_law_odd" "_law_odd" (defArgs s_law_odd) (defBody s_law_odd) (defScope s_law_odd) .none kV_law_odd dc_law_odd pm_law_odd an_law_odd cd_law_odd ct_law_odd), sl_law_odd⟩)
    (cd_law_odd' : PySem.W.codeIn K cd_law_odd "_law_odd" = true)
    (k_law_odd : PySem.W.keepIn K (.ref A_law_odd) = true)
    (a_law_holds : PySem.W.nsIn K mainGlobals "_law_holds" = some (some (.ref A_law_holds)))
    (l_law_holds : K.lookup A_law_holds = some ⟨oc_law_holds, od_law_holds, .func (PySem.W.fnOf "_law_holds" "_law_holds" (defArgs s_law_holds) (defBody s_law_holds) (defScope s_law_holds) .none kV_law_holds dc_law_holds pm_law_holds an_law_holds cd_law_holds ct_law_holds), sl_law_holds⟩)
    (cd_law_holds' : PySem.W.codeIn K cd_law_holds "_law_holds" = true)
    (k_law_holds : PySem.W.keepIn K (.ref A_law_holds) = true)
    (a_law : PySem.W.nsIn K mainGlobals "law" = some (some (.ref A_law)))
    (l_law : K.lookup A_law = some ⟨oc_law, od_law, .func (PySem.W.fnOf "law" "law" (defArgs s_law) (defBody s_law) (defScope s_law) .none kV_law dc_law pm_law an_law cd_law ct_law), sl_law⟩)
    (cd_law' : PySem.W.codeIn K cd_law "law" = true)
    (k_law : PySem.W.keepIn K (.ref A_law) = true)
    (aC_HallError : PySem.W.nsIn K mainGlobals "HallError" = some (some (.ref C_HallError)))
    (aC_NoDay : PySem.W.nsIn K mainGlobals "NoDay" = some (some (.ref C_NoDay)))
    (aC_NoLength : PySem.W.nsIn K mainGlobals "NoLength" = some (some (.ref C_NoLength)))
    (aC_HeldTwice : PySem.W.nsIn K mainGlobals "HeldTwice" = some (some (.ref C_HeldTwice)))
    (aC_NoBook : PySem.W.nsIn K mainGlobals "NoBook" = some (some (.ref C_NoBook)))
    (aC_NoRow : PySem.W.nsIn K mainGlobals "NoRow" = some (some (.ref C_NoRow)))
    (aC_NoSeries : PySem.W.nsIn K mainGlobals "NoSeries" = some (some (.ref C_NoSeries)))
    (aC_NoTerm : PySem.W.nsIn K mainGlobals "NoTerm" = some (some (.ref C_NoTerm)))
    (aC_PutTwice : PySem.W.nsIn K mainGlobals "PutTwice" = some (some (.ref C_PutTwice)))
    (aC_RunBack : PySem.W.nsIn K mainGlobals "RunBack" = some (some (.ref C_RunBack)))
    (aC_TooWide : PySem.W.nsIn K mainGlobals "TooWide" = some (some (.ref C_TooWide)))
    (aC_Unlike : PySem.W.nsIn K mainGlobals "Unlike" = some (some (.ref C_Unlike)))
    (g_YEAR_DAYS : PySem.W.nsIn K mainGlobals "YEAR_DAYS" = some (some (.int 360 t_YEAR_DAYS)))
    (g_MONTH_DAYS : PySem.W.nsIn K mainGlobals "MONTH_DAYS" = some (some (.int 30 t_MONTH_DAYS)))
    (g_YEAR_MONTHS : PySem.W.nsIn K mainGlobals "YEAR_MONTHS" = some (some (.int 12 t_YEAR_MONTHS)))
    (g_MOST_FIGURES : PySem.W.nsIn K mainGlobals "MOST_FIGURES" = some (some (.int 40 t_MOST_FIGURES)))
    (g_FIGURES : PySem.W.nsIn K mainGlobals "FIGURES" = some (some (.str x_FIGURES t_FIGURES)))
    (e_FIGURES : x_FIGURES = c_FIGURES)
    (xl_NoDay : K.lookup C_NoDay = some (excClassObj nm_NoDay qn_NoDay C_NoDay N_NoDay bs_NoDay [.ref C_HallError, .type "ValueError", .type "Exception", .type "BaseException", .type "object"] hd_NoDay sn_NoDay sb_NoDay ab_NoDay co_NoDay dd_NoDay k0_NoDay k1_NoDay k2_NoDay k3_NoDay k5_NoDay "ValueError.__new__"))
    (xN_NoDay : K.lookup N_NoDay = some ⟨nc_NoDay, nd_NoDay, .dict ne_NoDay np_NoDay, nl_NoDay⟩)
    (xe_NoDay : strKeys ne_NoDay = true)
    (xi_NoDay : PySem.W.nsIn K N_NoDay "__init__" = some none)
    (xl_NoLength : K.lookup C_NoLength = some (excClassObj nm_NoLength qn_NoLength C_NoLength N_NoLength bs_NoLength [.ref C_HallError, .type "ValueError", .type "Exception", .type "BaseException", .type "object"] hd_NoLength sn_NoLength sb_NoLength ab_NoLength co_NoLength dd_NoLength k0_NoLength k1_NoLength k2_NoLength k3_NoLength k5_NoLength "ValueError.__new__"))
    (xN_NoLength : K.lookup N_NoLength = some ⟨nc_NoLength, nd_NoLength, .dict ne_NoLength np_NoLength, nl_NoLength⟩)
    (xe_NoLength : strKeys ne_NoLength = true)
    (xi_NoLength : PySem.W.nsIn K N_NoLength "__init__" = some none)
    (xl_HallError : K.lookup C_HallError = some (excClassObj nm_HallError qn_HallError C_HallError N_HallError bs_HallError [.type "ValueError", .type "Exception", .type "BaseException", .type "object"] hd_HallError sn_HallError sb_HallError ab_HallError co_HallError dd_HallError k0_HallError k1_HallError k2_HallError k3_HallError k5_HallError "ValueError.__new__"))
    (xN_HallError : K.lookup N_HallError = some ⟨nc_HallError, nd_HallError, .dict ne_HallError np_HallError, nl_HallError⟩)
    (xe_HallError : strKeys ne_HallError = true)
    (xi_HallError : PySem.W.nsIn K N_HallError "__init__" = some none)
    (xk_NoDay : (PySem.W.kitCls K (.ref C_NoDay) (.ref C_NoDay)).isSome = true)
    (xg_NoDay : PySem.W.findIn K (.ref C_NoDay) "__getattribute__" = some (some (.builtin "BaseException.__getattribute__")))
    (xh_NoDay : PySem.W.findIn K (.ref C_NoDay) "__getattr__" = some none)
    (xs_NoDay : PySem.W.findIn K (.ref C_NoDay) "__class__" = some (some (.builtin "object.__class__")))
    (xo_NoDay : PySem.W.mroIn K C_NoDay (.type "object") = some true)
    (xb_NoDay : PySem.W.subIn K (.ref C_NoDay) (.type "BaseException") = some true)
    (xk_NoLength : (PySem.W.kitCls K (.ref C_NoLength) (.ref C_NoLength)).isSome = true)
    (xg_NoLength : PySem.W.findIn K (.ref C_NoLength) "__getattribute__" = some (some (.builtin "BaseException.__getattribute__")))
    (xh_NoLength : PySem.W.findIn K (.ref C_NoLength) "__getattr__" = some none)
    (xs_NoLength : PySem.W.findIn K (.ref C_NoLength) "__class__" = some (some (.builtin "object.__class__")))
    (xo_NoLength : PySem.W.mroIn K C_NoLength (.type "object") = some true)
    (xb_NoLength : PySem.W.subIn K (.ref C_NoLength) (.type "BaseException") = some true)
    (hn : PySem.W.specialIn K (.builtin "object.__class__") "__get__" = some (some (.builtin "getset_descriptor.__get__")))
    (htk : PySem.W.takesIn K (.builtin "object.__class__") = some true)
    (f_xm_d : PySem.W.exmOne K (.ref C_NoDay) (.ref C_HallError) = some true)
    (f_xm_l : PySem.W.exmOne K (.ref C_NoLength) (.ref C_HallError) = some true)
    (f_i_dv : PySem.W.kitOne K (.ref C_NoDay) (.type "ValueError") = some true)
    (f_i_lv : PySem.W.kitOne K (.ref C_NoLength) (.type "ValueError") = some true)
    (f_i_dd : PySem.W.kitOne K (.ref C_NoDay) (.ref C_NoDay) = some true)
    (f_i_ld : PySem.W.kitOne K (.ref C_NoLength) (.ref C_NoDay) = some false)
    (f_i_dl : PySem.W.kitOne K (.ref C_NoDay) (.ref C_NoLength) = some false)
    (f_i_ll : PySem.W.kitOne K (.ref C_NoLength) (.ref C_NoLength) = some true)
    (f_i_dh : PySem.W.kitOne K (.ref C_NoDay) (.ref C_HallError) = some true)
    (f_i_lh : PySem.W.kitOne K (.ref C_NoLength) (.ref C_HallError) = some true)
    (f_i_do : PySem.W.kitAny K (.ref C_NoDay) [.ref C_HeldTwice, .ref C_NoBook, .ref C_NoRow, .ref C_NoSeries, .ref C_NoTerm, .ref C_PutTwice, .ref C_RunBack, .ref C_TooWide, .ref C_Unlike] = some false)
    (f_i_lo : PySem.W.kitAny K (.ref C_NoLength) [.ref C_HeldTwice, .ref C_NoBook, .ref C_NoRow, .ref C_NoSeries, .ref C_NoTerm, .ref C_PutTwice, .ref C_RunBack, .ref C_TooWide, .ref C_Unlike] = some false)
    (z_ValueError : PySem.W.nsIn K mainGlobals "ValueError" = some none)
    (z_all : PySem.W.nsIn K mainGlobals "all" = some none)
    (z_bool : PySem.W.nsIn K mainGlobals "bool" = some none)
    (z_int : PySem.W.nsIn K mainGlobals "int" = some none)
    (z_isinstance : PySem.W.nsIn K mainGlobals "isinstance" = some none)
    (z_len : PySem.W.nsIn K mainGlobals "len" = some none)
    (z_range : PySem.W.nsIn K mainGlobals "range" = some none)
    (z_str : PySem.W.nsIn K mainGlobals "str" = some none)
    (kib : PySem.W.kitOne K (.type "int") (.type "bool") = some false)
    (kii : PySem.W.kitOne K (.type "int") (.type "int") = some true)
    : ∃ fd : FuncData, (∀ (s : Shared) (v : Value), BindsTo s fd ⟨[v], []⟩ [("_law_script", v)]) ∧ ∀ base : Heap, K.In base → base.Ns mainGlobals mg → FnOk l.prog w K mg base CX0 7 fa fd ["_law_script"] (spLaw K) := by
  have e := hfa.symm.trans (PySem.W.mg_of X G a_law)
  cases e
  subst e_FIGURES
  have T : Txt K mg t_YEAR_DAYS t_MONTH_DAYS t_YEAR_MONTHS t_MOST_FIGURES t_FIGURES C_HallError C_NoDay C_NoLength C_HeldTwice C_NoBook C_NoRow C_NoSeries C_NoTerm C_PutTwice C_RunBack C_TooWide C_Unlike := ⟨PySem.W.mg_of X G g_YEAR_DAYS, PySem.W.mg_of X G g_MONTH_DAYS, PySem.W.mg_of X G g_YEAR_MONTHS, PySem.W.mg_of X G g_MOST_FIGURES, PySem.W.mg_of X G g_FIGURES, PySem.W.mg_none_of X G z_ValueError, PySem.W.mg_none_of X G z_all, PySem.W.mg_none_of X G z_bool, PySem.W.mg_none_of X G z_int, PySem.W.mg_none_of X G z_isinstance, PySem.W.mg_none_of X G z_len, PySem.W.mg_none_of X G z_range, PySem.W.mg_none_of X G z_str, kib, kii, PySem.W.mg_of X G aC_HallError, PySem.W.mg_of X G aC_NoDay, PySem.W.mg_of X G aC_NoLength, PySem.W.mg_of X G aC_HeldTwice, PySem.W.mg_of X G aC_NoBook, PySem.W.mg_of X G aC_NoRow, PySem.W.mg_of X G aC_NoSeries, PySem.W.mg_of X G aC_NoTerm, PySem.W.mg_of X G aC_PutTwice, PySem.W.mg_of X G aC_RunBack, PySem.W.mg_of X G aC_TooWide, PySem.W.mg_of X G aC_Unlike, ⟨xk_NoDay, xg_NoDay, xh_NoDay, xs_NoDay, hn, htk, xo_NoDay, xb_NoDay⟩, ⟨xk_NoLength, xg_NoLength, xh_NoLength, xs_NoLength, hn, htk, xo_NoLength, xb_NoLength⟩, f_xm_d, f_xm_l, f_i_dv, f_i_lv, f_i_dd, f_i_ld, f_i_dl, f_i_ll, f_i_dh, f_i_lh, f_i_do, f_i_lo⟩
  have F_is_made_of := fun_mk (st := s_is_made_of) l_is_made_of cd_is_made_of' k_is_made_of
  have b_is_made_of := F_is_made_of.binds (ps := ["text", "signs"]) fun _ _ _ _ _ _ us hl => match us, hl with | [_, _], _ => rfl
  have F_is_number := fun_mk (st := s_is_number) l_is_number cd_is_number' k_is_number
  have b_is_number := F_is_number.binds (ps := ["text"]) fun _ _ _ _ _ _ us hl => match us, hl with | [_], _ => rfl
  have F_is_two_figures := fun_mk (st := s_is_two_figures) l_is_two_figures cd_is_two_figures' k_is_two_figures
  have b_is_two_figures := F_is_two_figures.binds (ps := ["text", "most"]) fun _ _ _ _ _ _ us hl => match us, hl with | [_, _], _ => rfl
  have F_is_day := fun_mk (st := s_is_day) l_is_day cd_is_day' k_is_day
  have b_is_day := F_is_day.binds (ps := ["parts"]) fun _ _ _ _ _ _ us hl => match us, hl with | [_], _ => rfl
  have F_day_read := fun_mk (st := s_day_read) l_day_read cd_day_read' k_day_read
  have b_day_read := F_day_read.binds (ps := ["text"]) fun _ _ _ _ _ _ us hl => match us, hl with | [_], _ => rfl
  have F_days_of_letter := fun_mk (st := s_days_of_letter) l_days_of_letter cd_days_of_letter' k_days_of_letter
  have b_days_of_letter := F_days_of_letter.binds (ps := ["letter"]) fun _ _ _ _ _ _ us hl => match us, hl with | [_], _ => rfl
  have F_length_read := fun_mk (st := s_length_read) l_length_read cd_length_read' k_length_read
  have b_length_read := F_length_read.binds (ps := ["text"]) fun _ _ _ _ _ _ us hl => match us, hl with | [_], _ => rfl
  have F_law_whole := fun_mk (st := s_law_whole) l_law_whole cd_law_whole' k_law_whole
  have b_law_whole := F_law_whole.binds (ps := ["_law_found"]) fun _ _ _ _ _ _ us hl => match us, hl with | [_], _ => rfl
  have F_law_sign_by := fun_mk (st := s_law_sign_by) l_law_sign_by cd_law_sign_by' k_law_sign_by
  have b_law_sign_by := F_law_sign_by.binds (ps := ["_law_cell"]) fun _ _ _ _ _ _ us hl => match us, hl with | [_], _ => rfl
  have F_law_bent := fun_mk (st := s_law_bent) l_law_bent cd_law_bent' k_law_bent
  have b_law_bent := F_law_bent.binds (ps := ["_law_text", "_law_cell"]) fun _ _ _ _ _ _ us hl => match us, hl with | [_, _], _ => rfl
  have F_law_figures := fun_mk (st := s_law_figures) l_law_figures cd_law_figures' k_law_figures
  have b_law_figures := F_law_figures.binds (ps := ["_law_text", "_law_most"]) fun _ _ _ _ _ _ us hl => match us, hl with | [_, _], _ => rfl
  have F_law_number := fun_mk (st := s_law_number) l_law_number cd_law_number' k_law_number
  have b_law_number := F_law_number.binds (ps := ["_law_text"]) fun _ _ _ _ _ _ us hl => match us, hl with | [_], _ => rfl
  have F_law_day_due := fun_mk (st := s_law_day_due) l_law_day_due cd_law_day_due' k_law_day_due
  have b_law_day_due := F_law_day_due.binds (ps := ["_law_text"]) fun _ _ _ _ _ _ us hl => match us, hl with | [_], _ => rfl
  have F_law_length_due := fun_mk (st := s_law_length_due) l_law_length_due cd_law_length_due' k_law_length_due
  have b_law_length_due := F_law_length_due.binds (ps := ["_law_text"]) fun _ _ _ _ _ _ us hl => match us, hl with | [_], _ => rfl
  have F_law_refused := fun_mk (st := s_law_refused) l_law_refused cd_law_refused' k_law_refused
  have b_law_refused := F_law_refused.binds (ps := ["_law_told", "_law_one"]) fun _ _ _ _ _ _ us hl => match us, hl with | [_, _], _ => rfl
  have F_law_day_so := fun_mk (st := s_law_day_so) l_law_day_so cd_law_day_so' k_law_day_so
  have b_law_day_so := F_law_day_so.binds (ps := ["_law_text"]) fun _ _ _ _ _ _ us hl => match us, hl with | [_], _ => rfl
  have F_law_length_so := fun_mk (st := s_law_length_so) l_law_length_so cd_law_length_so' k_law_length_so
  have b_law_length_so := F_law_length_so.binds (ps := ["_law_text"]) fun _ _ _ _ _ _ us hl => match us, hl with | [_], _ => rfl
  have F_law_odd := fun_mk (st := s_law_odd) l_law_odd cd_law_odd' k_law_odd
  have b_law_odd := F_law_odd.binds (ps := ["_law_cell"]) fun _ _ _ _ _ _ us hl => match us, hl with | [_], _ => rfl
  have F_law_holds := fun_mk (st := s_law_holds) l_law_holds cd_law_holds' k_law_holds
  have b_law_holds := F_law_holds.binds (ps := ["_law_cell", "_law_other"]) fun _ _ _ _ _ _ us hl => match us, hl with | [_, _], _ => rfl
  have F_law := fun_mk (st := s_law) l_law cd_law' k_law
  have b_law := F_law.binds (ps := ["_law_script"]) fun _ _ _ _ _ _ us hl => match us, hl with | [_], _ => rfl
  refine ⟨PySem.W.fnOf "law" "law" (defArgs s_law) (defBody s_law) (defScope s_law) .none kV_law dc_law pm_law an_law cd_law ct_law, fun s v => .of_eq rfl, fun base Kb _ => ?_⟩
  have o_NoDay : OwnX "NoDay" C_NoDay mg base := ⟨PySem.W.mg_of X G aC_NoDay, _, _, _, _, _, _, _, _, _, _, _, _, _, _, _, _, _, Kb _ _ xl_NoDay, .of_isNs (PySem.W.isNs_of_in Kb (nsOk_of xN_NoDay xe_NoDay)), PySem.W.nsMap_none_of_in Kb (nsOk_of xN_NoDay xe_NoDay) xi_NoDay, .own (Kb _ _ xl_HallError) (.of_isNs (PySem.W.isNs_of_in Kb (nsOk_of xN_HallError xe_HallError))) (PySem.W.nsMap_none_of_in Kb (nsOk_of xN_HallError xe_HallError) xi_HallError) .base⟩
  have o_NoLength : OwnX "NoLength" C_NoLength mg base := ⟨PySem.W.mg_of X G aC_NoLength, _, _, _, _, _, _, _, _, _, _, _, _, _, _, _, _, _, Kb _ _ xl_NoLength, .of_isNs (PySem.W.isNs_of_in Kb (nsOk_of xN_NoLength xe_NoLength)), PySem.W.nsMap_none_of_in Kb (nsOk_of xN_NoLength xe_NoLength) xi_NoLength, .own (Kb _ _ xl_HallError) (.of_isNs (PySem.W.isNs_of_in Kb (nsOk_of xN_HallError xe_HallError))) (PySem.W.nsMap_none_of_in Kb (nsOk_of xN_HallError xe_HallError) xi_HallError) .base⟩
  have c_is_made_of : Cal l.prog w K mg base CX0 1 "is_made_of" ["text", "signs"] sp_is_made_of := ⟨_, _, PySem.W.mg_of X G a_is_made_of, k_is_made_of, b_is_made_of, ok_is_made_of F_is_made_of T⟩
  have c_is_number : Cal l.prog w K mg base CX0 2 "is_number" ["text"] sp_is_number := ⟨_, _, PySem.W.mg_of X G a_is_number, k_is_number, b_is_number, ok_is_number F_is_number T c_is_made_of⟩
  have c_is_two_figures : Cal l.prog w K mg base CX0 2 "is_two_figures" ["text", "most"] sp_is_two_figures := ⟨_, _, PySem.W.mg_of X G a_is_two_figures, k_is_two_figures, b_is_two_figures, ok_is_two_figures F_is_two_figures T c_is_made_of⟩
  have c_is_day : Cal l.prog w K mg base CX0 3 "is_day" ["parts"] sp_is_day := ⟨_, _, PySem.W.mg_of X G a_is_day, k_is_day, b_is_day, ok_is_day F_is_day T c_is_number c_is_two_figures⟩
  have c_day_read : Cal l.prog w K mg base (CXr l.prog w) 4 "day_read" ["text"] (sp_day_read C_NoDay) := ⟨_, _, PySem.W.mg_of X G a_day_read, k_day_read, b_day_read, ok_day_read F_day_read T o_NoDay c_is_day⟩
  have c_days_of_letter : Cal l.prog w K mg base CX0 1 "days_of_letter" ["letter"] sp_days_of_letter := ⟨_, _, PySem.W.mg_of X G a_days_of_letter, k_days_of_letter, b_days_of_letter, ok_days_of_letter F_days_of_letter T⟩
  have c_length_read : Cal l.prog w K mg base (CXr l.prog w) 3 "length_read" ["text"] (sp_length_read C_NoLength) := ⟨_, _, PySem.W.mg_of X G a_length_read, k_length_read, b_length_read, ok_length_read F_length_read T o_NoLength c_days_of_letter c_is_number⟩
  have c_law_whole : Cal l.prog w K mg base CX0 1 "_law_whole" ["_law_found"] sp_law_whole := ⟨_, _, PySem.W.mg_of X G a_law_whole, k_law_whole, b_law_whole, ok_law_whole F_law_whole T⟩
  have c_law_sign_by : Cal l.prog w K mg base CX0 1 "_law_sign_by" ["_law_cell"] sp_law_sign_by := ⟨_, _, PySem.W.mg_of X G a_law_sign_by, k_law_sign_by, b_law_sign_by, ok_law_sign_by F_law_sign_by T⟩
  have c_law_bent : Cal l.prog w K mg base CX0 2 "_law_bent" ["_law_text", "_law_cell"] sp_law_bent := ⟨_, _, PySem.W.mg_of X G a_law_bent, k_law_bent, b_law_bent, ok_law_bent F_law_bent T c_law_sign_by⟩
  have c_law_figures : Cal l.prog w K mg base CX0 1 "_law_figures" ["_law_text", "_law_most"] sp_law_figures := ⟨_, _, PySem.W.mg_of X G a_law_figures, k_law_figures, b_law_figures, ok_law_figures F_law_figures T⟩
  have c_law_number : Cal l.prog w K mg base CX0 2 "_law_number" ["_law_text"] sp_law_number := ⟨_, _, PySem.W.mg_of X G a_law_number, k_law_number, b_law_number, ok_law_number F_law_number T c_law_figures⟩
  have c_law_day_due : Cal l.prog w K mg base CX0 3 "_law_day_due" ["_law_text"] sp_law_day_due := ⟨_, _, PySem.W.mg_of X G a_law_day_due, k_law_day_due, b_law_day_due, ok_law_day_due F_law_day_due T c_law_figures c_law_number⟩
  have c_law_length_due : Cal l.prog w K mg base CX0 3 "_law_length_due" ["_law_text"] sp_law_length_due := ⟨_, _, PySem.W.mg_of X G a_law_length_due, k_law_length_due, b_law_length_due, ok_law_length_due F_law_length_due T c_law_number⟩
  have c_law_refused : Cal l.prog w K mg base CX0 1 "_law_refused" ["_law_told", "_law_one"] (sp_law_refused C_NoDay C_NoLength) := ⟨_, _, PySem.W.mg_of X G a_law_refused, k_law_refused, b_law_refused, ok_law_refused F_law_refused T⟩
  have c_law_day_so : Cal l.prog w K mg base CX0 5 "_law_day_so" ["_law_text"] sp_law_day_so := ⟨_, _, PySem.W.mg_of X G a_law_day_so, k_law_day_so, b_law_day_so, ok_law_day_so F_law_day_so T c_law_day_due c_law_refused c_law_whole c_day_read⟩
  have c_law_length_so : Cal l.prog w K mg base CX0 4 "_law_length_so" ["_law_text"] sp_law_length_so := ⟨_, _, PySem.W.mg_of X G a_law_length_so, k_law_length_so, b_law_length_so, ok_law_length_so F_law_length_so T c_law_length_due c_law_refused c_law_whole c_length_read⟩
  have c_law_odd : Cal l.prog w K mg base CX0 1 "_law_odd" ["_law_cell"] sp_law_odd := ⟨_, _, PySem.W.mg_of X G a_law_odd, k_law_odd, b_law_odd, ok_law_odd F_law_odd T⟩
  have c_law_holds : Cal l.prog w K mg base CX0 6 "_law_holds" ["_law_cell", "_law_other"] sp_law_holds := ⟨_, _, PySem.W.mg_of X G a_law_holds, k_law_holds, b_law_holds, ok_law_holds F_law_holds T c_law_bent c_law_day_so c_law_length_so c_law_odd⟩
  exact ok_law F_law T c_law_holds
end K03
open PySem PySem.W PyProof.Rows
set_option maxRecDepth 100000 in
set_option maxHeartbeats 0 in
theorem PySem.Challenge.cw_disposehall_k03_no_day_no_length_holds : PySem.Challenge.rw_disposehall_k03_no_day_no_length.Holds := by
  w_on; o_law; k_head; (case hw => w_witness2)
  k_fill
  refine L3.walkB (l := PySem.Challenge.rw_disposehall_k03_no_day_no_length) (k := 7) (x := "_law_script") rfl rfl ⟨rfl, by decide, by decide⟩ (fun w h Y => PySem.W.kIn_of Y) ?F
  case F =>
    intro w mg fa h KX G hmg
    refine' K03.all_mk KX G hmg ?a_is_made_of ?l_is_made_of ?cd_is_made_of2 ?k_is_made_of ?a_is_number ?l_is_number ?cd_is_number2 ?k_is_number ?a_is_two_figures ?l_is_two_figures ?cd_is_two_figures2 ?k_is_two_figures ?a_is_day ?l_is_day ?cd_is_day2 ?k_is_day ?a_day_read ?l_day_read ?cd_day_read2 ?k_day_read ?a_days_of_letter ?l_days_of_letter ?cd_days_of_letter2 ?k_days_of_letter ?a_length_read ?l_length_read ?cd_length_read2 ?k_length_read ?a_law_whole ?l_law_whole ?cd_law_whole2 ?k_law_whole ?a_law_sign_by ?l_law_sign_by ?cd_law_sign_by2 ?k_law_sign_by ?a_law_bent ?l_law_bent ?cd_law_bent2 ?k_law_bent ?a_law_figures ?l_law_figures ?cd_law_figures2 ?k_law_figures ?a_law_number ?l_law_number ?cd_law_number2 ?k_law_number ?a_law_day_due ?l_law_day_due ?cd_law_day_due2 ?k_law_day_due ?a_law_length_due ?l_law_length_due ?cd_law_length_due2 ?k_law_length_due ?a_law_refused ?l_law_refused ?cd_law_refused2 ?k_law_refused ?a_law_day_so ?l_law_day_so ?cd_law_day_so2 ?k_law_day_so ?a_law_length_so ?l_law_length_so ?cd_law_length_so2 ?k_law_length_so ?a_law_odd ?l_law_odd ?cd_law_odd2 ?k_law_odd ?a_law_holds ?l_law_holds ?cd_law_holds2 ?k_law_holds ?a_law ?l_law ?cd_law2 ?k_law ?aC_HallError ?aC_NoDay ?aC_NoLength ?aC_HeldTwice ?aC_NoBook ?aC_NoRow ?aC_NoSeries ?aC_NoTerm ?aC_PutTwice ?aC_RunBack ?aC_TooWide ?aC_Unlike ?g_YEAR_DAYS ?g_MONTH_DAYS ?g_YEAR_MONTHS ?g_MOST_FIGURES ?g_FIGURES ?e_FIGURES ?xl_NoDay ?xN_NoDay ?xe_NoDay ?xi_NoDay ?xl_NoLength ?xN_NoLength ?xe_NoLength ?xi_NoLength ?xl_HallError ?xN_HallError ?xe_HallError ?xi_HallError ?xk_NoDay ?xg_NoDay ?xh_NoDay ?xs_NoDay ?xo_NoDay ?xb_NoDay ?xk_NoLength ?xg_NoLength ?xh_NoLength ?xs_NoLength ?xo_NoLength ?xb_NoLength ?hn ?htk ?f_xm_d ?f_xm_l ?f_i_dv ?f_i_lv ?f_i_dd ?f_i_ld ?f_i_dl ?f_i_ll ?f_i_dh ?f_i_lh ?f_i_do ?f_i_lo ?z_ValueError ?z_all ?z_bool ?z_int ?z_isinstance ?z_len ?z_range ?z_str ?kib ?kii
    (case a_is_made_of => k_is)
    (case a_is_number => k_is)
    (case a_is_two_figures => k_is)
    (case a_is_day => k_is)
    (case a_day_read => k_is)
    (case a_days_of_letter => k_is)
    (case a_length_read => k_is)
    (case a_law_whole => k_is)
    (case a_law_sign_by => k_is)
    (case a_law_bent => k_is)
    (case a_law_figures => k_is)
    (case a_law_number => k_is)
    (case a_law_day_due => k_is)
    (case a_law_length_due => k_is)
    (case a_law_refused => k_is)
    (case a_law_day_so => k_is)
    (case a_law_length_so => k_is)
    (case a_law_odd => k_is)
    (case a_law_holds => k_is)
    (case a_law => k_is)
    (case aC_HallError => k_is)
    (case aC_NoDay => k_is)
    (case aC_NoLength => k_is)
    (case aC_HeldTwice => k_is)
    (case aC_NoBook => k_is)
    (case aC_NoRow => k_is)
    (case aC_NoSeries => k_is)
    (case aC_NoTerm => k_is)
    (case aC_PutTwice => k_is)
    (case aC_RunBack => k_is)
    (case aC_TooWide => k_is)
    (case aC_Unlike => k_is)
    (case xl_NoDay => k_is)
    (case xl_NoLength => k_is)
    (case xl_HallError => k_is)
    (case xN_NoDay => k_is)
    (case xN_NoLength => k_is)
    (case xN_HallError => k_is)
    (case l_is_made_of => k_is)
    (case cd_is_made_of2 => k_is)
    (case k_is_made_of => k_is)
    (case l_is_number => k_is)
    (case cd_is_number2 => k_is)
    (case k_is_number => k_is)
    (case l_is_two_figures => k_is)
    (case cd_is_two_figures2 => k_is)
    (case k_is_two_figures => k_is)
    (case l_is_day => k_is)
    (case cd_is_day2 => k_is)
    (case k_is_day => k_is)
    (case l_day_read => k_is)
    (case cd_day_read2 => k_is)
    (case k_day_read => k_is)
    (case l_days_of_letter => k_is)
    (case cd_days_of_letter2 => k_is)
    (case k_days_of_letter => k_is)
    (case l_length_read => k_is)
    (case cd_length_read2 => k_is)
    (case k_length_read => k_is)
    (case l_law_whole => k_is)
    (case cd_law_whole2 => k_is)
    (case k_law_whole => k_is)
    (case l_law_sign_by => k_is)
    (case cd_law_sign_by2 => k_is)
    (case k_law_sign_by => k_is)
    (case l_law_bent => k_is)
    (case cd_law_bent2 => k_is)
    (case k_law_bent => k_is)
    (case l_law_figures => k_is)
    (case cd_law_figures2 => k_is)
    (case k_law_figures => k_is)
    (case l_law_number => k_is)
    (case cd_law_number2 => k_is)
    (case k_law_number => k_is)
    (case l_law_day_due => k_is)
    (case cd_law_day_due2 => k_is)
    (case k_law_day_due => k_is)
    (case l_law_length_due => k_is)
    (case cd_law_length_due2 => k_is)
    (case k_law_length_due => k_is)
    (case l_law_refused => k_is)
    (case cd_law_refused2 => k_is)
    (case k_law_refused => k_is)
    (case l_law_day_so => k_is)
    (case cd_law_day_so2 => k_is)
    (case k_law_day_so => k_is)
    (case l_law_length_so => k_is)
    (case cd_law_length_so2 => k_is)
    (case k_law_length_so => k_is)
    (case l_law_odd => k_is)
    (case cd_law_odd2 => k_is)
    (case k_law_odd => k_is)
    (case l_law_holds => k_is)
    (case cd_law_holds2 => k_is)
    (case k_law_holds => k_is)
    (case l_law => k_is)
    (case cd_law2 => k_is)
    (case k_law => k_is)
    (case g_YEAR_DAYS => k_is)
    (case g_MONTH_DAYS => k_is)
    (case g_YEAR_MONTHS => k_is)
    (case g_MOST_FIGURES => k_is)
    (case g_FIGURES => k_is)
    (case e_FIGURES => first | rfl | decide +kernel)
    (case xe_NoDay => first | rfl | decide +kernel | k_is)
    (case xi_NoDay => k_is)
    (case xe_NoLength => first | rfl | decide +kernel | k_is)
    (case xi_NoLength => k_is)
    (case xe_HallError => first | rfl | decide +kernel | k_is)
    (case xi_HallError => k_is)
    (case xk_NoDay => first | rfl | decide +kernel | k_is)
    (case xg_NoDay => k_is)
    (case xh_NoDay => k_is)
    (case xs_NoDay => k_is)
    (case xo_NoDay => k_is)
    (case xb_NoDay => k_is)
    (case xk_NoLength => first | rfl | decide +kernel | k_is)
    (case xg_NoLength => k_is)
    (case xh_NoLength => k_is)
    (case xs_NoLength => k_is)
    (case xo_NoLength => k_is)
    (case xb_NoLength => k_is)
    (case hn => k_is)
    (case htk => k_is)
    (case f_xm_d => first | rfl | decide +kernel | k_is)
    (case f_xm_l => first | rfl | decide +kernel | k_is)
    (case f_i_dv => first | rfl | decide +kernel | k_is)
    (case f_i_lv => first | rfl | decide +kernel | k_is)
    (case f_i_dd => first | rfl | decide +kernel | k_is)
    (case f_i_ld => first | rfl | decide +kernel | k_is)
    (case f_i_dl => first | rfl | decide +kernel | k_is)
    (case f_i_ll => first | rfl | decide +kernel | k_is)
    (case f_i_dh => first | rfl | decide +kernel | k_is)
    (case f_i_lh => first | rfl | decide +kernel | k_is)
    (case f_i_do => first | rfl | decide +kernel | k_is)
    (case f_i_lo => first | rfl | decide +kernel | k_is)
    (case z_ValueError => k_is)
    (case z_all => k_is)
    (case z_bool => k_is)
    (case z_int => k_is)
    (case z_isinstance => k_is)
    (case z_len => k_is)
    (case z_range => k_is)
    (case z_str => k_is)
    (case kib => first | rfl | decide +kernel | k_is)
    (case kii => first | rfl | decide +kernel | k_is)

