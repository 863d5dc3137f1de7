import PyProof.Rows.All
import Wide.All
import OpenK.AllK
import Wide.FinOn
import Lean
import PyProof.EqAt
import PyProof.EqKinds
import PyProof.TupleCall
import PySem.Challenge.RW_disposehall_k40_books_parted
set_option Elab.async false
set_option linter.all false
set_option maxRecDepth 100000
open PySem.W (callWith_K callWith_K0 cellsFrom_some dictOf emptyDict instObj isFn kIn_of keepIn keq_eq keq_ne kitx_dict kitx_list makesIn methodObj plainGet plainGet_of plainOver takerIn typeIn)
open PySem.F (entry_bexc_ga entry_dict_get excBase_ValueError slot_set_xor)
def aa:=@PySem.wpAny_bind
abbrev af:=PySem.Value
abbrev ah:=PySem.Shared
def ai:=@PySem.Heap.get?_push_of_some
abbrev aj:=PySem.Addr
def ao:=@List.length_map
def aq:=@PySem.wpAny_pure
abbrev au:=PySem.W.Frag
def aw:=@List.mem_append_right
def aB:=@List.mem_cons_self
def aE:=@Nat.le_refl
def aF:=@List.mem_cons_of_mem
def aG:=@PySem.AutoSeq1.wpAny_loadPart'
def aH:=@PySem.W.mg_of
def aJ:=@List.mem_cons
def aK:=@List.getElem?_eq_getElem
def aL:=@List.size_toArray
def aM:=@PySem.Heap.get?_push_size
def aT:=@List.map_cons
def aW:=@PySem.Heap.lt_size
def aX:=@if_neg
def aZ:=@List.length_cons
def a5:=@List.mem_map
def a7:=@PySem.strLen_append
def a8:=@List.mem_append
def ba:=@of_decide_eq_true
def bb:=@List.length_append
def bc:=@Nat.ne_of_lt
def bf:=@decide_eq_true
def bg:=@if_pos
def bj:=@Bool.false_ne_true
abbrev bo:=PySem.Program
def bx:=@Array.length_toList
def bz:=@Nat.zero_le
abbrev bC:=PySem.FuncData
def bD:=@Nat.le_trans
def bJ:=@decide_eq_false
abbrev bK:=PySem.Around
def bN:=@List.map_append
def bR:=@Option.some.inj
def bT:=@List.getElem?_eq_some_iff
def b4:=@Nat.lt_of_lt_of_le
def cj:=@List.getElem?_map
def cp:=@List.find?_cons
def cy:=@PySem.wpAny_holding
def cA:=@PySem.Paired.length
def cB:=@List.drop_eq_getElem_cons
def cC:=@PySem.W.mg_none_of
def cD:=@List.nodup_cons
def cE:=@List.append_nil
def cF:=@PySem.wpAny_mono
def cH:=@PySem.F.plainAttrs_list
def cI:=@List.mem_of_getElem?
def cJ:=@PySem.sizeLine_eq
def cL:=@PySem.wpAny_ite_split
def cM:=@List.map_map
def cN:=@List.mem_append_left
def cP:=@PySem.Around.under_plainId
def cQ:=@PySem.MeetsSeq3.plain_eq_loop
def cS:=@PySem.F.type_list_append
def cT:=@PySem.F.slot_list_append
def cU:=@PySem.wpAny_Call_Name_kw
def cW:=@PySem.codeAny_builtin
def cX:=@beq_self_eq_true
def cY:=@Ne.symm
def cZ:=@Bool.and_eq_true
def c_:=@PySem.wpAny_setState_of
def dc:=@congrArg
def de:=@PySem.plainId_quiet
def dg:=@List.take_of_length_le
def dh:=@List.length_take
def di:=@Nat.lt_succ_of_lt
def dj:=@List.append_assoc
def dm:=@List.mem_singleton
def dq:=@Int.emod_lt_of_pos
def dA:=@List.mem_filter
def dC:=@PySem.Heap.SameBut.update
def dE:=@PySem.F.plainAttrs_str
def dG:=@List.take_add_one
def dP:=@Nat.lt_irrefl
def dU:=@List.pairwise_cons
def dW:=@List.drop_of_length_le
def dX:=@PySem.wpAny_truthy_bool
def d0:=@Int.emod_nonneg
def eh:=@Nat.lt_succ_self
def eB:=@List.any_eq_true
def eC:=@Array.getElem?_toList
def eD:=@PySem.PassesOwn.never
def eF:=@List.zip_cons_cons
def eI:=@Nat.not_lt_zero
def eO:=@PySem.F.slot_str_split
def eP:=@List.all_eq_true
def eR:=@Array.getElem?_eq_getElem
def eU:=@List.getElem_of_mem
def eV:=@List.eq_nil_of_length_eq_zero
def eW:=@PySem.Heap.get?_update_other
def eY:=@PySem.Calls.callWith_builtin
def fj:=@PySem.W.kia_one
def fk:=@PySem.wpAny_pyIter_list
def fE:=@PyProof.Rows.size_push'
def fG:=@List.all_cons
def fH:=@PySem.codeAny_call_builtin
def fJ:=@List.getD_eq_getElem?_getD
def fK:=@List.flatMap_cons
def fL:=@Bool.not_eq_true'
def fO:=@PySem.wpAny_richCompare_same_room
def fQ:=@beq_eq_false_iff_ne
def fS:=@PyProof.Rows.get?_update_seq
def fU:=@List.length_filter_le
def fX:=@Nat.le_of_not_lt
def f_:=@PySem.Heap.get?_update_self
def gm:=@PySem.Calls.spliced_cons
def gz:=@PySem.wpAny_newList
def gA:=@PySem.codeAny_mono
def gB:=@PySem.call_meetsIn
def gQ:=@PySem.MeetsSeq3.entry_eq_loop
def gR:=@Bool.true_and
def gU:=@PySem.wpAny_call
def g6:=@beq_iff_eq
def g7:=@List.mem_range
def g9:=@Array.perm_iff_toList_perm
def ie:=@List.getElem?_eq_none
def ij:=@PySem.F.plain_extend_loop
def ik:=@Classical.byContradiction
def iq:=@beq_false_of_ne
def ir:=@Nat.le_succ
def iu:=@List.getElem_toArray
def iE:=@List.any_cons
def iJ:=@PySem.wpAny_execs_nil
def iK:=@PySem.mem_of_lookup
def iM:=@List.pairwise_singleton
def iN:=@List.getElem_mem
def iO:=@PySem.Heap.SameBut.refl
def iP:=@Bool.false_and
def i8:=@PySem.F.type_str_split
def i9:=@Nat.le_of_lt
def i_:=@List.map_nil
def jf:=@PySem.wpAny_isInstance
def jh:=@List.of_mem_zip
def jj:=@List.nil_append
def jk:=@List.foldl_cons
def jl:=@Bool.eq_iff_iff
def jB:=@Int.toNat_natCast
def jC:=@Array.getD_eq_getD_getElem?
def jI:=@PySem.wpAny_passesOwn
def jJ:=@PySem.MeetsSeq.plain_contains_loop
def jQ:=@PySem.wpAny_attempt
def jR:=@Nat.ne_of_gt
def jS:=@PySem.Calls.spliced_nil
def jV:=@PyProof.Rows.F.plain_set_update_loop
def jW:=@List.map_congr_left
def jX:=@List.filterMap_cons
def kI:=@PySem.wpAny_of_eq
def kJ:=@PySem.Calls.evalArgs_plain
def kW:=@List.length_nil
def kX:=@List.ne_nil_of_mem
def kY:=@List.mem_filterMap
def kZ:=@Bool.false_eq_true
def lF:=@PySem.F.attr_ValueError
def lG:=@List.filter_cons_of_pos
def lH:=@List.filter_cons_of_neg
def lY:=@PySem.F.plain_min_loop
def lZ:=@List.range_succ_eq_map
def l7:=@List.nodup_nil
def l8:=@List.length_range
def mX:=@PySem.tupleKind_room_in1
def mY:=@PySem.Code.quiet_builtin
def nA:=@PySem.F.type_str_join
def nB:=@PySem.F.slot_str_join
def nC:=@Array.size_eq_one_iff
def nO:=@List.length_drop
def nP:=@List.ext_getElem
def oR:=@PySem.wpAny_tryCatch
def oX:=@PySem.IntMulOk.of_right
def oY:=@Bool.and_eq_true_iff
def qT:=@PySem.evalArgs_none
def qV:=@List.map_eq_nil_iff
def qW:=@PySem.F.slot_enumerate_next
def rh:=@PySem.wpAny_rule
def ri:=@PySem.wpAny_eqBool_int
def rj:=@Nat.zero_add
def rl:=@PySem.wpAny_standAt
def rm:=@PySem.intBits_le_64
def rn:=@PySem.wpAny_letGo
def rA:=@PySem.sub_set_self
def rC:=@Nat.lt_of_le_of_lt
def rE:=@Bool.and_false
def uh:=@bne_self_eq_false
def um:=@PySem.F.plain_min
def uo:=@PySem.F.entry_min
def uq:=@List.reverse_cons
def uE:=@PySem.F.args_str_split_2
def uF:=@Option.isSome_iff_exists
def uG:=@List.sum_cons
def uH:=@List.cons.inj
def vv:=@PySem.typeIs_str
def vx:=@decide_eq_false_iff_not
def vz:=@PySem.F.kind_min
def vA:=@PySem.F.entry_str_split
def vB:=@Nat.succ_ne_zero
def vC:=@Nat.lt_of_not_le
def vD:=@List.mem_singleton_self
def vE:=@List.map_reverse
def vG:=@PySem.Heap.size_push
def xb:=@Nat.succ_pos
def xc:=@Nat.not_lt
def xf:=@Nat.mod_lt
def xg:=@Nat.lt_of_succ_lt_succ
def yj:=@PySem.fits_of_scanBound
def yk:=@List.range_succ
def yD:=@PySem.F.slot_dict_get
def yE:=@PySem.AutoSeq1.sub_tuple_tuple
def zC:=@PySem.wpAny_askSetting
def zD:=@Nat.mul_le_mul_right
def zE:=@List.take_zero
def zI:=@List.drop_zero
def zJ:=@List.Perm.refl
def Bh:=@ne_true_of_eq_false
def Bk:=@PyProof.Rows.F.entry_set_update_loop
def Bl:=@List.length_take_le
def Bm:=@List.length_reverse
def Bp:=@PySem.AutoSeq1.sub_list_list
def Ca:=@PySem.SeqAt.EqAt.same
def Dr:=@PySem.builtinLookup_eq_fast
def Ds:=@PySem.StrLaws.glued_eq_join
def Du:=@PySem.W.isNs_of_in
def Dv:=@Nat.pos_of_ne_zero
def FI:=@decide_eq_true_eq
def FJ:=@Option.isSome_map
def FK:=@Nat.le_of_eq
def FO:=@Bool.eq_false_iff
def IQ:=@List.take_length
def IS:=@List.mem_reverse
def IT:=@Array.toList_inj
def Ml:=@PySem.StrLaws.join_split
def Mm:=@Nat.zero_lt_one
def Mn:=@Nat.le_antisymm
def Mp:=@List.filter_nil
def Oq:=@if_true
def OG:=@PySem.Heap.Ns1.of_empty
def OH:=@PySem.F.plainAttrs_dict
def Sf:=@PySem.F.entry_extend_loop
def Sv:=@PySem.F.plain_min_loop
def Sw:=@Bool.false_or
def YF:=@PySem.F.slot_set_iter
def YG:=@PySem.F.plain_set_new
theorem U{α:Sort u}{a:α}:a=a:=rfl
theorem aQ:True:=trivial
namespace L2
open PySem PySem.Spec PyProof.Rows
abbrev Key:=Sum Int Str
def AD:Key->af->Bool
 | .inl k,v=>Value.isInt k v
 | .inr x,v=>Value.isStrOf x v
def ZcP(w:World):Key->Int
 | .inl k=>hashInt k
 | .inr x=>hashStr w x
theorem f7:∀{k:Key} {v:af},AD k v=true->(∃i t,k=Sum.inl i/\v=Value.int i t)\/(∃x t,k=Sum.inr x/\v=Value.str x t)
 | .inl i,v,h=>by
  obtain⟨t,e⟩:=Value.isInt_shape (k:=i) (v:=v) h;exact .inl ⟨i,t,U,e⟩
 | .inr x,v,h=>by
  obtain⟨t,e⟩:=Value.isStrOf_shape (x:=x) (v:=v) h;exact .inr ⟨x,t,U,e⟩
theorem Nz(i:Int)(t:Tok):AD (.inl i) (.int i t)=true:=by simp[AD,Value.isInt]
theorem Ny(x:Str)(t:Tok):AD (.inr x) (.str x t)=true:=by simp[AD,Value.isStrOf]
theorem XR(a b:Int):decide ((Sum.inl a:Key)=Sum.inl b)=(a==b):=by
 by_cases e:a=b
 ·subst e;simp
 ·have h:¬(Sum.inl a:Key)=Sum.inl b:=λq=>e (Sum.inl.inj q);rw[bJ h];exact(fQ.mpr e).symm
theorem QG(a b:Str):decide ((Sum.inr a:Key)=Sum.inr b)=decide (a=b):=by
 by_cases e:a=b
 ·subst e;simp
 ·have h:¬(Sum.inr a:Key)=Sum.inr b:=λq=>e (Sum.inr.inj q);rw[bJ h,bJ e]
theorem XQ(a:Int)(b:Str):decide ((Sum.inl a:Key)=Sum.inr b)=false:=bJ (λq=>nomatch q)
theorem XM(a:Str)(b:Int):decide ((Sum.inr a:Key)=Sum.inl b)=false:=bJ (λq=>nomatch q)
def eJ(prog:bo)(w:World):PySem.KeyKind prog w Key where
 is:=AD
 hash:=ZcP w
 inj:=λv a b ha hb=>by
  rcases f7 ha with ⟨i,t,rfl,rfl⟩|⟨x,t,rfl,rfl⟩
  ·rcases f7 hb with ⟨j,u,rfl,e⟩|⟨y,u,rfl,e⟩
   ·injection e with e1 _;rw[e1]
   ·exact nomatch e
  ·rcases f7 hb with ⟨j,u,rfl,e⟩|⟨y,u,rfl,e⟩
   ·exact nomatch e
   ·injection e with e1 _;rw[e1]
 byValue:=λk v h=>by
  rcases f7 h with ⟨i,t,rfl,rfl⟩|⟨x,t,rfl,rfl⟩<;>rfl
 pyHash:=λhv h=>by
  rcases f7 hv with ⟨i,t,rfl,rfl⟩|⟨x,t,rfl,rfl⟩
  ·exact wpAny_pyHash_int h
  ·exact wpAny_pyHash_str h
 eqBool:=λhu hv h=>by
  rcases f7 hu with ⟨i,t,rfl,rfl⟩|⟨x,t,rfl,rfl⟩
  ·rcases f7 hv with ⟨j,u,rfl,rfl⟩|⟨y,u,rfl,rfl⟩
   ·rw[XR] at h;exact ri h
   ·rw[XQ] at h;exact SeqAt.EqAt.int_str i t y u _ _ _ _ h
  ·rcases f7 hv with ⟨j,u,rfl,rfl⟩|⟨y,u,rfl,rfl⟩
   ·rw[XM] at h;exact SeqAt.EqAt.str_int x t j u _ _ _ _ h
   ·rw[QG] at h;exact wpAny_eqBool_str h
 «strs»:=λk x t v h=>by
  rcases f7 h with ⟨i,u,rfl,e⟩|⟨y,u,rfl,e⟩
  ·exact nomatch e
  ·injection e with e1 _
   subst e1;cases v<;>rfl
theorem GB(prog:bo)(w:World)(i:Int)(t:Tok):(eJ prog w).is (.inl i) (.int i t)=true:=Nz i t
theorem GA(prog:bo)(w:World)(x:Str)(t:Tok):(eJ prog w).is (.inr x) (.str x t)=true:=Ny x t
inductive V where
 |fR|bl (b:Bool)|int (i:Int)|str (x:Str)|L_ (b:Array UInt8)|Yk (b:UInt64)|ref (a:aj)|ty (n:String)
 deriving DecidableEq
def RelV:V->af->Prop
 | .fR,u=>u=Value.none
 | .bl b,u=>u=Value.bool b
 | .int i,u=>∃t,u=Value.int i t
 | .str x,u=>∃t,u=Value.str x t
 | .L_ b,u=>∃t,u=Value.bytes b t
 | .Yk b,u=>∃t,u=Value.float b t
 | .ref a,u=>u=Value.ref a
 | .ty n,u=>u=Value.type n
abbrev Vals:List V->List af->Prop:=Paired RelV
theorem Vals.length{xs:List V}{us:List af}(r:Vals xs us):xs.length=us.length:=cA r
theorem Vals.get:∀{xs:List V} {us:List af} {i:Nat} {x:V},Vals xs us->xs[i]? =some x->∃u,us[i]? =some u/\RelV x u
 |_,_,_,_,.nil,e=>by simp at e
 |_,_,0,_,.cons r _,e=>by simp at e;subst e;exact⟨_,U,r⟩
 |_,_,i+1,x,.cons _ t,e=>by
  obtain⟨u,h1,h2⟩:=Vals.get (i:=i) (x:=x) t (by simpa using e);exact⟨u,by simpa using h1,h2⟩
theorem Vals.append:∀{xs ys:List V} {us ws:List af},Vals xs us->Vals ys ws->Vals (xs++ys) (us++ws)
 |_,_,_,_,.nil,s=>s
 |_,_,_,_,.cons r t,s=> .cons r (Vals.append t s)
theorem Vals.take:∀{xs:List V} {us:List af} (n:Nat),Vals xs us->Vals (xs.take n) (us.take n)
 |_,_,0,_=> .nil
 |_,_,_+1,.nil=> .nil
 |_,_,n+1,.cons r t=> .cons r (Vals.take n t)
theorem Vals.drop:∀{xs:List V} {us:List af} (n:Nat),Vals xs us->Vals (xs.drop n) (us.drop n)
 |_,_,0,r=>r
 |_,_,_+1,.nil=> .nil
 |_,_,n+1,.cons _ t=>Vals.drop n t
def qK:Option V->Option af->Prop
 |some v,some u=>RelV v u
 |none,none=>True
 |_,_=>False
def KV{κ:Type}:List (κ×V)->List (κ×af)->Prop:=Paired λ(p:κ×V) (q:κ×af)=>p.1=q.1/\RelV p.2 q.2
def kV:Key->V
 | .inl i=> .int i
 | .inr x=> .str x
inductive HO where
 |lst (xs:List V)
 |tup (xs:List V)
 |dK (kvs:List (Key×V))|dT (kvs:List (List Key×V))
 |set (S:Int->Bool) (n:Nat)
 |ins (C dx:aj) (fs:List (Str×V))
 |own (x:aj)
 |xd (fs:List (Str×V))
 |met (f x:aj)
 |rng (lo hi:Int)
 |pM (o:Obj) (u:HO)
 |Ot (ps:Array af)
 |ext (φ:Heap->Prop)
abbrev Hp:=aj->Option HO
def upd(H:Hp)(a:aj)(o:HO):Hp:=λb=>if b=a then some o else H b
theorem ay{H:Hp}{a:aj}{o:HO}:upd H a o a=some o:=by unfold upd;rw[bg rfl]
theorem aY{H:Hp}{a b:aj}{o:HO}(h:b≠a):upd H a o b=H b:=by unfold upd;rw[aX h]
theorem kB{H:Hp}{a:aj}{o u:HO}:upd (upd H a o) a u=upd H a u:=by
 funext b;unfold upd;split<;>rfl
theorem wq{H:Hp}{a b:aj}{o u:HO}(h:H a=some o)(h':H b=some u)(d:o≠u):a≠b:=by
 intro e;subst e;rw[h] at h';exact d (bR h')
theorem bI{H:Hp}{a b:aj}{o:HO}(h:H a=some o)(h':H b=none):a≠b:=by
 intro e;subst e;rw[h] at h';cases h'
section
variable (P:bo) (w:World)
def fB(H:Hp)(h:Heap)(a:aj):HO->Prop
 | .lst xs=>xs.length<=sizeLine/\∃(its:List af) (n:Nat),Vals xs its/\h.get? a=some {cls:=.type "list",data:=.seq its.toArray n}
 | .tup xs=>xs.length<=sizeLine/\∃its:List af,Vals xs its/\IsTup h a its.toArray
 | .dK kvs=>kvs.length<=sizeLine/\(a==sysModules)=false/\∃vs,KV kvs vs/\h.DictOf (eJ P w) a vs
 | .dT kvs=>kvs.length<=sizeLine/\(a==sysModules)=false/\∃xs:List (List Key×aj×af),
   Paired (λ(p:List Key×V) (q:List Key×aj×af)=>p.1=q.1/\H q.2.1=some (.tup (p.1.map kV))/\RelV p.2 q.2.2) kvs xs/\
   ∃o es ep,h.get? a=some o/\o.ExactDict/\o.data=.dict es ep/\es.toList=xs.map (entryOfKey (tupleKind (eJ P w)))/\(xs.map (·.1)).Nodup
 | .set S n=>h.SetOf (intKind P w) a S n
 | .ins C dx fs=>H dx=some (.own a)/\fs.length<=1000/\dx≠a/\h.get? a=some (instObj C dx)/\
   ∃mA,h.Ns1 dx mA/\(∀f,qK (fs.lookup f) (mA f))/\PySem.Within mA (fs.map (·.1))
 | .own _=>∃o,h.get? a=some o
 | .xd fs=>∃mA,h.Ns1 a mA/\∀f,qK (fs.lookup f) (mA f)
 | .rng lo hi=>∃t u v,h.get? a=some {cls:=.type "range",data:=.fields #[.int lo t,.int hi u,.int 1 v]}
 | .pM o u=>h.get? a=some o/\fB H h a u
 | .Ot ps=>h.get? a=some {cls:=.none,data:=.fields ps}
 | .met f x=>h.get? a=some (methodObj (.ref f) (.ref x))
 | .ext φ=>φ h/\(∃o,h.get? a=some o)/\∀h1 h2:Heap,φ h1->(∀o,h1.get? a=some o->h2.get? a=some o)->φ h2
def sT(H:Hp)(h:Heap):Prop:=∀a o,H a=some o->fB P w H h a o
end
section
variable {P:bo} {w:World} {H H':Hp} {h h':Heap} {a:aj} {o:HO}
theorem fB.lt(x:fB P w H h a o):a<h.objs.size:=by
 cases o with
 |lst xs=>obtain⟨_,_,_,_,e⟩:=x;exact aW e
 |tup xs=>obtain⟨_,_,_,p⟩:=x;exact p.lt
 |dK kvs=>obtain⟨_,_,_,_,o,_,_,e,_⟩:=x;exact aW e
 |dT kvs=>obtain⟨_,_,_,_,o,_,_,e,_⟩:=x;exact aW e
 |set S n=>obtain⟨o,_,_,_,e,_⟩:=x;exact aW e
 |ins C dx fs=>obtain⟨_,_,_,e,_⟩:=x;exact aW e
 |own y=>obtain⟨_,e⟩:=x;exact aW e
 |xd fs=>obtain⟨_,⟨_,_,_,e,_⟩,_⟩:=x;exact aW e
 |rng lo hi=>obtain⟨_,_,_,e⟩:=x;exact aW e
 |pM ob u=>obtain⟨e,_⟩:=x;exact aW e
 |Ot ps=>exact aW (show h.get? a=some _ from x)
 |met f y=>exact aW (show h.get? a=some _ from x)
 |ext φ=>obtain⟨_,⟨_,e⟩,_⟩:=x;exact aW e
theorem Paired.Xv{α β:Type}{F G:α->β->Prop}:∀{l₁:List α} {l₂:List β},Paired F l₁ l₂->(∀a b,F a b->G a b)->Paired G l₁ l₂
 |_,_,.nil,_=> .nil
 |_,_,.cons r t,f=> .cons (f _ _ r) (Paired.Xv t f)
theorem fB.vP(x:fB P w H h a o)(k:∀b u,(b=a\/H b=some (.own a))->h.get? b=some u->h'.get? b=some u)
  (ho:∀b,H b=some (.own a)->H' b=some (.own a))(ht:∀b xs,H b=some (.tup xs)->H' b=some (.tup xs)):fB P w H' h' a o:=by
 induction o with
 |lst xs=>obtain⟨z,its,n,r,e⟩:=x;exact⟨z,its,n,r,k _ _ (.inl U) e⟩
 |tup xs=>obtain⟨z,its,r,ob,e,c⟩:=x;exact⟨z,its,r,ob,k _ _ (.inl U) e,c⟩
 |dK kvs=>obtain⟨z,y,vs,r,ob,es,ep,e,c⟩:=x;exact⟨z,y,vs,r,ob,es,ep,k _ _ (.inl U) e,c⟩
 |dT kvs=>
  obtain⟨z,y,xs,r,ob,es,ep,e,c⟩:=x;exact⟨z,y,xs,Paired.Xv r λp q z=>⟨z.1,ht _ _ z.2.1,z.2.2⟩,ob,es,ep,k _ _ (.inl U) e,c⟩
 |set S n=>obtain⟨ob,es,ep,t,e,c⟩:=x;exact⟨ob,es,ep,t,k _ _ (.inl U) e,c⟩
 |ins C dx fs=>
  obtain⟨d,z,ne,e,mA,⟨od,es,ep,e2,c⟩,r⟩:=x;exact⟨ho _ d,z,ne,k _ _ (.inl U) e,mA,⟨od,es,ep,k _ _ (.inr d) e2,c⟩,r⟩
 |own y=>obtain⟨ob,e⟩:=x;exact⟨ob,k _ _ (.inl U) e⟩
 |xd fs=>obtain⟨mA,⟨od,es,ep,e,c⟩,r⟩:=x;exact⟨mA,⟨od,es,ep,k _ _ (.inl U) e,c⟩,r⟩
 |rng lo hi=>obtain⟨t,u,v,e⟩:=x;exact⟨t,u,v,k _ _ (.inl U) e⟩
 |pM ob u ih=>obtain⟨e,q⟩:=x;exact⟨k _ _ (.inl U) e,ih q⟩
 |Ot ps=>
  have e:h.get? a=some {cls:=.none,data:=.fields ps}:=x;show h'.get? a=some {cls:=.none,data:=.fields ps};exact k a _ (.inl U) e
 |met f y=>
  have e:h.get? a=some (methodObj (.ref f) (.ref y)):=x;show h'.get? a=some (methodObj (.ref f) (.ref y));exact k a _ (.inl U) e
 |ext φ=>obtain⟨p,⟨o,e⟩,st⟩:=x;exact⟨st _ _ p λo q=>k _ _ (.inl U) q,⟨o,k _ _ (.inl U) e⟩,st⟩
theorem sT.lt(x:sT P w H h)(e:H a=some o):a<h.objs.size:=(x a o e).lt
theorem sT.fresh(x:sT P w H h)(e:h.objs.size<=a):H a=none:=by
 cases q:H a with
 |none=>rfl
 |some u=>exact absurd (b4 (x.lt q) e) (dP _)
theorem sT.kept(x:sT P w H h)(k:∀b u,h.get? b=some u->h'.get? b=some u):sT P w H h':=λa o e=>
 (x a o e).vP (λb u _ q=>k b u q) (λ_ q=>q) λ_ _ q=>q
theorem sT.laid(x:sT P w H h)(k:∀b u,h.get? b=some u->h'.get? b=some u)(hp:h.objs.size<=a)(new:fB P w (upd H a o) h' a o):sT P w (upd H a o) h':=λb u e=>by
 have hn:=x.fresh hp
 by_cases hb:b=a
 ·subst hb;rw[ay] at e;cases e;exact new
 ·rw[aY hb] at e
  exact(x b u e).vP (λc v _ q=>k c v q) (λc q=>by rw[aY (bI q hn)];exact q) λc xs q=>by rw[aY (bI q hn)];exact q
end
def Rd(H:Hp)(a:aj)(u:HO):Prop:=H a=some u\/∃o,H a=some (.pM o u)
theorem Rd.ok{P:bo}{w:World}{H:Hp}{h:Heap}{a:aj}{u:HO}(r:Rd H a u)(x:sT P w H h):fB P w H h a u:=by
 rcases r with r|⟨o,r⟩
 ·exact x a u r
 ·obtain⟨_,q⟩:=x a _ r;exact q
def Mut:Option HO->Prop
 |some (.lst _)=>True
 |some (.dK _)=>True
 |some (.dT _)=>True
 |some (.set _ _)=>True
 |some (.ins _ _ _)=>True
 |some (.ext _)=>True
 |_=>False
section
variable {P:bo} {w:World} {H:Hp} {h h':Heap} {x e:aj} {o':HO}
theorem sT.write(ok:sT P w H h)(mu:Mut (H x))(he:e=x\/H e=some (.own x))(k:∀b u,b≠e->h.get? b=some u->h'.get? b=some u)(Ze:∃u,h'.get? e=some u)
  (new:fB P w (upd H x o') h' x o'):sT P w (upd H x o') h':=λb u q=>by
 have Zam:∀c y,H c=some (.own y)->c≠x:=λc y r z=>by subst z;rw[r] at mu;exact mu
 have ZcG:∀c xs,H c=some (.tup xs)->c≠x:=λc xs r z=>by subst z;rw[r] at mu;exact mu
 by_cases hb:b=x
 ·subst hb;rw[ay] at q;cases q;exact new
 ·rw[aY hb] at q
  by_cases Yf:b=e
  ·have q':H b=some (.own x):=by
    rcases he with z|z
    ·exact absurd (Yf.trans z) hb
    ·rw[Yf];exact z
   rw[q] at q';cases q'
   obtain⟨v,hv⟩:=Ze;exact⟨v,by rw[Yf];exact hv⟩
  ·refine(ok b u q).vP (λc v hc r=>k c v ?_ r) (λc r=>by rw[aY (Zam c b r)];exact r) λc xs r=>by rw[aY (ZcG c xs r)];exact r
   rcases hc with rfl|hc
   ·exact Yf
   ·rintro rfl;rcases he with z|z
    ·exact Zam c b hc z
    ·rw[hc] at z;cases z;exact hb U
end
structure Un (fs ex:List aj) (H H':Hp) (h h':Heap):Prop where
 keep:∀b o,h.get? b=some o->H b=none->b∉fs->b∉ex->h'.get? b=some o
 slot:∀b o,h.get? b=some o->H b=none->b∈fs->b∉ex->∃sl,h'.get? b=some {o with slots:=sl}
 free:∀b o,h.get? b=some o->H b=none->b∉ex->H' b=none
 there:∀b o,h.get? b=some o->b∉ex->∃o',h'.get? b=some o'
 mZ:∀b xs,H b=some (.tup xs)->H' b=some (.tup xs)
 oA:∀b o u,H b=some (.pM o u)->H' b=some (.pM o u)
 rL:∀b ps,H b=some (.Ot ps)->∃more,H' b=some (.Ot (ps++more))
section
variable {fs fs' ex ex':List aj} {H H1 H2:Hp} {h h1 h2 h':Heap} {a x e:aj} {o:HO}
theorem Un.any(u:Un fs ex H H1 h h1){b:aj}{ob:Obj}(q:h.get? b=some ob)(n:H b=none)(hx:b∉ex):∃sl,h1.get? b=some {ob with slots:=sl}:=by
 by_cases hb:b∈fs
 ·exact u.slot b ob q n hb hx
 ·exact⟨ob.slots,u.keep b ob q n hb hx⟩
theorem Un.kept(k:∀b u,h.get? b=some u->h'.get? b=some u):Un fs ex H H h h':=
 ⟨λb ob q _ _ _=>k b ob q,λb ob q _ _ _=>⟨ob.slots,k b ob q⟩,λ_ _ _ n _=>n,λb ob q _=>⟨ob,k b ob q⟩,λ_ _ q=>q,λ_ _ _ q=>q,λ_ ps q=>⟨#[],by rw[q];simp⟩⟩
theorem Un.refl:Un fs ex H H h h:=Un.kept λ_ _ q=>q
theorem Un.laid(k:∀b u,h.get? b=some u->h'.get? b=some u)(hp:h.objs.size<=a)(hn:H a=none):Un fs ex H (upd H a o) h h' where
 keep:=λb u q _ _ _=>k b u q
 slot:=λb u q _ _ _=>⟨u.slots,k b u q⟩
 free:=λb u q n _=>by rw[aY (bc (b4 (aW q) hp))];exact n
 there:=λb u q _=>⟨u,k b u q⟩
 mZ:=λb xs q=>by rw[aY (bI q hn)];exact q
 oA:=λb u xs q=>by rw[aY (bI q hn)];exact q
 rL:=λb ps q=>⟨#[],by rw[aY (bI q hn),q];simp⟩
theorem Un.write(mu:Mut (H x))(he:e=x\/H e=some (.own x))(k:∀b u,b≠e->h.get? b=some u->h'.get? b=some u)(Ze:∃u,h'.get? e=some u):Un fs ex H (upd H x o) h h':=by
 have hx:∀b,H b=none->b≠x:=λb n z=>by subst z;rw[n] at mu;exact mu
 have hb:∀b,H b=none->b≠e:=λb n z=>by
  subst z;rcases he with r|r
  ·exact hx b n r
  ·rw[n] at r;cases r
 have hm:∀b u,H b=some u->¬Mut (some u)->b≠x:=λb u q nm z=>by subst z;rw[q] at mu;exact nm mu
 refine⟨λb u q n _ _=>k b u (hb b n) q,λb u q n _ _=>⟨u.slots,k b u (hb b n) q⟩,λb u q n _=>by rw[aY (hx b n)];exact n,λb u q _=> ?_,
  λb xs q=>by rw[aY (hm b _ q λz=>z)];exact q,λb u xs q=>by rw[aY (hm b _ q λz=>z)];exact q,λb ps q=>⟨#[],by rw[aY (hm b _ q λz=>z),q];simp⟩⟩
 by_cases Yf:b=e
 ·subst Yf;exact Ze
 ·exact⟨u,k b u Yf q⟩
end
def trk(h:Heap)(H:Hp):List aj:=(List.range h.objs.size).filter λa=>(H a).isSome
def EU(h:Heap)(H:Hp):Heap:=PySem.W.hideAll h (trk h H)
theorem NO(h:Heap)(H:Hp):(EU h H).objs.size=h.objs.size:=PySem.W.hideAll_size _ _
theorem QY{h:Heap}{H:Hp}{b:aj}{o:Obj}(e:h.get? b=some o)(n:H b=none):(EU h H).get? b=some o:=
 PySem.W.hideAll_get _ e λhm=>by
  have q:(H b).isSome=true:=(dA.mp hm).2;rw[n] at q;simp at q
theorem TL{h:Heap}{H:Hp}{b:aj}{o:Obj}(e:(EU h H).get? b=some o):h.get? b=some o/\H b=none:=by
 have e':h.get? b=some o:=PySem.W.of_hideAll (trk h H) e;refine⟨e', ?_⟩;cases q:H b with
 |none=>rfl
 |some x=>
  have hm:b∈trk h H:=dA.mpr ⟨g7.mpr (aW e'),by simp[q]⟩;have z:(EU h H).get? b=none:=PySem.W.hideAll_none (trk h H) hm;rw[z] at e;cases e
def zA(g h:Heap)(L:aj):List (aj×Obj):=(List.range h.objs.size).filterMap λa=>if a=L\/(g.get? a).isSome=true then none else(h.get? a).map λo=>(a,o)
theorem yt{g h:Heap}{L a:aj}{o:Obj}(h1:a≠L)(h2:g.get? a=none)(h3:h.get? a=some o):(a,o)∈zA g h L:=
 kY.mpr ⟨a,g7.mpr (aW h3),by simp[h1,h2,h3]⟩
theorem Ar{g h:Heap}{L:aj}{p:aj×Obj}(hp:p∈zA g h L):p.1≠L/\g.get? p.1=none/\h.get? p.1=some p.2:=by
 obtain⟨b,_,e⟩:=kY.mp hp
 split at e
 ·cases e
 ·rename_i hn
  cases q:h.get? b with
  |none=>rw[q] at e;simp at e
  |some u=>
   rw[q] at e
   simp only [Option.map_some,Option.some.injEq] at e
   subst e;refine⟨λz=>hn (.inl z), ?_,q⟩;show g.get? b=none;cases r:g.get? b with
   |none=>rfl
   |some v=>exact(hn (.inr (by simp[r]))).elim
theorem Gx{g h:Heap}{L:aj}:News g L h (zA g h L):=λp hp=>let ⟨a,b,c⟩:=Ar hp;⟨c,a,b⟩
structure Mod (K:au) (mg:Str->Option af) (base:Heap):Prop where
 Vz:K.In base
 glob:base.Ns mainGlobals mg
 blt:∃mb,base.Ns builtinsNs mb/\∀x:Str,x≠"__name__"->mb x=bootBuiltins x
 nolimit:base.NoLimit
structure Cx where
 prog:bo
 w:World
 K:au
 mg:Str->Option af
 base:Heap
 A:bK
 N:List Str
 s₀:ah
 H₀:Hp
 env:Env
 outer:List Env
 stack:List Env
 ex:List aj
 fn:Str->Bool
 calm:Bool
 pn:List (aj×Obj)
 xe:af->ah->Prop
def yV(l:List Env):List aj:=l.filterMap (·.frame)
abbrev Cx.fs(X:Cx):List aj:=yV X.outer
def Vis(sc:Scope)(x:Str):Prop:=sc.names.lookup x=some .local\/sc.names.lookup x=some .cell\/sc.names.lookup x=some .free
def Loc(sc:Scope)(x:Str):Prop:=sc.names.lookup x=some .local\/sc.names.lookup x=some .cell
def Look(env:Env)(h:Heap)(m:Str->Option af)(x:Str)(u:af):Prop:=
 (env.kindOf x=some .local/\m x=some u)\/((env.kindOf x=some .cell\/env.kindOf x=some .free)/\∃c,env.cells.lookup x=some c/\h.IsCell c (some u))
structure Cx.Ok (X:Cx):Prop where
 mod:Mod X.K X.mg X.base
 kind:X.env.scope.kind=.function
 glob:X.env.globals=mainGlobals
 blt:X.env.builtins=builtinsNs
 above:X.s₀.heap.objs.size<=X.env.locals
 inj:∀x y c,X.env.cells.lookup x=some c->X.env.cells.lookup y=some c->x=y
 has:∀x,(X.env.kindOf x=some .cell\/X.env.kindOf x=some .free)->∃c,X.env.cells.lookup x=some c
 Zl:∀x c,X.fn x=true->X.env.cells.lookup x=some c->X.s₀.heap.objs.size<=c
 hd:X.calm=true->X.A.handled=none
 frames:X.A.frames=some X.stack
 ZT:X.stack=X.outer\/(X.stack=X.env::X.outer/\X.env.frame=some X.env.locals)
 exf:∀b∈X.ex,b≠X.env.locals/\∀x c,X.env.cells.lookup x=some c->c≠b
 bs:∀b o,X.base.get? b=some o->X.s₀.heap.get? b=some o/\X.H₀ b=none
 OD:X.base.objs.size<=X.s₀.heap.objs.size
 Ng:∀b o,X.base.get? b=some o->b∉X.ex
 Rj:∀b∈X.ex,b∉X.fs
 uf:X.s₀.heap.FunFrames X.base X.outer
 Sm:∀b∈X.fs,X.H₀ b=none
structure Inv (X:Cx) (pins:List (aj×Obj)) (σ:List (Option V)) (H:Hp) (s:ah):Prop where
 ok:X.Ok
 os:s.os=X.s₀.os
 bare:AllBare s.gens
 base:Un X.fs X.ex X.H₀ H X.s₀.heap s.heap
 loc:∃m,s.heap.Ns X.env.locals m/\∀(i:Nat) (x:Str) (v:V),X.N[i]? =some x->σ[i]? =some (some v)->Vis X.env.scope x->∃u,RelV v u/\Look X.env s.heap m x u
 cell:∀x c,X.env.cells.lookup x=some c->∃v,s.heap.IsCell c v
 free:H X.env.locals=none
 eL:∀x c,X.env.cells.lookup x=some c->H c=none
 pin:∀p∈X.pn++pins,s.heap.get? p.1=some p.2/\H p.1=none/\p.1≠X.env.locals/\p.1∉X.fs/\∀v,p.2.data≠.cell v
 dw:sT X.prog X.w H s.heap
 len:σ.length=X.N.length
section
variable {X:Cx} {pins:List (aj×Obj)} {σ:List (Option V)} {H H':Hp} {s:ah} {h':Heap}
theorem Cx.Ok.ZcI(ok:X.Ok){b:aj}{o:Obj}(e:X.base.get? b=some o):b∉X.fs:=λhb=>by
 have:=(ok.uf.mem hb).1;rw[e] at this;cases this
theorem Inv.bs(I:Inv X pins σ H s):∀b o,X.base.get? b=some o->s.heap.get? b=some o/\H b=none:=λb o e=>
 ⟨I.base.keep b o (I.ok.bs b o e).1 (I.ok.bs b o e).2 (I.ok.ZcI e) (I.ok.Ng b o e),I.base.free b o (I.ok.bs b o e).1 (I.ok.bs b o e).2 (I.ok.Ng b o e)⟩
theorem Inv.bk(I:Inv X pins σ H s):∀b o,X.base.get? b=some o->s.heap.get? b=some o:=λb o e=>(I.bs b o e).1
theorem Inv.mod(I:Inv X pins σ H s):Mod X.K X.mg X.base:=I.ok.mod
theorem Inv.q5(I:Inv X pins σ H s):X.K.In s.heap:=I.ok.mod.Vz.keeps I.bk
theorem Inv.fr(I:Inv X pins σ H s):∃m,Fr X.base X.env.locals s.heap m:=
 let ⟨m,hn,_⟩:=I.loc
 ⟨m,hn,I.bk,bD I.ok.OD I.ok.above⟩
theorem Inv.lt(I:Inv X pins σ H s):X.env.locals<s.heap.objs.size:=let ⟨_,hn,_⟩:=I.loc;hn.lt
theorem Inv.sz(I:Inv X pins σ H s):X.s₀.heap.objs.size<=s.heap.objs.size:=bD I.ok.above (i9 I.lt)
theorem Inv.Xk(I:Inv X pins σ H s){a:aj}(h:s.heap.objs.size<=a):a∉X.fs:=λhb=>by
 obtain⟨_,o,ho,_⟩:=I.ok.uf.mem hb;exact absurd (b4 (aW ho) (bD I.sz h)) (dP _)
theorem Inv.UQ(I:Inv X pins σ H s):∀x c,X.env.cells.lookup x=some c->c≠X.env.locals:=λx c e z=>by
 obtain⟨v,o,ho,hd⟩:=I.cell x c e;obtain⟨m,⟨o',es,ep,Ya,Ye,_⟩,_⟩:=I.loc;rw[z,Ya] at ho;cases ho;rw[Ye] at hd;cases hd
theorem Inv.uf(I:Inv X pins σ H s):s.heap.FunFrames X.base X.outer:=by
 have all:∀(l:List Env),(∀b∈yV l,b∈X.fs)->X.s₀.heap.FunFrames X.base l->s.heap.FunFrames X.base l:=by
  intro l
  induction l with
  |nil=>intro _ _;trivial
  |cons env r ih=>
   intro hs hl;obtain⟨hk,⟨L,o,hf,hn,ho,hd⟩,hr⟩:=hl;have hL:L∈X.fs:=hs L (by unfold yV;rw[jX,hf];exact aB)
   obtain⟨sl,e⟩:=I.base.slot L o ho (I.ok.Sm L hL) hL λz=>I.ok.Rj L z hL;exact⟨hk,⟨L,_,hf,hn,e,hd⟩,ih (λb hb=>hs b (by unfold yV;rw[jX,hf];exact aF _ hb)) hr⟩
 exact all X.outer (λ_ hb=>hb) I.ok.uf
theorem Inv.stack(I:Inv X pins σ H s):s.heap.FunFrames X.base X.stack:=by
 rcases I.ok.ZT with e|⟨e,hf⟩
 ·rw[e];exact I.uf
 ·rw[e];obtain⟨m,hn,_⟩:=I.loc;refine .cons (by rw[I.ok.kind];decide) hf hn ?_ I.uf
  exact Heap.get?_none_of_le (bD I.ok.OD I.ok.above)
theorem Inv.zU(I:Inv X pins σ H s):∀b∈yV X.stack,b∈X.env.locals::X.fs:=λb hb=>by
 rcases I.ok.ZT with e|⟨e,hf⟩
 ·rw[e] at hb;exact aF _ hb
 ·rw[e] at hb
  unfold yV at hb
  rw[jX,hf] at hb
  exact hb
theorem Inv.y6(I:Inv X pins σ H s):∀b∈yV X.stack,H b=none:=λb hb=>by
 rcases aJ.mp (I.zU b hb) with e|hb
 ·rw[e];exact I.free
 ·obtain⟨_,o,ho,_⟩:=I.ok.uf.mem hb;exact I.base.free b o ho (I.ok.Sm b hb) λz=>I.ok.Rj b z hb
theorem Inv.step{g':Array GenState}{t':Nat}{d':Drawn}{ch:List aj}(I:Inv X pins σ H s)
  (Sl:∀b∈ch,(b∈X.ex\/X.s₀.heap.objs.size<=b)/\b≠X.env.locals/\(∀x c,X.env.cells.lookup x=some c->c≠b)/\∀p∈X.pn++pins,p.1≠b)
  (keep:∀b o,b≠X.env.locals->b∉X.fs->b∉ch->s.heap.get? b=some o->H b=none->h'.get? b=some o)
  (slot:∀b o,b≠X.env.locals->b∈X.fs->b∉ch->s.heap.get? b=some o->H b=none->∃sl,h'.get? b=some {o with slots:=sl})(free:∀b o,b∉ch->s.heap.get? b=some o->H b=none->H' b=none)
  (there:∀b o,b∉ch->s.heap.get? b=some o->∃o',h'.get? b=some o')
  (mZ:∀b xs,H b=some (.tup xs)->H' b=some (.tup xs))(oA:∀b o u,H b=some (.pM o u)->H' b=some (.pM o u))(rL:∀b ps,H b=some (.Ot ps)->∃more,H' b=some (.Ot (ps++more)))
  (ns:∀m,s.heap.Ns X.env.locals m->h'.Ns X.env.locals m)(dw:sT X.prog X.w H' h')(hg:AllBare g'):
  Inv X pins σ H' {s with heap:=h',gens:=g',drawn:=d',toks:=t'}:=by
 have neL:∀b o,X.s₀.heap.get? b=some o->b≠X.env.locals:=λb o e=>bc (b4 (aW e) I.ok.above);have neC:∀b o,X.s₀.heap.get? b=some o->b∉X.ex->b∉ch:=λb o e hx hb=>by
  rcases(Sl b hb).1 with z|z
  ·exact hx z
  ·exact absurd (b4 (aW e) z) (dP _)
 have cellK:∀x c,X.env.cells.lookup x=some c->∀v,s.heap.IsCell c v->h'.IsCell c v:=λx c e v ⟨o,ho,hd⟩=>by
  have nch:c∉ch:=λz=>(Sl c z).2.2.1 x c e rfl
  by_cases hc:c∈X.fs
  ·obtain⟨sl,q⟩:=slot c o (I.UQ x c e) hc nch ho (I.eL x c e);exact⟨_,q,hd⟩
  ·exact⟨o,keep c o (I.UQ x c e) hc nch ho (I.eL x c e),hd⟩
 refine⟨I.ok,I.os,hg,⟨λb o e n hb hx=> ?_,λb o e n hb hx=> ?_,λb o e n hx=> ?_,λb o e hx=> ?_,λb xs e=>mZ b xs (I.base.mZ b xs e),λb o xs e=>oA b o xs (I.base.oA b o xs e),λb ps e=> ?_⟩, ?_,λx c e=> ?_, ?_,λx c e=> ?_,λp hp=> ?_,dw,I.len⟩
 ·exact keep b o (neL b o e) hb (neC b o e hx) (I.base.keep b o e n hb hx) (I.base.free b o e n hx)
 ·obtain⟨sl,e1⟩:=I.base.slot b o e n hb hx;obtain⟨sl',e2⟩:=slot b _ (neL b o e) hb (neC b o e hx) e1 (I.base.free b o e n hx);exact⟨sl',e2⟩
 ·obtain⟨o',e1⟩:=I.base.there b o e hx;exact free b o' (neC b o e hx) e1 (I.base.free b o e n hx)
 ·obtain⟨o',e1⟩:=I.base.there b o e hx;exact there b o' (neC b o e hx) e1
 ·obtain⟨m1,e1⟩:=I.base.rL b ps e;obtain⟨m2,e2⟩:=rL b _ e1;exact⟨m1++m2,by rw[e2,Array.append_assoc]⟩
 ·obtain⟨m,hn,hl⟩:=I.loc;refine⟨m,ns m hn,λi x v e1 e2 e3=> ?_⟩;obtain⟨u,r,l⟩:=hl i x v e1 e2 e3;refine⟨u,r, ?_⟩;rcases l with l|⟨k,c,e,z⟩
  ·exact .inl l
  ·exact .inr ⟨k,c,e,cellK x c e _ z⟩
 ·obtain⟨v,z⟩:=I.cell x c e;exact⟨v,cellK x c e v z⟩
 ·obtain⟨m,⟨o,_,_,ho,_⟩,_⟩:=I.loc;exact free _ o (λz=>(Sl _ z).2.1 U) ho I.free
 ·obtain⟨v,o,ho,hd⟩:=I.cell x c e;exact free c o (λz=>(Sl c z).2.2.1 x c e U) ho (I.eL x c e)
 ·obtain⟨e,n,ne,nf,d⟩:=I.pin p hp;have nch:p.1∉ch:=λz=>(Sl p.1 z).2.2.2 p hp rfl;exact⟨keep p.1 p.2 ne nf nch e n,free p.1 p.2 nch e n,ne,nf,d⟩
theorem Inv.un{t':Nat}(I:Inv X pins σ H s)(u:Un X.fs [] H H' s.heap h')(dw:sT X.prog X.w H' h'):Inv X pins σ H' {s with heap:=h',toks:=t'}:=by
 obtain⟨m,⟨o,es,ep,ho,r⟩,_⟩:=id I.loc;obtain⟨sl,hL⟩:=u.any ho I.free (by simp);exact I.step (g':=s.gens) (d':=s.drawn) (ch:=[]) (λ_ z=>nomatch z) (λb o _ hb _ e n=>u.keep b o e n hb (by simp)) (λb o _ hb _ e n=>u.slot b o e n hb (by simp)) (λb o _ e n=>u.free b o e n (by simp)) (λb o _ e=>u.there b o e (by simp)) u.mZ u.oA u.rL (λm' hm=>by
  obtain⟨o',es',Rn,Ya,r'⟩:=hm;rw[ho] at Ya;cases Ya
  exact⟨_,es',Rn,hL,r'⟩) dw I.bare
theorem Inv.call{g':Array GenState}{t':Nat}{d':Drawn}{ch:List aj}(I:Inv X pins σ H s)(u:Un (yV X.stack) ch H H' s.heap h')(dw:sT X.prog X.w H' h')(hg:AllBare g')
  (Sl:∀b∈ch,(b∈X.ex\/X.s₀.heap.objs.size<=b)/\b≠X.env.locals/\(∀x c,X.env.cells.lookup x=some c->c≠b)/\∀p∈X.pn++pins,p.1≠b):
  Inv X pins σ H' {s with heap:=h',gens:=g',drawn:=d',toks:=t'}:=by
 obtain⟨m,⟨o,es,ep,ho,r⟩,_⟩:=id I.loc;obtain⟨sl,hL⟩:=u.any ho I.free λz=>(Sl _ z).2.1 rfl;exact I.step (ch:=ch) Sl (λb o hL hb hc e n=>u.keep b o e n (λz=>(aJ.mp (I.zU b z)).elim hL hb) hc) (λb o _ _ hc e n=>u.any e n hc) (λb o hc e n=>u.free b o e n hc) (λb o hc e=>u.there b o e hc) u.mZ u.oA u.rL (λm' hm=>by
  obtain⟨o',es',Rn,Ya,r'⟩:=hm;rw[ho] at Ya;cases Ya
  exact⟨_,es',Rn,hL,r'⟩) dw hg
theorem Inv.turned{t':Nat}{it:aj}(I:Inv X pins σ H s)(k:∀b o,b≠it->s.heap.get? b=some o->h'.get? b=some o)(hn:H it=none)(hL:it≠X.env.locals)
  (h1:it∈X.ex\/X.s₀.heap.objs.size<=it)(h2:∀x c,X.env.cells.lookup x=some c->c≠it)(h3:∀p∈X.pn++pins,p.1≠it):Inv X pins σ H {s with heap:=h',toks:=t'}:=by
 have Xn:∀b u,H b=some u->b≠it:=λb u e z=>by rw[z,hn] at e;cases e
 refine I.step (g':=s.gens) (d':=s.drawn) (ch:=[it]) (λb hb=> ?_) (λb o _ _ hc e _=>k b o (λz=>hc (by simp[z])) e) (λb o _ _ hc e _=>⟨o.slots,k b o (λz=>hc (by simp[z])) e⟩) (λ_ _ _ _ n=>n)
  (λb o hc e=>⟨o,k b o (λz=>hc (by simp[z])) e⟩) (λ_ _ e=>e) (λ_ _ _ e=>e) (λb ps e=>⟨#[],by rw[e];simp⟩) (λm hm=> ?_) (λb u e=> ?_) I.bare
 ·have e:b=it:=by simpa using hb
  subst e;exact⟨h1,hL,h2,h3⟩
 ·obtain⟨o,es,ep,ho,r⟩:=hm;exact⟨o,es,ep,k _ o (cY hL) ho,r⟩
 ·refine(I.dw b u e).vP (λc v hc q=>k c v ?_ q) (λ_ q=>q) λ_ _ q=>q;rcases hc with z|z
  ·rw[z];exact Xn b u e
  ·exact Xn c _ z
theorem Inv.tok(I:Inv X pins σ H s)(t:Nat):Inv X pins σ H {s with toks:=t}:=I.un (h':=s.heap) (t':=t) Un.refl I.dw
theorem Inv.kept{t':Nat}(I:Inv X pins σ H s)(k:∀b u,s.heap.get? b=some u->h'.get? b=some u):Inv X pins σ H {s with heap:=h',toks:=t'}:=I.un (Un.kept k) (I.dw.kept k)
theorem Inv.laid{a:aj}{o:HO}{t':Nat}(I:Inv X pins σ H s)(k:∀b u,s.heap.get? b=some u->h'.get? b=some u)(hp:s.heap.objs.size<=a)(new:fB X.prog X.w (upd H a o) h' a o):
  Inv X pins σ (upd H a o) {s with heap:=h',toks:=t'}:=I.un (Un.laid k hp (I.dw.fresh hp)) (I.dw.laid k hp new)
theorem Inv.write{x e:aj}{o:HO}{t':Nat}(I:Inv X pins σ H s)(mu:Mut (H x))(he:e=x\/H e=some (.own x))(k:∀b u,b≠e->s.heap.get? b=some u->h'.get? b=some u)(Ze:∃u,h'.get? e=some u)
  (new:fB X.prog X.w (upd H x o) h' x o):Inv X pins σ (upd H x o) {s with heap:=h',toks:=t'}:=I.un (Un.write mu he k Ze) (I.dw.write mu he k Ze new)
theorem Inv.weak{σ':List (Option V)}(I:Inv X pins σ H s)(hl:σ'.length=σ.length)(w:∀(i:Nat) v,σ'[i]? =some (some v)->σ[i]? =some (some v)):Inv X pins σ' H s:=
 ⟨I.ok,I.os,I.bare,I.base,let ⟨m,hn,hl'⟩:=I.loc;⟨m,hn,λi x v e1 e2 e3=>hl' i x v e1 (w i v e2) e3⟩,I.cell,I.free,I.eL,I.pin,I.dw,hl.trans I.len⟩
theorem Inv.iF{Vs:List (aj×Obj)}(I:Inv X pins σ H s)(h:∀p∈Vs,s.heap.get? p.1=some p.2/\H p.1=none/\p.1≠X.env.locals/\p.1∉X.fs/\∀v,p.2.data≠.cell v):Inv X Vs σ H s:=
 ⟨I.ok,I.os,I.bare,I.base,I.loc,I.cell,I.free,I.eL,λp hp=>(a8.mp hp).elim (λz=>I.pin p (cN _ z)) (h p),I.dw,I.len⟩
theorem Au{N:List Str}(hN:N.Nodup){i j:Nat}{x:Str}(a:N[i]? =some x)(b:N[j]? =some x):i=j:=by
 obtain⟨h1,e1⟩:=bT.mp a;obtain⟨h2,e2⟩:=bT.mp b;exact(List.getElem_inj hN).mp (e1.trans e2.symm)
theorem ME{M:Model}{A:bK}{E:af->ah->Prop}{i:Nat}{x:Str}{v:V}{u:af}{Q:Unit->ah->Prop}(I:Inv X pins σ H s)(hN:X.N.Nodup)(hi:X.N[i]? =some x)(hx:Loc X.env.scope x)(r:RelV v u)
  (h:∀s',Inv X pins (σ.set i (some v)) H s'->(∃a,Heap.SameBut a s.heap s'.heap/\(a=X.env.locals\/X.env.cells.lookup x=some a))->Q () s')(hf:X.fn x=true\/X.env.scope.names.lookup x=some .local:=by first|exact .inl U|exact .inr U|assumption):wpAny M A (storeName X.env x u) Q E s:=by
 obtain⟨m,hn,hl⟩:=id I.loc;have Zdl:(X.env.scope.kind==.class||(X.env.scope.kind==.module&&X.env.locals !=X.env.globals))=false:=by rw[I.ok.kind];rfl
 have hiσ:i<σ.length:=by rw[I.len];exact(bT.mp hi).1
 have UQ:=I.UQ;have tracked:∀{a:aj} {h':Heap},(∃o,s.heap.get? a=some o/\H a=none)->Heap.SameBut a s.heap h'->sT X.prog X.w H h':=λ{a h'} ha hs b ob e=>by
  obtain⟨_,_,VC⟩:=ha;refine(I.dw b ob e).vP (λc w' hc q=>(hs.2 c ?_).trans q) (λ_ q=>q) λ_ _ q=>q;rintro rfl;rcases hc with rfl|hc
  ·rw[VC] at e;cases e
  ·rw[VC] at hc;cases hc
 rcases hx with hk|hk
 ·refine wpAny_storeName_local hk hn (λh' hn' hs=> ?_) Zdl;obtain⟨oL,_,_,hoL,_⟩:=id hn;refine h _ ⟨I.ok,I.os,I.bare,⟨λb o e n hb hx=> ?_,λb o e n hb hx=> ?_,I.base.free,λb o e hx=> ?_,I.base.mZ,I.base.oA,I.base.rL⟩,⟨_,hn',λj y v' e1 e2 e3=> ?_⟩,λy c e=> ?_,I.free,I.eL,λp hp=> ?_,tracked ⟨oL,hoL,I.free⟩ hs,by simpa using I.len⟩ ⟨_,hs,.inl U⟩
  ·exact(hs.2 b (bc (b4 (aW e) I.ok.above))).trans (I.base.keep b o e n hb hx)
  ·obtain⟨sl,e1⟩:=I.base.slot b o e n hb hx;exact⟨sl,(hs.2 b (bc (b4 (aW e) I.ok.above))).trans e1⟩
  ·obtain⟨o',e1⟩:=I.base.there b o e hx;exact⟨o',(hs.2 b (bc (b4 (aW e) I.ok.above))).trans e1⟩
  ·by_cases hj:j=i
   ·subst hj;rw[hi] at e1;cases e1
    rw[List.getElem?_set_self hiσ] at e2
    cases e2;exact⟨u,r,.inl ⟨hk,by simp⟩⟩
   ·rw[List.getElem?_set_ne (cY hj)] at e2
    obtain⟨u',r',q⟩:=hl j y v' e1 e2 e3;refine⟨u',r', ?_⟩;rcases q with ⟨k,e⟩|⟨k,c,e,z⟩
    ·refine .inl ⟨k, ?_⟩;have:y≠x:=λe=>hj (Au hN e1 (e▸hi));simp[this,e]
    ·exact .inr ⟨k,c,e,z.sameBut hs (UQ y c e)⟩
  ·obtain⟨w',z⟩:=I.cell y c e;exact⟨w',z.sameBut hs (UQ y c e)⟩
  ·obtain⟨e,n,ne,nf,d⟩:=I.pin p hp;exact⟨(hs.2 p.1 ne).trans e,n,ne,nf,d⟩
 ·have hfn:X.fn x=true:=by
   rcases hf with z|z
   ·exact z
   ·rw[z] at hk;cases hk
  obtain⟨c,hc⟩:=I.ok.has x (.inl hk);obtain⟨w',z⟩:=I.cell x c hc;refine wpAny_storeName_cell I.ok.kind hk hc z (λh' hc' hs=> ?_);obtain⟨oc,hoc,Zc4⟩:=id z;refine h {s with heap:=h'} ⟨I.ok,I.os,I.bare,⟨λb o e n hb hx=> ?_,λb o e n hb hx=> ?_,I.base.free,λb o e hx=> ?_,I.base.mZ,I.base.oA,I.base.rL⟩,⟨m,hn.sameBut hs (cY (UQ x c hc)),λj y v' e1 e2 e3=> ?_⟩,λy c' e=> ?_,I.free,I.eL,λp hp=> ?_,tracked ⟨oc,hoc,I.eL x c hc⟩ hs,by simpa using I.len⟩ ⟨c,hs,.inr hc⟩
  ·exact(hs.2 b (bc (b4 (aW e) (I.ok.Zl x c hfn hc)))).trans (I.base.keep b o e n hb hx)
  ·obtain⟨sl,e1⟩:=I.base.slot b o e n hb hx;exact⟨sl,(hs.2 b (bc (b4 (aW e) (I.ok.Zl x c hfn hc)))).trans e1⟩
  ·obtain⟨o',e1⟩:=I.base.there b o e hx;exact⟨o',(hs.2 b (bc (b4 (aW e) (I.ok.Zl x c hfn hc)))).trans e1⟩
  ·by_cases hj:j=i
   ·subst hj;rw[hi] at e1;cases e1
    rw[List.getElem?_set_self hiσ] at e2
    cases e2;exact⟨u,r,.inr ⟨.inl hk,c,hc,hc'⟩⟩
   ·rw[List.getElem?_set_ne (cY hj)] at e2
    obtain⟨u',r',q⟩:=hl j y v' e1 e2 e3;refine⟨u',r', ?_⟩;rcases q with q|⟨k,c',e,z'⟩
    ·exact .inl q
    ·refine .inr ⟨k,c',e,z'.sameBut hs ?_⟩;rintro rfl;exact hj (Au hN e1 (I.ok.inj _ _ _ e hc▸hi))
  ·by_cases hcc:c'=c
   ·subst hcc;exact⟨_,hc'⟩
   ·obtain⟨w2,z2⟩:=I.cell y c' e;exact⟨w2,z2.sameBut hs hcc⟩
  ·obtain⟨e,n,ne,nf,d⟩:=I.pin p hp;refine⟨(hs.2 p.1 ?_).trans e,n,ne,nf,d⟩;intro q;rw[q,hoc] at e
   have q':oc=p.2:=bR e;exact d w' (by rw[<-q'];exact Zc4)
theorem vO{M:Model}{A:bK}{E:af->ah->Prop}{i:Nat}{x:Str}{v:V}{u:af}{Q:Unit->ah->Prop}(I:Inv X pins σ H s)(hN:X.N.Nodup)(hi:X.N[i]? =some x)(hx:Loc X.env.scope x)(r:RelV v u)
  (h:∀s',Inv X pins (σ.set i (some v)) H s'->Q () s')(hf:X.fn x=true\/X.env.scope.names.lookup x=some .local:=by first|exact .inl U|exact .inr U|assumption):wpAny M A (storeName X.env x u) Q E s:=
 ME I hN hi hx r (λs' I' _=>h s' I') hf
theorem Inv.VN{s':ah}{ch:List aj}(I:Inv X pins σ H s)(ho:s'.os=s.os)(u:Un (yV X.stack) ch H H' s.heap s'.heap)(dw:sT X.prog X.w H' s'.heap)(hg:AllBare s'.gens)
  (Sl:∀b∈ch,(b∈X.ex\/X.s₀.heap.objs.size<=b)/\b≠X.env.locals/\(∀x c,X.env.cells.lookup x=some c->c≠b)/\∀p∈X.pn++pins,p.1≠b):Inv X pins σ H' s':=by
 obtain⟨h',g',d',t',o'⟩:=s';have e:o'=s.os:=ho;subst e;exact I.call (g':=g') (t':=t') (d':=d') u dw hg Sl
end
abbrev XK:=af->Option aj->Hp->Prop
abbrev St:=List (Option V)
abbrev VK:=V->Hp->Prop
abbrev TE:=St->Hp->VK->Prop
abbrev TT:=St->Hp->(Bool->Hp->Prop)->Prop
abbrev TA:=St->Hp->(List V->Hp->Prop)->Prop
structure Ends where
 nx:St->Hp->Prop
 rt:VK
 bk:St->Hp->Prop:=λ_ _=>False
 ct:St->Hp->Prop:=λ_ _=>False
abbrev TS:=Ends->St->Hp->Prop
def EP(X:Cx)(pins:List (aj×Obj))(σ:St)(Q:VK)(u:af)(s':ah):Prop:=∃v H',Inv X pins σ H' s'/\RelV v u/\Q v H'
def TP(X:Cx)(pins:List (aj×Obj))(σ:St)(Q:Bool->Hp->Prop)(b:Bool)(s':ah):Prop:=∃H',Inv X pins σ H' s'/\Q b H'
def AP(X:Cx)(pins:List (aj×Obj))(σ:St)(Q:List V->Hp->Prop)(us:List af)(s':ah):Prop:=∃vs H',Inv X pins σ H' s'/\Vals vs us/\Q vs H'
def SP(X:Cx)(pins:List (aj×Obj))(D:Ends)(f:Flow)(s':ah):Prop:=
 match f with
 | .next=>∃σ' H',Inv X pins σ' H' s'/\D.nx σ' H'
 | .brk=>∃σ' H',Inv X pins σ' H' s'/\D.bk σ' H'
 | .cont=>∃σ' H',Inv X pins σ' H' s'/\D.ct σ' H'
 | .ret u=>∃v σ' H',Inv X pins σ' H' s'/\RelV v u/\D.rt v H'
def PE(X:Cx)(e:Expr)(t:TE):Prop:=
 ∀(pins:List (aj×Obj)) (s:ah) (σ:St) (H:Hp) (Q:VK),Inv X pins σ H s->t σ H Q->wpAny (model X.prog X.w) X.A (eval e X.env) (EP X pins σ Q) X.xe s
def PT(X:Cx)(e:Expr)(t:TT):Prop:=
 ∀(pins:List (aj×Obj)) (s:ah) (σ:St) (H:Hp) (Q:Bool->Hp->Prop),Inv X pins σ H s->t σ H Q->wpAny (model X.prog X.w) X.A (isTrue e X.env (eval e X.env)) (TP X pins σ Q) X.xe s
def PW(X:Cx)(e:Expr)(t:TT):Prop:=
 ∀(whole:Sem af) (pins:List (aj×Obj)) (s:ah) (σ:St) (H:Hp) (Q:Bool->Hp->Prop),Inv X pins σ H s->t σ H Q->wpAny (model X.prog X.w) X.A (isTrue e X.env whole) (TP X pins σ Q) X.xe s
theorem PW.pt{X:Cx}{e:Expr}{t:TT}(h:PW X e t):PT X e t:=h _
def PA(X:Cx)(es:List Expr)(t:TA):Prop:=
 ∀(pos:Pos) (pins:List (aj×Obj)) (s:ah) (σ:St) (H:Hp) (Q:List V->Hp->Prop),Inv X pins σ H s->t σ H Q->wpAny (model X.prog X.w) X.A (spliced (backTo pos (starEach es X.env))) (AP X pins σ Q) X.xe s
def PS(X:Cx)(st:Stmt)(t:TS):Prop:=
 ∀(pins:List (aj×Obj)) (s:ah) (σ:St) (H:Hp) (D:Ends),Inv X pins σ H s->t D σ H->wpAny (model X.prog X.w) X.A (exec st X.env) (SP X pins D) X.xe s
def Fz(X:Cx)(st:List Stmt)(t:TS):Prop:=
 ∀(pins:List (aj×Obj)) (s:ah) (σ:St) (H:Hp) (D:Ends),Inv X pins σ H s->t D σ H->wpAny (model X.prog X.w) X.A (execs st X.env) (SP X pins D) X.xe s
theorem eZ{α:Type}{t:Sem α}{Q Q':α->ah->Prop}{M:Model}{A:bK}{E:af->ah->Prop}{s:ah}(h:wpAny M A t Q E s)(hQ:∀a s,Q a s->Q' a s):wpAny M A t Q' E s:=cF h hQ λ_ _ x=>x
section
variable {X:Cx}
def yH(i:Nat):TE:=λσ H Q=>∃v,σ[i]? =some (some v)/\Q v H
def tC(v:V):TE:=λ_ H Q=>Q v H
theorem WX{i:Nat}{x:Str}{pos:Pos}(hN:X.N[i]? =some x)(hv:Vis X.env.scope x)(hd:(x==("__debug__":Str))=false:=by decide)(LP:(x==("__classdict__":Str))=false:=by decide):PE X (.Name x pos) (yH i):=by
 intro pins s σ H Q I h;obtain⟨v,e,h⟩:=h;obtain⟨m,hn,hl⟩:=I.loc;obtain⟨u,r,l⟩:=hl i x v hN e hv;have fin:EP X pins σ Q u s:=⟨v,H,I,r,h⟩
 rcases l with ⟨hk,hm⟩|⟨hk,c,hc,VD⟩
 ·exact wpAny_Name (wpAny_loadName_local I.ok.kind hk hn hm fin) hd
 ·rcases hk with hk|hk
  ·exact wpAny_Name (wpAny_loadName_cell I.ok.kind hk hc VD fin) hd
  ·exact wpAny_Name (wpAny_loadName_free I.ok.kind hk hc VD fin LP) hd
theorem a9{i j pos}:PE X (.Constant (.int i) j pos) (tC (.int i)):=λ_ _ _ H _ I h=>wpAny_Constant_int ⟨.int i,H,I.tok _,⟨_,rfl⟩,h⟩
theorem si{b j pos}:PE X (.Constant (.bool b) j pos) (tC (.bl b)):=λ_ _ _ H _ I h=>Constant_bool ⟨.bl b,H,I,rfl,h⟩
theorem gN{j pos}:PE X (.Constant .none j pos) (tC .fR):=λ_ _ _ H _ I h=>Constant_none ⟨.fR,H,I,rfl,h⟩
theorem cV{x j pos}:PE X (.Constant (.str x) j pos) (tC (.str x)):=λ_ _ _ H _ I h=>Calls.Constant_str ⟨.str x,H,I.tok _,⟨_,rfl⟩,h⟩
def Gl(X:Cx)(x:Str):Prop:=X.env.kindOf x=some .globalImplicit
theorem jw{E:af->ah->Prop}{pins:List (aj×Obj)}{s:ah}{σ:St}{H:Hp}{x:Str}{u:af}{pos:Pos}{Q:af->ah->Prop}(I:Inv X pins σ H s)(hg:Gl X x)(hm:X.mg x=some u)(h:Q u s)
  (hd:(x==("__debug__":Str))=false:=by decide):wpAny (model X.prog X.w) X.A (eval (.Name x pos) X.env) Q E s:=
 Calls.Name_function_global I.ok.kind hg (Calls.loadGlobal_global (by rw[I.ok.glob];exact I.mod.glob.keeps I.bk) hm h) hd
theorem lA{E:af->ah->Prop}{pins:List (aj×Obj)}{s:ah}{σ:St}{H:Hp}{x:Str}{u:af}{pos:Pos}{Q:af->ah->Prop}(I:Inv X pins σ H s)(hg:Gl X x)(hm:X.mg x=none)(hv:bootBuiltins x=some u)(h:Q u s)
  (hn:x≠"__name__":=by decide)(hd:(x==("__debug__":Str))=false:=by decide):wpAny (model X.prog X.w) X.A (eval (.Name x pos) X.env) Q E s:=by
 obtain⟨mb,h1,h2⟩:=I.mod.blt;exact Calls.Name_function_global I.ok.kind hg (Calls.loadGlobal_builtin (by rw[I.ok.glob];exact I.mod.glob.keeps I.bk) hm (by rw[I.ok.blt];exact h1.keeps I.bk) ((h2 x hn).trans hv) h) hd
theorem fu{x:Str}{v:V}{u:af}{pos:Pos}(hg:Gl X x)(hm:X.mg x=some u)(r:RelV v u)(hd:(x==("__debug__":Str))=false:=by decide):PE X (.Name x pos) (tC v):=
 λ_ _ _ H _ I h=>jw I hg hm ⟨v,H,I,r,h⟩ hd
theorem qo{x:Str}{v:V}{u:af}{pos:Pos}(hg:Gl X x)(hm:X.mg x=none)(hv:bootBuiltins x=some u)(r:RelV v u)(hn:x≠"__name__":=by decide)(hd:(x==("__debug__":Str))=false:=by decide):PE X (.Name x pos) (tC v):=
 λ_ _ _ H _ I h=>lA I hg hm hv ⟨v,H,I,r,h⟩ hn hd
variable {a b:Expr} {ta tb:TE} {pos:Pos}
def PC(X:Cx)(op:CmpOp)(a b:Expr)(t:TE):Prop:=
 ∀(pins:List (aj×Obj)) (s:ah) (σ:St) (H:Hp) (Q:VK),Inv X pins σ H s->t σ H Q->
  wpAny (model X.prog X.w) X.A (eval a X.env) (λv s₁=>wpAny (model X.prog X.w) X.A (eval b X.env) (λu s₂=>wpAny (model X.prog X.w) X.A (compareOp op v u) (EP X pins σ Q) X.xe s₂) X.xe s₁) X.xe s
def tB(t:TE):TT:=λσ H Q=>t σ H λx H1=>∃c,x=.bl c/\Q c H1
theorem W_{op:CmpOp}{t:TE}(h:PC X op a b t)(h1:behindInMarks op b=false:=by first|exact Qd _ (by decide) (by decide)|rfl):PE X (.Compare a [op] [b] pos) t:=λpins s σ H Q I hw=>wpAny_Compare1 (h pins s σ H Q I hw) h1
theorem Ju{op:CmpOp}{t:TE}(h:PC X op a b t)(h1:behindInMarks op b=false:=by first|exact Qd _ (by decide) (by decide)|rfl):PT X (.Compare a [op] [b] pos) (tB t):=by
 intro pins s σ H Q I hw;refine wpAny_isTrue_Compare1 (eZ (h pins s σ H _ I hw) λv s1 h1=>eZ h1 λu s2 h2=>eZ h2 λc s3 ⟨x,H1,I1,r1,q1⟩=> ?_) h1;obtain⟨d,rfl,q⟩:=q1;cases r1;exact dX ⟨H1,I1,q⟩
theorem iS{e:Expr}{t:TE}(h:PE X e t)(he:∀whole,isTrue e X.env whole=(do let v<-whole;standAt e.pos;holding [v] (truthy v)):=by intro _;rfl):PT X e (tB t):=by
 intro pins s σ H Q I hw;refine isTrue_plain (eZ (h pins s σ H _ I hw) λv s1 ⟨x,H1,I1,r1,q1⟩=> ?_) (he _);obtain⟨d,rfl,q⟩:=q1;cases r1;exact dX ⟨H1,I1,q⟩
variable {tA tB':TT} {rest:List Expr}
def Zck(t u:TT):TT:=λσ H Q=>t σ H λc H1=>if c=true then u σ H1 Q else Q false H1
def tOr(t u:TT):TT:=λσ H Q=>t σ H λc H1=>if c=true then Q true H1 else u σ H1 Q
def Zcc(t:TT):TT:=λσ H Q=>t σ H λc H1=>Q (!c) H1
theorem pw_and1(ha:PT X a tA):PW X (.BoolOp .And [a] pos) tA:=by
 intro wh pins s σ H Q I h;refine isTrue_and (eZ (ha pins s σ H Q I h) λc s1 e=> ?_);cases c with
 |true=>exact isTrue_and_nil e
 |false=>exact e
theorem pw_or1(ha:PT X a tA):PW X (.BoolOp .Or [a] pos) tA:=by
 intro wh pins s σ H Q I h;refine isTrue_or (eZ (ha pins s σ H Q I h) λc s1 e=> ?_);cases c with
 |false=>exact isTrue_or_nil e
 |true=>exact e
theorem pw_and(ha:PT X a tA)(hb:PW X (.BoolOp .And (b::rest) pos) tB'):PW X (.BoolOp .And (a::b::rest) pos) (Zck tA tB'):=by
 intro wh pins s σ H Q I h;refine isTrue_and (eZ (ha pins s σ H _ I h) λc s1 ⟨H1,I1,q1⟩=> ?_);cases c with
 |true=>exact hb wh pins s1 σ H1 Q I1 q1
 |false=>exact⟨H1,I1,q1⟩
theorem pw_or(ha:PT X a tA)(hb:PW X (.BoolOp .Or (b::rest) pos) tB'):PW X (.BoolOp .Or (a::b::rest) pos) (tOr tA tB'):=by
 intro wh pins s σ H Q I h;refine isTrue_or (eZ (ha pins s σ H _ I h) λc s1 ⟨H1,I1,q1⟩=> ?_);cases c with
 |true=>exact⟨H1,I1,q1⟩
 |false=>exact hb wh pins s1 σ H1 Q I1 q1
theorem mH(ha:PT X a tA):PT X (.UnaryOp .Not a pos) (Zcc tA):=by
 intro pins s σ H Q I h;exact isTrue_not (ha pins s σ H (λc H1=>Q (!c) H1) I h)
def ZR(ta tb:TE):TE:=λσ H Q=>ta σ H λx H1=>∃c,x=.bl c/\if c=true then tb σ H1 Q else Q (.bl false) H1
def Zcb(ta tb:TE):TE:=λσ H Q=>ta σ H λx H1=>∃c,x=.bl c/\if c=true then Q (.bl true) H1 else tb σ H1 Q
def ZJ(ta:TE):TE:=λσ H Q=>ta σ H λx H1=>∃c,x=.bl c/\Q (.bl (!c)) H1
theorem D_{op}{t:TE}(h:PE X a t):PE X (.BoolOp op [a] pos) t:=λpins s σ H Q I hw=>BoolOp_one (h pins s σ H Q I hw)
theorem Jy(ha:PE X a ta)(hb:PE X (.BoolOp .And (b::rest) pos) tb):PE X (.BoolOp .And (a::b::rest) pos) (ZR ta tb):=by
 intro pins s σ H Q I h;refine BoolOp_and (eZ (ha pins s σ H _ I h) λv s1 ⟨x,H1,I1,r1,q1⟩=> ?_);obtain⟨c,rfl,q1⟩:=q1;cases r1;refine dX ?_;cases c with
 |true=>exact hb pins s1 σ H1 Q I1 q1
 |false=>exact⟨.bl false,H1,I1,U,q1⟩
theorem Zah(ha:PE X a ta)(hb:PE X (.BoolOp .Or (b::rest) pos) tb):PE X (.BoolOp .Or (a::b::rest) pos) (Zcb ta tb):=by
 intro pins s σ H Q I h;refine BoolOp_or (eZ (ha pins s σ H _ I h) λv s1 ⟨x,H1,I1,r1,q1⟩=> ?_);obtain⟨c,rfl,q1⟩:=q1;cases r1;refine dX ?_;cases c with
 |false=>exact hb pins s1 σ H1 Q I1 q1
 |true=>exact⟨.bl true,H1,I1,U,q1⟩
theorem WY(ha:PE X a ta):PE X (.UnaryOp .Not a pos) (ZJ ta):=by
 intro pins s σ H Q I h;refine UnaryOp_ (eZ (ha pins s σ H _ I h) λv s1 ⟨x,H1,I1,r1,q1⟩=> ?_);obtain⟨c,rfl,q1⟩:=q1;cases r1;exact not_of (dX ⟨.bl (!c),H1,I1,U,q1⟩)
end
def cK(K:au)(H:Hp)(a:aj)(xs:List V):Prop:=
 Rd H a (.lst xs)\/
  ∃(o:Obj) (its:Array af) (n:Nat),K.lookup a=some o/\o.cls=.type "list"/\o.dict=none/\o.data=.seq its n/\its.size<=sizeLine/\Vals xs its.toList
def jU(K:au)(H:Hp)(a:aj)(xs:List V):Prop:=
 Rd H a (.tup xs)\/
  ∃(o:Obj) (its:Array af) (n:Nat),K.lookup a=some o/\o.cls=.type "tuple"/\o.data=.seq its n/\its.size<=sizeLine/\Vals xs its.toList
def ZdP:af->Option V
 | .none=>some .fR
 | .bool b=>some (.bl b)
 | .int i _=>some (.int i)
 | .str x _=>some (.str x)
 | .bytes b _=>some (.L_ b)
 | .float b _=>some (.Yk b)
 | .ref a=>some (.ref a)
 | .type n=>some (.ty n)
 |_=>none
theorem RelV.abs{x:V}{u:af}(r:RelV x u):ZdP u=some x:=by
 cases x with
 |fR=>cases r;rfl
 |bl _=>cases r;rfl
 |int _=>obtain⟨t,rfl⟩:=r;rfl
 |str _=>obtain⟨t,rfl⟩:=r;rfl
 |L_ _=>obtain⟨t,rfl⟩:=r;rfl
 |Yk _=>obtain⟨t,rfl⟩:=r;rfl
 |ref _=>cases r;rfl
 |ty _=>cases r;rfl
theorem RelV.inj{x y:V}{u:af}(r:RelV x u)(q:RelV y u):x=y:=bR (r.abs.symm.trans q.abs)
theorem Vals.inj:∀{xs ys:List V} {us:List af},Vals xs us->Vals ys us->xs=ys
 |_,_,_,.nil,.nil=>rfl
 |_,_,_,.cons r t,.cons r' t'=>by rw[r.inj r',Vals.inj t t']
section
variable {X:Cx} {pins:List (aj×Obj)} {σ:St} {H:Hp} {s:ah} {a:aj} {xs ys:List V}
theorem cK.of{K:au}(h:H a=some (.lst xs)):cK K H a xs:=.inl (.inl h)
theorem jU.of{K:au}(h:H a=some (.tup xs)):jU K H a xs:=.inl (.inl h)
theorem Inv.list(I:Inv X pins σ H s)(h:cK X.K H a xs):∃its:List af,Vals xs its/\PlainL s.heap a its.toArray/\xs.length<=sizeLine:=by
 rcases h with h|⟨o,its,n,hk,hc,hd,hs,hz,r⟩
 ·obtain⟨z,its,n,r,e⟩:=h.ok I.dw;exact⟨its,r,⟨_,n,e,U,U,U⟩,z⟩
 ·refine⟨its.toList,r,⟨o,n,I.q5 a o hk,hc,hd,by simpa using hs⟩, ?_⟩;have e:=r.length;simp only [bx] at e
  omega
theorem Inv.tuple(I:Inv X pins σ H s)(h:jU X.K H a xs):∃its:List af,Vals xs its/\IsTup s.heap a its.toArray/\xs.length<=sizeLine:=by
 rcases h with h|⟨o,its,n,hk,hc,hs,hz,r⟩
 ·obtain⟨z,its,r,p⟩:=h.ok I.dw;exact⟨its,r,p,z⟩
 ·refine⟨its.toList,r,⟨o,I.q5 a o hk,hc,n,by simpa using hs⟩, ?_⟩;have e:=r.length;simp only [bx] at e
  omega
theorem Inv.Az(I:Inv X pins σ H s)(h:cK X.K H a xs)(h':cK X.K H a ys):xs=ys:=by
 obtain⟨its,r,⟨o,n,e,_,_,d⟩,_⟩:=I.list h;obtain⟨its',r',⟨o',n',e',_,_,d'⟩,_⟩:=I.list h';rw[e] at e';cases e'
 rw[d] at d'
 injection d' with d1 _
 have:its=its':=by simpa using dc Array.toList d1
 subst this;exact r.inj r'
theorem Inv.My(I:Inv X pins σ H s)(h:jU X.K H a xs)(h':jU X.K H a ys):xs=ys:=by
 obtain⟨its,r,⟨o,e,_,n,d⟩,_⟩:=I.tuple h;obtain⟨its',r',⟨o',e',_,n',d'⟩,_⟩:=I.tuple h';rw[e] at e';cases e'
 rw[d] at d'
 injection d' with d1 _
 have:its=its':=by simpa using dc Array.toList d1
 subst this;exact r.inj r'
end
abbrev Cx.tZ(X:Cx)(E:af->ah->Prop):Cx:={X with xe:=E}
abbrev Cx.Vu(X:Cx):Cx:=X.tZ λ_ _=>False
theorem Cx.Ok.tZ{X:Cx}(ok:X.Ok)(E:af->ah->Prop):(X.tZ E).Ok:=
 ⟨ok.mod,ok.kind,ok.glob,ok.blt,ok.above,ok.inj,ok.has,ok.Zl,ok.hd,ok.frames,ok.ZT,ok.exf,ok.bs,ok.OD,ok.Ng,ok.Rj,ok.uf,ok.Sm⟩
theorem Cx.Ok.l_{X:Cx}{E:af->ah->Prop}(ok:(X.tZ E).Ok):X.Ok:=
 ⟨ok.mod,ok.kind,ok.glob,ok.blt,ok.above,ok.inj,ok.has,ok.Zl,ok.hd,ok.frames,ok.ZT,ok.exf,ok.bs,ok.OD,ok.Ng,ok.Rj,ok.uf,ok.Sm⟩
section
variable {X:Cx} {pins:List (aj×Obj)} {σ:St} {H:Hp} {s:ah} {E:af->ah->Prop}
theorem Inv.tZ(I:Inv X pins σ H s)(E:af->ah->Prop):Inv (X.tZ E) pins σ H s:=⟨I.ok.tZ E,I.os,I.bare,I.base,I.loc,I.cell,I.free,I.eL,I.pin,I.dw,I.len⟩
theorem Inv.l_(I:Inv (X.tZ E) pins σ H s):Inv X pins σ H s:=⟨I.ok.l_,I.os,I.bare,I.base,I.loc,I.cell,I.free,I.eL,I.pin,I.dw,I.len⟩
theorem SP.l_{D:Ends}{f:Flow}{s':ah}(h:SP (X.tZ E) pins D f s'):SP X pins D f s':=by
 cases f with
 |next=>obtain⟨σ',H',I,q⟩:=h;exact⟨σ',H',I.l_,q⟩
 |brk=>obtain⟨σ',H',I,q⟩:=h;exact⟨σ',H',I.l_,q⟩
 |cont=>obtain⟨σ',H',I,q⟩:=h;exact⟨σ',H',I.l_,q⟩
 |ret u=>obtain⟨v,σ',H',I,r,q⟩:=h;exact⟨v,σ',H',I.l_,r,q⟩
theorem Fz.Vu{st:List Stmt}{t:TS}(h:Fz X.Vu st t):Fz X st t:=λpins s σ H D I hw=>
 cF (h pins s σ H D (I.tZ _) hw) (λ_ _ q=>q.l_) λ_ _ z=>False.elim z
end
section
variable {X:Cx} {st:Stmt} {rest:List Stmt} {t u:TS} {e:Expr} {te:TE} {pos:Pos}
def ZK:TS:=λD σ H=>D.nx σ H
def Ws(t u:TS):TS:=λD σ H=>t {D with nx:=u D} σ H
theorem b9:Fz X [] ZK:=λ_ _ σ H _ I h=>iJ ⟨σ,H,I,h⟩
theorem av(h1:PS X st t)(h2:Fz X rest u):Fz X (st::rest) (Ws t u):=by
 intro pins s σ H D I h;refine wpAny_execs_cons (eZ (h1 pins s σ H {D with nx:=u D} I h) λf s1 q=> ?_);cases f with
 |next=>
  obtain⟨σ',H',I',q⟩:=q;exact h2 pins s1 σ' H' D I' q
 |ret v=>exact q
 |brk=>exact q
 |cont=>exact q
theorem aR(h1:PS X st t):Fz X [st] t:=by
 intro pins s σ H D I h;refine wpAny_execs_cons (eZ (h1 pins s σ H D I h) λf s1 q=> ?_);cases f with
 |next=>exact iJ q
 |ret v=>exact q
 |brk=>exact q
 |cont=>exact q
theorem Inv.quiet{pins:List (aj×Obj)}{σ:St}{H:Hp}{s:ah}(I:Inv X pins σ H s):interactive X.env=false:=by simp[interactive,I.ok.kind]
def ZN(te:TE):TS:=λD σ H=>te σ H λ_ H1=>D.nx σ H1
theorem gY(he:PE X e te)(hs:swapsWith e none pos.line X.env=pure false:=by rfl):PS X (.Expr e pos) (ZN te):=by
 intro pins s σ H D I h;exact wpAny_Expr_any (eZ (he pins s σ H _ I h) λv s1 ⟨x,H1,I1,r1,q1⟩=>⟨σ,H1,I1,q1⟩) I.quiet hs
def ZH(te:TE):TS:=λD σ H=>te σ H D.rt
theorem bP(he:PE X e te):PS X (.Return (some e) pos) (ZH te):=by
 intro pins s σ H D I h;exact wpAny_Return_some (eZ (he pins s σ H _ I h) λv s1 ⟨x,H1,I1,r1,q1⟩=>⟨x,σ,H1,I1,r1,q1⟩)
def Zce(c:TT)(t u:TS):TS:=λD σ H=>c σ H λb H1=>if b=true then t D σ H1 else u D σ H1
theorem c9{c:Expr}{a b:List Stmt}{tc:TT}(hc:PT X c tc)(ha:Fz X a t)(hb:Fz X b u):PS X (.If c a b pos) (Zce tc t u):=by
 intro pins s σ H D I h;refine wpAny_If (eZ (hc pins s σ H _ I h) λd s1 ⟨H1,I1,q1⟩=> ?_);cases d with
 |true=>exact ha pins s1 σ H1 D I1 q1
 |false=>exact hb pins s1 σ H1 D I1 q1
def Wt:TS:=λ_ _ _=>False
theorem jr:PS X st Wt:=λ_ _ _ _ _ _ h=>h.elim
end
abbrev TG:=V->St->Hp->(St->Hp->Prop)->Prop
abbrev VS:=List V->St->Hp->(St->Hp->Prop)->Prop
def PG(X:Cx)(target:Expr)(t:TG):Prop:=
 ∀(pins:List (aj×Obj)) (s:ah) (σ:St) (H:Hp) (v:V) (u:af) (Q:St->Hp->Prop),Inv X pins σ H s->RelV v u->t v σ H Q->
  wpAny (model X.prog X.w) X.A (assign target X.env u) (λ_ s'=>∃σ' H',Inv X pins σ' H' s'/\Q σ' H') X.xe s
def PGs(X:Cx)(ts:List Expr)(t:VS):Prop:=
 ∀(pins:List (aj×Obj)) (s:ah) (σ:St) (H:Hp) (vs:List V) (us:List af) (Q:St->Hp->Prop),Inv X pins σ H s->Vals vs us->t vs σ H Q->
  wpAny (model X.prog X.w) X.A (assignInOrder ((assignEach ts X.env).map (·.2)) us) (λ_ s'=>∃σ' H',Inv X pins σ' H' s'/\Q σ' H') X.xe s
section
variable {X:Cx} {pos:Pos}
def CZ(i:Nat):TG:=λv σ H Q=>Q (σ.set i (some v)) H
theorem cR{i:Nat}{x:Str}(hN:X.N.Nodup)(hi:X.N[i]? =some x)(hx:Loc X.env.scope x)(hf:X.fn x=true\/X.env.scope.names.lookup x=some .local:=by first|exact .inl U|exact .inr U|assumption):PG X (.Name x pos) (CZ i):=by
 intro pins s σ H v u Q I r h;exact wpAny_assign_Name (vO I hN hi hx r (λs' I'=>⟨_,H,I',h⟩) hf)
def ZaV:VS:=λvs σ H Q=>vs=[]/\Q σ H
def Rb(t:TG)(u:VS):VS:=λvs σ H Q=>∃v r,vs=v::r/\t v σ H λσ' H'=>u r σ' H' Q
theorem lO:PGs X [] ZaV:=by
 intro pins s σ H vs us Q I r h;obtain⟨e,h⟩:=h;subst e;cases r;exact assignInOrder_nil ⟨σ,H,I,h⟩
theorem fw{e:Expr}{es:List Expr}{t:TG}{u:VS}(h1:PG X e t)(h2:PGs X es u)
  (hs:(assignEach (e::es) X.env).map (·.2)=assign e X.env::(assignEach es X.env).map (·.2):=by rfl):PGs X (e::es) (Rb t u):=by
 intro pins s σ H vs us Q I r h;obtain⟨v,vr,e1,h⟩:=h;subst e1;cases r with
 |cons r rr=>
  rw[hs];refine assignInOrder_cons (eZ (h1 pins s σ H _ _ _ I r h) λ_ s1 ⟨σ1,H1,I1,q1⟩=> ?_);exact h2 pins s1 σ1 H1 _ _ Q I1 rr q1
def Yi(K:au)(n:Nat)(t:VS):TG:=λv σ H Q=>∃a xs,v=.ref a/\jU K H a xs/\xs.length=n/\t xs σ H Q
theorem ql{es:List Expr}{k:Nat}{t:VS}{n:Nat}(hc:X.calm=true)(h:PGs X es t)
  (hn:(assignEach es X.env).length=n:=by rfl)(XZ:(assignEach es X.env).findIdx? (·.1)=none:=by rfl):PG X (.Tuple es k pos) (Yi X.K n t):=by
 intro pins s σ H v u Q I r hw;obtain⟨a,xs,e1,hq,hl,hw⟩:=hw;subst e1;cases r;obtain⟨its,rv,ht,hz⟩:=I.tuple hq;refine assign_Tuple_tuple (I.ok.hd hc) ht (by simp[hn,<-hl,rv.length]) XZ λh' hx=> ?_;have I1:Inv X pins σ H {s with heap:=h'}:=I.kept (t':=s.toks) λb o e=>hx b o (bc (aW e)) e;exact h pins _ σ H xs _ Q I1 (by simpa using rv) hw
def Wz(te:TE)(g:TG):TS:=λD σ H=>te σ H λx H1=>g x σ H1 D.nx
theorem D9{tg e:Expr}{te:TE}{g:TG}(he:PE X e te)(hg:PG X tg g)(hs:swapsWithSole [tg] e pos.line X.env=pure false:=by rfl)(hw:swappedStores [tg] e X.env=pure none:=by rfl)
  (h1:(assignEach [tg] X.env).map (·.2)=[assign tg X.env]:=by rfl):PS X (.Assign [tg] e pos) (Wz te g):=by
 intro pins s σ H D I h;refine wpAny_Assign_stores (eZ (he pins s σ H _ I h) λv s1 ⟨x,H1,I1,r1,q1⟩=> ?_) hs hw;rw[h1];exact eZ (hg pins s1 σ H1 x v _ I1 r1 q1) λ_ s2 q=>q
theorem bS{i:Nat}{x:Str}{e:Expr}{te:TE}{pos':Pos}(hN:X.N.Nodup)(hi:X.N[i]? =some x)(hx:Loc X.env.scope x)(he:PE X e te)(hs:swapsWith e (some (.Name x pos')) pos.line X.env=pure false:=by rfl)(hf:X.fn x=true\/X.env.scope.names.lookup x=some .local:=by first|exact .inl U|exact .inr U|assumption):
  PS X (.Assign [.Name x pos'] e pos) (Wz te (CZ i)):=by
 intro pins s σ H D I h;refine wpAny_Assign_Name (eZ (he pins s σ H _ I h) λv s1 ⟨y,H1,I1,r1,q1⟩=> ?_) hs;exact vO I1 hN hi hx r1 (λs2 I2=>⟨_,H1,I2,q1⟩) hf
def Wq(c:TT)(tb:TS):TS:=λD σ H=>∃W:Nat->St->Hp->Prop,(∃m,W m σ H)/\∀m σ H,W m σ H->
 c σ H λb H1=>if b=true then∃N:St->Hp->Prop,(∀σ' H',N σ' H'->∃m',m'<m/\W m' σ' H')/\tb {D with nx:=N,ct:=N,bk:=D.nx} σ H1 else D.nx σ H1
theorem Gj{c:Expr}{body:List Stmt}{tc:TT}{tb:TS}(hp:PassesOwn (model X.prog X.w) X.A X.env X.xe)(hc:PT X c tc)(hb:Fz X body tb):PS X (.While c body [] pos) (Wq tc tb):=by
 intro pins s σ H D I h;obtain⟨W,⟨m0,w0⟩,turn⟩:=h;refine wpAny_While (codeAny_whileLoop (λn s'=>∃σ' H',Inv X pins σ' H' s'/\W n σ' H') ?_ m0 ⟨σ,H,I,w0⟩);rintro n s1 ⟨σ1,H1,I1,w1⟩;refine jI hp (eZ (hc pins s1 σ1 H1 _ I1 (turn n σ1 H1 w1)) λb s2 ⟨H2,I2,q2⟩=> ?_);cases b with
 |true=>
  obtain⟨N,hN,q2⟩:=q2;rw[bg rfl];refine jI hp (eZ (hb pins s2 σ1 H2 _ I2 q2) λf s3 q3=> ?_);cases f with
  |next=>
   obtain⟨σ3,H3,I3,n3⟩:=q3;obtain⟨m',hm,w3⟩:=hN σ3 H3 n3;exact⟨m',hm,σ3,H3,I3,w3⟩
  |cont=>
   obtain⟨σ3,H3,I3,n3⟩:=q3;obtain⟨m',hm,w3⟩:=hN σ3 H3 n3;exact⟨m',hm,σ3,H3,I3,w3⟩
  |brk=>exact q3
  |ret v=>exact q3
 |false=>
  rw[aX bj];exact iJ ⟨σ1,H2,I2,q2⟩
end
structure It where
 go:Nat->Hp->Prop
 Sy:Nat->Hp->V->Hp->Prop
 stop:Nat->Hp->Prop
def A8(X:Cx)(pins:List (aj×Obj))(H:Hp)(b:aj):Prop:=
 H b=none/\b≠X.env.locals/\b∉X.fs/\(b∈X.ex\/X.s₀.heap.objs.size<=b)/\(∀x c,X.env.cells.lookup x=some c->c≠b)/\∀p∈X.pn++pins,p.1≠b
theorem Inv.BS{X:Cx}{pins:List (aj×Obj)}{σ:St}{H H':Hp}{s:ah}{b:aj}(I:Inv X pins σ H s)(hb:s.heap.objs.size<=b)(hn:H' b=none):A8 X pins H' b:=by
 refine⟨hn,jR (b4 I.lt hb),I.Xk hb,.inr (bD I.sz hb),λx c e z=> ?_,λp hp z=> ?_⟩
 ·obtain⟨v,q⟩:=I.cell x c e;exact absurd (b4 q.lt (by rw[z];exact hb)) (dP _)
 ·exact absurd (b4 (aW (I.pin p hp).1) (by rw[z];exact hb)) (dP _)
structure Turn (P:bo) (w:World) (K:au) (tg:Expr) (J:It) (fp:List aj) (it:aj) (tn:Nat->Heap->Prop):Prop where
 mem:it∈fp
 obj:∀i h,tn i h->∀b∈fp,∃o,h.get? b=some o/\∀v,o.data≠.cell v
 keep:∀i h h',tn i h->(∀b∈fp,∀o,h.get? b=some o->h'.get? b=some o)->tn i h'
 item:∀(X:Cx),X.prog=P->X.w=w->X.K=K->X.calm=true->∀(i:Nat) (pins:List (aj×Obj)) (s:ah) (σ:St) (H:Hp) (E:af->ah->Prop),Inv X pins σ H s->(∀b∈fp,A8 X pins H b)->tn i s.heap->J.go i H->
  wpAny (model P w) X.A (pyNext (.ref it)) (λr s1=>∃u,r=some u/\
   wpAny (model P w) X.A (letOwnedTupleGo tg (.ref it) u) (λ_ s2=>∃x H',Inv X pins σ H' s2/\RelV x u/\J.Sy i H x H'/\tn (i+1) s2.heap/\∀b∈fp,H' b=none) E s1) E s
 done:∀(X:Cx),X.prog=P->X.w=w->X.K=K->X.calm=true->∀(i:Nat) (pins:List (aj×Obj)) (s:ah) (σ:St) (H:Hp) (E:af->ah->Prop),Inv X pins σ H s->(∀b∈fp,A8 X pins H b)->tn i s.heap->J.stop i H->
  wpAny (model P w) X.A (pyNext (.ref it)) (λr s1=>r=none/\Inv X pins σ H s1) E s
 self:∀(A:bK) (i:Nat) (s:ah) (Q:af->ah->Prop) (E:af->ah->Prop),tn i s.heap->Q (.ref it) s->wpAny (model P w) A (pyIter (.ref it)) Q E s
abbrev TI:=St->Hp->(It->Hp->Prop)->Prop
def PIE(X:Cx)(pins:List (aj×Obj))(σ:St)(tg:Expr)(R:It->Hp->Prop)(itv:af)(s2:ah):Prop:=
 ∃(it:aj) (fp:List aj) (tn:Nat->Heap->Prop) (J:It) (H':Hp),itv=.ref it/\Inv X pins σ H' s2/\Turn X.prog X.w X.K tg J fp it tn/\tn 0 s2.heap/\(∀b∈fp,A8 X pins H' b)/\R J H'
def PI(X:Cx)(tg iter:Expr)(wi:TI):Prop:=
 ∀(pins:List (aj×Obj)) (s:ah) (σ:St) (H:Hp) (R:It->Hp->Prop),Inv X pins σ H s->wi σ H R->
  wpAny (model X.prog X.w) X.A (eval iter X.env) (λv s1=>wpAny (model X.prog X.w) X.A (pyIter v) (PIE X pins σ tg R) X.xe s1) X.xe s
theorem CY{M:Model}{A:bK}{E:af->ah->Prop}{s:ah}{tg:Expr}{it:aj}{u:af}{o:Obj}{n:String}{vs:Array af}{Q:Unit->ah->Prop}(ho:s.heap.get? it=some o)(hc:o.cls=.type n)(hd:o.data=.fields vs)
  (hn:["enumerate","zip","dict_itemiterator","dict_reverseitemiterator","odict_iterator","itertools.zip_longest","itertools.pairwise"].contains n=false)(hQ:Q () s):wpAny M A (letOwnedTupleGo tg (.ref it) u) Q E s:=by
 unfold letOwnedTupleGo;cases tg<;>first
  |exact aq hQ
  |(cases u<;>first
    |exact aq hQ
    |(refine aa (wpAny_load ho ?_)
      rw[hc,hd];show wpAny M A (if(["enumerate","zip","dict_itemiterator","dict_reverseitemiterator","odict_iterator","itertools.zip_longest","itertools.pairwise"].contains n&&vs[0]? ==some (rawInt _))=true then _ else _) Q E s;rw[aX (by intro h;rw[hn,iP] at h;cases h)]
      exact aq hQ))
def Yz(K:au)(a:aj):It:=
 ⟨λi H=>∃xs x,cK K H a xs/\xs[i]? =some x,λi H x H'=>H'=H/\∀xs,cK K H a xs->xs[i]? =some x,λi H=>∃xs,cK K H a xs/\xs.length<=i⟩
def Zn(lo:Int)(n:Nat):It:=⟨λi _=>i<n,λi H x H'=>H'=H/\x=.int (lo+i),λi _=>n<=i⟩
theorem Mv{P:bo}{w:World}{K:au}{tg:Expr}(a it:aj):Turn P w K tg (Yz K a) [it] it (λi h=>h.IsListIter it a i) where
 mem:=by simp
 obj:=λi h st b hb=>by
  have e:b=it:=by simpa using hb
  subst e;obtain⟨o,e,c,d⟩:=st;exact⟨o,e,λv z=>by rw[d] at z;cases z⟩
 keep:=λi h h' st k=>st.at λo e=>k it (by simp) o e
 item:=by
  intro X hP hw hK hc i pins s σ H E I hf st hg;subst hP hw hK;obtain⟨xs,x,hq,hx⟩:=hg;obtain⟨its,rv,p,hz⟩:=I.list hq;obtain⟨u,hu,ru⟩:=rv.get hx;obtain⟨f0,f1,f2,f3,f4,f5⟩:=hf it (by simp);refine wpAny_pyNext_list_item st p.isList (x:=u) (by simpa using hu) λh' yI sb=> ?_;have I1:Inv X pins σ H {s with heap:=h'}:=I.turned (t':=s.toks) (λb o hb e=>(sb.2 b hb).trans e) f0 f1 f3 f4 f5;obtain⟨o,e,c,d⟩:=id yI
  exact⟨u,U,CY (s:={s with heap:=h'}) e c d (by decide) ⟨x,H,I1,ru,⟨U,λys hy=>by rw[I.Az hy hq];exact hx⟩,yI,λb hb=>(hf b hb).1⟩⟩
 done:=by
  intro X hP hw hK hc i pins s σ H E I hf st hg;subst hP hw hK;obtain⟨xs,hq,hx⟩:=hg;obtain⟨its,rv,p,hz⟩:=I.list hq;obtain⟨f0,f1,f2,f3,f4,f5⟩:=hf it (by simp);have hl:=rv.length;exact wpAny_pyNext_list_end (I.ok.hd hc) st p.isList (by simp;omega) λh' eb=>⟨U,I.turned (t':=s.toks) (λb o hb e=>eb b o hb e) f0 f1 f3 f4 f5⟩
 self:=λ_ _ _ _ _ st h=>wpAny_pyIter_listiter st h
theorem IV{P:bo}{w:World}{K:au}{tg:Expr}(it:aj)(lo:Int)(n:Nat):Turn P w K tg (Zn lo n) [it] it (λi h=>IsRangeIter h it (lo+(i:Nat)*1) ((n:Int)-(i:Nat)) 1) where
 mem:=by simp
 obj:=λi h st b hb=>by
  have e:b=it:=by simpa using hb
  subst e;exact⟨_,st,λv z=>by
   have z':Data.fields _=Data.cell v:=z;cases z'⟩
 keep:=λi h h' st k=>k it (by simp) _ st
 item:=by
  intro X hP hw hK hc i pins s σ H E I hf st hg;subst hP hw hK;obtain⟨f0,f1,f2,f3,f4,f5⟩:=hf it (by simp);have W:=Walks.range (prog:=X.prog) (w:=X.w) (I.ok.hd hc) it lo 1 n;refine W.item i s _ _ hg st λv h' tk hv yI kk=> ?_;obtain⟨t,rfl⟩:=hv;have I1:Inv X pins σ H {s with heap:=h',toks:=tk}:=I.turned (λb o hb e=>kk b o (by simpa using hb) e) f0 f1 f3 f4 f5;refine⟨_,U,CY (s:={s with heap:=h',toks:=tk}) (n:="range_iterator") yI U U (by decide) ⟨.int (lo+i),H,I1,⟨t, ?_⟩,⟨U,U⟩,yI,λb hb=>(hf b hb).1⟩⟩
  rw[Int.mul_one]
 done:=by
  intro X hP hw hK hc i pins s σ H E I hf st hg;subst hP hw hK;obtain⟨f0,f1,f2,f3,f4,f5⟩:=hf it (by simp);exact wpAny_pyNext_range_end (I.ok.hd hc) st (by have:n<=i:=hg;omega) λh' eb=>⟨U,I.turned (t':=s.toks) (λb o hb e=>eb b o hb e) f0 f1 f3 f4 f5⟩
 self:=λ_ _ _ _ _ st h=>wpAny_pyIter_rangeiter st h
section
variable {X:Cx} {tg:Expr}
def ZaB(K:au)(tl:TE):TI:=λσ H R=>tl σ H λx H1=>∃a,x=.ref a/\(∃xs,cK K H1 a xs)/\R (Yz K a) H1
theorem gk{l:Expr}{tl:TE}(hl:PE X l tl):PI X tg l (ZaB X.K tl):=by
 intro pins s σ H R I h;refine eZ (hl pins s σ H _ I h) λv s1 ⟨x,H1,I1,r1,q1⟩=> ?_;obtain⟨a,e,⟨xs,hq⟩,q⟩:=q1;subst e;cases r1;obtain⟨its,rv,p,hz⟩:=I1.list hq;refine fk p.isList ?_;refine⟨s1.heap.objs.size,[s1.heap.objs.size],_,_,H1,U,I1.kept (t':=s1.toks) λb o e=>ai _ e,Mv a _,⟨_,aM _ U,U,U⟩,λb hb=> ?_,q⟩;have e:b=s1.heap.objs.size:=by simpa using hb
 subst e;exact I1.BS (aE _) (I1.dw.fresh (aE _))
theorem Py{pins:List (aj×Obj)}{σ:St}{H:Hp}{s:ah}{R:It->Hp->Prop}{E:af->ah->Prop}{lo hi:Int}{t u v:Tok}{tk:Nat}(I:Inv X pins σ H s)(h1: -(2^62)<=lo)(h2:lo<2^62)(h3: -(2^62)<=hi)(h4:hi<2^62)
  (q:R (Zn lo (hi-lo).toNat) H):wpAny (model X.prog X.w) X.A (pyIter (.ref s.heap.objs.size)) (PIE X pins σ tg R) E {s with heap:=s.heap.push {cls:=.type "range",data:=.fields #[.int lo t,.int hi u,.int 1 v]},toks:=tk}:=by
 refine wpAny_pyIter_range (IsRange.new ..) (small_one h1 h2 h3 h4) ?_;have I1:Inv X pins σ H {s with heap:=s.heap.push {cls:=.type "range",data:=.fields #[.int lo t,.int hi u,.int 1 v]},toks:=tk}:=I.kept λb o e=>ai _ e;refine⟨(s.heap.push {cls:=.type "range",data:=.fields #[.int lo t,.int hi u,.int 1 v]}).objs.size,[(s.heap.push {cls:=.type "range",data:=.fields #[.int lo t,.int hi u,.int 1 v]}).objs.size],_,_,H,U,
  I1.kept (t':=tk) λb o e=>ai _ e,IV _ lo (hi-lo).toNat, ?_,λb hb=> ?_,q⟩
 ·have e1:lo+((0:Nat):Int)*1=lo:=by simp
  have e2:(((hi-lo).toNat:Nat):Int)-((0:Nat):Int)=Builtin.Range.rangeSize lo hi 1:=by rw[rangeSize_one];split<;>omega
  show IsRangeIter _ _ (lo+((0:Nat):Int)*1) ((((hi-lo).toNat:Nat):Int)-((0:Nat):Int)) 1;rw[e1,e2];exact aM _ U
 ·have e:b=(s.heap.push {cls:=.type "range",data:=.fields #[.int lo t,.int hi u,.int 1 v]}).objs.size:=by simpa using hb
  subst e;exact I1.BS (aE _) (I1.dw.fresh (aE _))
def ZaA(ta:TA):TI:=λσ H R=>ta σ H λvs H1=>∃j:Int,vs=[.int j]/\-(2^62)<=j/\j<2^62/\R (Zn 0 j.toNat) H1
theorem Cz{a:Expr}{ta:TA}{p pos:Pos}(hg:Gl X "range")(hm:X.mg "range"=none)(ha:PA X [a] ta)(hs:starEach [a] X.env=[(false,eval a X.env)]:=by rfl):PI X tg (.Call (.Name "range" p) [a] [] pos) (ZaA ta):=by
 intro pins s σ H R I h;refine Call_ (lA I hg hm boot_range (PyProof.Rows.callWith_type1 (eZ (ha pos pins s σ H _ I h) λus s1 ⟨vs,H1,I1,r1,q1⟩=> ?_) hs U));obtain⟨j,e,q1,q2,q⟩:=q1;subst e;cases r1 with
 |cons r rr=>
  cases rr;obtain⟨t,rfl⟩:=r;exact call_range_1 (Py I1 (by omega) (by omega) q1 q2 (by simpa using q))
def Zcf(wi:TI)(g:TG)(tb:TS):TS:=λD σ H=>wi σ H λJ H1=>∃W:Nat->Nat->St->Hp->Prop,(∃m,W 0 m σ H1)/\∀i m σ H,W i m σ H->
 (J.stop i H/\D.nx σ H)\/(J.go i H/\∃N:St->Hp->Prop,(∀σ' H',N σ' H'->∃m',m'<m/\W (i+1) m' σ' H')/\∀x H',J.Sy i H x H'->g x σ H' λσ2 H2=>tb {D with nx:=N,ct:=N,bk:=D.nx} σ2 H2)
def Af(fp:List aj)(h:Heap):List (aj×Obj):=fp.filterMap λb=>(h.get? b).map λo=>(b,o)
theorem qv{fp:List aj}{h:Heap}{b:aj}{o:Obj}(hb:b∈fp)(e:h.get? b=some o):(b,o)∈Af fp h:=kY.mpr ⟨b,hb,by rw[e];rfl⟩
theorem Nb{fp:List aj}{h:Heap}{p:aj×Obj}(hp:p∈Af fp h):p.1∈fp/\h.get? p.1=some p.2:=by
 obtain⟨b,hb,e⟩:=kY.mp hp;cases q:h.get? b with
 |none=>rw[q] at e;cases e
 |some o=>
  rw[q] at e
  have e':(b,o)=p:=bR e;subst e';exact⟨hb,q⟩
theorem Inv.pinned{pins:List (aj×Obj)}{σ:St}{H:Hp}{s:ah}{fp:List aj}(I:Inv X pins σ H s)(hf:∀b∈fp,A8 X pins H b)(ho:∀b∈fp,∃o,s.heap.get? b=some o/\∀v,o.data≠.cell v):Inv X (pins++Af fp s.heap) σ H s:=
 I.iF λp hp=>(a8.mp hp).elim (λz=>I.pin p (aw _ z)) λz=>by
  obtain⟨hb,e⟩:=Nb z;obtain⟨f0,f1,f2,_⟩:=hf p.1 hb;obtain⟨o,e',d⟩:=ho p.1 hb;rw[e] at e';cases e'
  exact⟨e,f0,f1,f2,d⟩
theorem Inv.rG{pins pl:List (aj×Obj)}{σ:St}{H:Hp}{s:ah}(I:Inv X (pins++pl) σ H s):Inv X pins σ H s:=I.iF λp hp=>I.pin p (aw _ (cN _ hp))
theorem lj{iter:Expr}{body:List Stmt}{wi:TI}{g:TG}{tb:TS}{pos:Pos}(hp:PassesOwn (model X.prog X.w) X.A X.env X.xe)(hc:X.calm=true)(hi:PI X tg iter wi)(hg:PG X tg g)(hb:Fz X body tb)
  (hs:∀x,foldedSetIterable iter X.env x=pure x:=by intro _;rfl):PS X (.For tg iter body [] pos) (Zcf wi g tb):=by
 intro pins s σ H D I h;refine wpAny_For (eZ (hi pins s σ H _ I h) λv s1 h1=>eZ h1 λitv s2 h2=> ?_) hs;obtain⟨it,fp,tn,J,H2,e,I2,T,F2,f2,W,⟨m0,w0⟩,turn⟩:=h2;subst e;have WB:∀{H':Hp},(∀b∈fp,H' b=none)->∀b∈fp,A8 X pins H' b:=λhn b hb=>⟨hn b hb,(f2 b hb).2⟩
 refine codeAny_forLoop_any (λn s'=>∃i σ' H',Inv X pins σ' H' s'/\tn i s'.heap/\(∀b∈fp,H' b=none)/\W i n σ' H') ?_ m0 ⟨0,σ,H2,I2,F2,λb hb=>(f2 b hb).1,w0⟩;rintro n s3 ⟨i,σ3,H3,I3,Ou,fr3,w3⟩;rcases turn i n σ3 H3 w3 with ⟨stop,qn⟩|⟨go,N,hN,step⟩
 ·refine jI hp (eZ (T.done X U U U hc i pins s3 σ3 H3 X.xe I3 (WB fr3) Ou stop) λr s4 ⟨hr,I4⟩=> ?_);subst hr;exact iJ ⟨σ3,H3,I4,qn⟩
 ·refine jI hp (eZ (T.item X U U U hc i pins s3 σ3 H3 X.xe I3 (WB fr3) Ou go) λr s4 ⟨u,hr,h4⟩=> ?_);subst hr;refine jI hp (eZ h4 λ_ s5 ⟨x,H5,I5,r5,y5,YQ,Yj⟩=> ?_);have I5':=I5.pinned (WB Yj) (T.obj _ _ YQ);refine jI hp (eZ (hg _ s5 σ3 H5 x u _ I5' r5 (step x H5 y5)) λ_ s6 ⟨σ6,H6,I6,q6⟩=> ?_);refine jI hp (eZ (hb _ s6 σ6 H6 _ I6 q6) λf s7 q7=> ?_);have again:∀{σ7:St} {H7:Hp},Inv X (pins++Af fp s5.heap) σ7 H7 s7->N σ7 H7->∃m,m<n/\∃i σ' H',Inv X pins σ' H' s7/\tn i s7.heap/\(∀b∈fp,H' b=none)/\W i m σ' H':=λ{σ7 H7} I7 n7=>by
   obtain⟨m',hm,w7⟩:=hN σ7 H7 n7;refine⟨m',hm,i+1,σ7,H7,I7.rG,T.keep _ _ _ YQ λb hb o e=>(I7.pin (b,o) (aw _ (aw _ (qv hb e)))).1,λb hb=> ?_,w7⟩;obtain⟨o,e,d⟩:=T.obj _ _ YQ b hb;exact(I7.pin (b,o) (aw _ (aw _ (qv hb e)))).2.1
  cases f with
  |next=>obtain⟨σ7,H7,I7,n7⟩:=q7;exact again I7 n7
  |cont=>obtain⟨σ7,H7,I7,n7⟩:=q7;exact again I7 n7
  |brk=>obtain⟨σ7,H7,I7,q7⟩:=q7;exact⟨σ7,H7,I7.rG,q7⟩
  |ret v=>obtain⟨x7,σ7,H7,I7,r7,q7⟩:=q7;exact⟨x7,σ7,H7,I7.rG,r7,q7⟩
end
theorem sA{K:au}{a:aj}{xs:List V}{g:TG}{tb:TS}{D:Ends}{σ:St}{H:Hp}(Pv:Nat->St->Hp->Prop)(h0:Pv 0 σ H)(hl:∀i σ H,i<=xs.length->Pv i σ H->cK K H a xs)
  (hs:∀i x σ H,xs[i]? =some x->Pv i σ H->g x σ H λσ2 H2=>tb {D with nx:=Pv (i+1),ct:=Pv (i+1),bk:=D.nx} σ2 H2)(hd:∀σ H,Pv xs.length σ H->D.nx σ H):
  ∃W:Nat->Nat->St->Hp->Prop,(∃m,W 0 m σ H)/\∀i m σ H,W i m σ H->
   ((Yz K a).stop i H/\D.nx σ H)\/((Yz K a).go i H/\∃N:St->Hp->Prop,(∀σ' H',N σ' H'->∃m',m'<m/\W (i+1) m' σ' H')/\∀x H',(Yz K a).Sy i H x H'->g x σ H' λσ2 H2=>tb {D with nx:=N,ct:=N,bk:=D.nx} σ2 H2):=by
 refine⟨λi m σ H=>m=xs.length-i/\i<=xs.length/\Pv i σ H,⟨xs.length,by simp,bz _,h0⟩, ?_⟩;rintro i m σ H ⟨rfl,hi,p⟩;have q:=hl i σ H hi p
 by_cases nK:i<xs.length
 ·refine .inr ⟨⟨xs,xs[i],q,by simp[nK]⟩,Pv (i+1),λσ' H' p'=>⟨xs.length-(i+1),by omega,rfl,nK,p'⟩,λx H' y=> ?_⟩;obtain⟨e,y⟩:=y;subst e;exact hs i x σ _ (y xs q) p
 ·have e:i=xs.length:=by omega
  subst e;exact .inl ⟨⟨xs,q,aE _⟩,hd σ H p⟩
theorem C0{lo:Int}{n:Nat}{g:TG}{tb:TS}{D:Ends}{σ:St}{H:Hp}(Pv:Nat->St->Hp->Prop)(h0:Pv 0 σ H)
  (hs:∀i σ H,i<n->Pv i σ H->g (.int (lo+i)) σ H λσ2 H2=>tb {D with nx:=Pv (i+1),ct:=Pv (i+1),bk:=D.nx} σ2 H2)(hd:∀σ H,Pv n σ H->D.nx σ H):
  ∃W:Nat->Nat->St->Hp->Prop,(∃m,W 0 m σ H)/\∀i m σ H,W i m σ H->
   ((Zn lo n).stop i H/\D.nx σ H)\/((Zn lo n).go i H/\∃N:St->Hp->Prop,(∀σ' H',N σ' H'->∃m',m'<m/\W (i+1) m' σ' H')/\∀x H',(Zn lo n).Sy i H x H'->g x σ H' λσ2 H2=>tb {D with nx:=N,ct:=N,bk:=D.nx} σ2 H2):=by
 refine⟨λi m σ H=>m=n-i/\i<=n/\Pv i σ H,⟨n,by simp,bz _,h0⟩, ?_⟩;rintro i m σ H ⟨rfl,hi,p⟩
 by_cases nK:i<n
 ·refine .inr ⟨nK,Pv (i+1),λσ' H' p'=>⟨n-(i+1),by omega,rfl,nK,p'⟩,λx H' y=> ?_⟩;obtain⟨e,y⟩:=y;subst e y;exact hs i σ _ nK p
 ·have e:i=n:=by omega
  subst e;exact .inl ⟨aE _,hd σ H p⟩
abbrev R2:=V->V->Hp->VK->Prop
def vp(X:Cx)(f:af->af->Sem af)(r:R2):Prop:=
 ∀(pins:List (aj×Obj)) (s:ah) (σ:St) (H:Hp) (x y:V) (v u:af) (Q:VK),Inv X pins σ H s->RelV x v->RelV y u->r x y H Q->
  wpAny (model X.prog X.w) X.A (f v u) (EP X pins σ Q) X.xe s
def UnR(X:Cx)(f:af->Sem af)(r:V->Hp->VK->Prop):Prop:=
 ∀(pins:List (aj×Obj)) (s:ah) (σ:St) (H:Hp) (x:V) (v:af) (Q:VK),Inv X pins σ H s->RelV x v->r x H Q->
  wpAny (model X.prog X.w) X.A (f v) (EP X pins σ Q) X.xe s
def iH(X:Cx)(f:af)(r:List V->Hp->VK->Prop):Prop:=
 ∀(pins:List (aj×Obj)) (s:ah) (σ:St) (H:Hp) (xs:List V) (us:List af) (Q:VK),Inv X pins σ H s->Vals xs us->r xs H Q->
  wpAny (model X.prog X.w) X.A (call f us) (EP X pins σ Q) X.xe s
def OY(r:R2)(ta tb:TE):TE:=λσ H Q=>ta σ H λx H1=>tb σ H1 λy H2=>r x y H2 Q
def tUn(r:V->Hp->VK->Prop)(ta:TE):TE:=λσ H Q=>ta σ H λx H1=>r x H1 Q
def rI(C:Int->Int->Prop)(g:Int->Int->V):R2:=λx y H Q=>∃i j,x=.int i/\y=.int j/\C i j/\Q (g i j) H
def Ti(g:Int->Int->V):R2:=λx y H Q=>∃i j,x=.int i/\y=.int j/\Q (g i j) H
def rU(g:Int->V):V->Hp->VK->Prop:=λx H Q=>∃i,x=.int i/\Q (g i) H
section
variable {X:Cx} {a b c:Expr} {ta tb tc:TE} {pos:Pos}
theorem Yv(ha:PE X a ta)(hb:PE X b tb){pins:List (aj×Obj)}{s:ah}{σ:St}{H:Hp}{R:V->V->Hp->Prop}(I:Inv X pins σ H s)
  (h:ta σ H λx H1=>tb σ H1 λy H2=>R x y H2){Q:af->ah->Prop}{f:af->af->Sem af}
  (hf:∀v u s2 x y H2,Inv X pins σ H2 s2->RelV x v->RelV y u->R x y H2->wpAny (model X.prog X.w) X.A (f v u) Q X.xe s2):
  wpAny (model X.prog X.w) X.A (eval a X.env) (λv s₁=>wpAny (model X.prog X.w) X.A (eval b X.env) (λu s₂=>wpAny (model X.prog X.w) X.A (f v u) Q X.xe s₂) X.xe s₁) X.xe s:=by
 refine eZ (ha pins s σ H _ I h) λv s1 ⟨x,H1,I1,r1,q1⟩=> ?_;refine eZ (hb pins s1 σ H1 _ I1 q1) λu s2 ⟨y,H2,I2,r2,q2⟩=> ?_;exact hf v u s2 x y H2 I2 r1 r2 q2
theorem bV{op:Operator}{r:R2}(ho:vp X (binaryOp op) r)(ha:PE X a ta)(hb:PE X b tb):PE X (.BinOp a op b pos) (OY r ta tb):=by
 intro pins s σ H Q I h;exact wpAny_BinOp (Yv ha hb I h λv u s2 x y H2 I2 rx ry q=>ho pins s2 σ H2 x y v u Q I2 rx ry q)
theorem Vt{op:UnaryOp}{r:V->Hp->VK->Prop}(ho:UnR X (unaryOp op) r)(ha:PE X a ta):PE X (.UnaryOp op a pos) (tUn r ta):=by
 intro pins s σ H Q I h;exact UnaryOp_ (eZ (ha pins s σ H _ I h) λv s1 ⟨x,H1,I1,r1,q1⟩=>ho pins s1 σ H1 x v Q I1 r1 q1)
theorem opI{f:af->af->Sem af}{C:Int->Int->Prop}{g:Int->Int->Int}
  (rule:∀(i j:Int) (t u:Tok) (s:ah) (Q:af->ah->Prop) (E:af->ah->Prop),C i j->Q (.int (g i j) s.toks) {s with toks:=s.toks+1}->wpAny (model X.prog X.w) X.A (f (.int i t) (.int j u)) Q E s):
  vp X f (rI C λi j=> .int (g i j)):=by
 intro pins s σ H x y v u Q I rx ry h;obtain⟨i,j,rfl,rfl,hc,q⟩:=h;obtain⟨t,rfl⟩:=rx;obtain⟨t',rfl⟩:=ry;exact rule i j t t' s _ _ hc ⟨.int (g i j),H,I.tok _,⟨_,U⟩,q⟩
theorem Zal{f:af->af->Sem af}{g:Int->Int->Int}
  (rule:∀(i j:Int) (t u:Tok) (s:ah) (Q:af->ah->Prop) (E:af->ah->Prop),Q (.int (g i j) s.toks) {s with toks:=s.toks+1}->wpAny (model X.prog X.w) X.A (f (.int i t) (.int j u)) Q E s):
  vp X f (Ti λi j=> .int (g i j)):=by
 intro pins s σ H x y v u Q I rx ry h;obtain⟨i,j,rfl,rfl,q⟩:=h;obtain⟨t,rfl⟩:=rx;obtain⟨t',rfl⟩:=ry;exact rule i j t t' s _ _ ⟨.int (g i j),H,I.tok _,⟨_,U⟩,q⟩
theorem Xb{f:af->af->Sem af}{g:Int->Int->Bool}
  (rule:∀(i j:Int) (t u:Tok) (s:ah) (Q:af->ah->Prop) (E:af->ah->Prop),Q (.bool (g i j)) s->wpAny (model X.prog X.w) X.A (f (.int i t) (.int j u)) Q E s):
  vp X f (Ti λi j=> .bl (g i j)):=by
 intro pins s σ H x y v u Q I rx ry h;obtain⟨i,j,rfl,rfl,q⟩:=h;obtain⟨t,rfl⟩:=rx;obtain⟨t',rfl⟩:=ry;exact rule i j t t' s _ _ ⟨.bl (g i j),H,I,U,q⟩
def Zd3(i j:Int):Prop:=0<j/\j<1073741824
theorem lq:vp X (binaryOp .Add) (Ti λi j=> .int (i+j)):=Zal λ_ _ _ _ _ _ _ q=>add_int q
theorem Ea:vp X (binaryOp .Sub) (Ti λi j=> .int (i-j)):=Zal λ_ _ _ _ _ _ _ q=>sub_int q
theorem iG:vp X (binaryOp .FloorDiv) (rI Zd3 λi j=> .int (i/j)):=opI λi j _ _ _ _ _ hc q=>by
 have h1:(0:Int)<j:=hc.1;have h2:j<1073741824:=hc.2;exact floordiv_int (by omega) (by rw[Int.fdiv_eq_ediv_of_nonneg i (by omega)];exact q) (.inl (PyProof.noPylong_small (by omega)))
theorem fh:vp X (binaryOp .Mod) (rI (λ_ j=>0<j) λi j=> .int (i%j)):=opI λi j _ _ _ _ _ hc q=>by
 have h1:(0:Int)<j:=hc;exact mod_int' (by omega) (by rw[Int.fmod_eq_emod_of_nonneg i (by omega)];exact q)
theorem unI{f:af->Sem af}{g:Int->Int}
  (rule:∀(i:Int) (t:Tok) (s:ah) (Q:af->ah->Prop) (E:af->ah->Prop),Q (.int (g i) s.toks) {s with toks:=s.toks+1}->wpAny (model X.prog X.w) X.A (f (.int i t)) Q E s):
  UnR X f (rU λi=> .int (g i)):=by
 intro pins s σ H x v Q I rx h;obtain⟨i,rfl,q⟩:=h;obtain⟨t,rfl⟩:=rx;exact rule i t s _ _ ⟨.int (g i),H,I.tok _,⟨_,U⟩,q⟩
theorem OP:UnR X (unaryOp .USub) (rU λi=> .int (-i)):=unI λ_ _ _ _ _ q=>neg_int q
end
def Pf:V->V->Bool
 | .fR,.fR=>true| .fR,.int _=>true| .int _,.fR=>true| .fR,.bl _=>true| .bl _,.fR=>true| .fR,.str _=>true| .str _,.fR=>true
 | .int _,.int _=>true| .bl _,.bl _=>true| .str _,.str _=>true| .L_ _,.L_ _=>true
 | .int _,.str _=>true| .str _,.int _=>true| .bl _,.str _=>true| .str _,.bl _=>true
 |_,_=>false
def rEq:R2:=λx y H Q=>Pf x y=true/\Q (.bl (decide (x=y))) H
def rNe:R2:=λx y H Q=>Pf x y=true/\Q (.bl (!decide (x=y))) H
theorem L4{i j:Int}:decide (V.int i=V.int j)=(i==j):=by
 rw[jl];simp
theorem Rv{i j:Bool}:decide (V.bl i=V.bl j)=(i==j):=by
 rw[jl];simp
theorem LZ{i j:Str}:decide (V.str i=V.str j)=(i==j):=by
 rw[jl];simp
theorem L5{i j:Array UInt8}:decide (V.L_ i=V.L_ j)=(i.toList==j.toList):=by
 rw[jl];cases i;cases j;simp
section
variable {X:Cx} {a b c:Expr} {ta tb tc:TE} {pos:Pos}
theorem eE{pins:List (aj×Obj)}{σ:St}{H:Hp}{s:ah}{Q:VK}{k k':Bool}(I:Inv X pins σ H s)(q:Q (.bl k) H)(e:k=k'):EP X pins σ Q (.bool k') s:=by
 subst e;exact⟨.bl k,H,I,U,q⟩
theorem gb:vp X (compareOp .Eq) rEq:=by
 intro pins s σ H x y v u Q I rx ry h;obtain⟨hs,q⟩:=h;cases x with
 |fR=>
  cases rx;cases y with
  |fR=>cases ry;exact PySem.EqNone.eq_none_none (eE I q (by simp))
  |bl j=>cases ry;exact PySem.EqNone.eq_none_bool (eE I q (by simp))
  |int j=>obtain⟨t',rfl⟩:=ry;exact PySem.EqNone.eq_none_int (eE I q (by simp))
  |str j=>obtain⟨t',rfl⟩:=ry;exact PySem.EqNone.eq_none_str (eE I q (by simp))
  |_=>exact absurd (show false=true from hs) bj
 |bl i=>
  cases rx;cases y with
  |fR=>cases ry;exact PySem.EqNone.eq_bool_none (eE I q (by simp))
  |bl j=>cases ry;exact eq_bool (eE I q Rv)
  |str j=>obtain⟨t',rfl⟩:=ry;exact PySem.EqMixed.eq_bool_str (eE I q (by simp))
  |_=>exact absurd (show false=true from hs) bj
 |int i=>
  obtain⟨t,rfl⟩:=rx;cases y with
  |fR=>cases ry;exact PySem.EqNone.eq_int_none (eE I q (by simp))
  |int j=>obtain⟨t',rfl⟩:=ry;exact eq_int (eE I q L4)
  |str j=>obtain⟨t',rfl⟩:=ry;exact PySem.EqMixed.eq_int_str (eE I q (by simp))
  |_=>exact absurd (show false=true from hs) bj
 |str i=>
  obtain⟨t,rfl⟩:=rx;cases y with
  |fR=>cases ry;exact PySem.EqNone.eq_str_none (eE I q (by simp))
  |bl j=>cases ry;exact PySem.EqMixed.eq_str_bool (eE I q (by simp))
  |int j=>obtain⟨t',rfl⟩:=ry;exact PySem.EqMixed.eq_str_int (eE I q (by simp))
  |str j=>obtain⟨t',rfl⟩:=ry;exact eq_str (eE I q LZ)
  |_=>exact absurd (show false=true from hs) bj
 |L_ i=>
  obtain⟨t,rfl⟩:=rx;cases y with
  |L_ j=>obtain⟨t',rfl⟩:=ry;exact PySem.W.eq_bytes (eE I q L5)
  |_=>exact absurd (show false=true from hs) bj
 |_=>cases y<;>exact absurd (show false=true from hs) bj
theorem wg:vp X (compareOp .NotEq) rNe:=by
 intro pins s σ H x y v u Q I rx ry h;obtain⟨hs,q⟩:=h;cases x with
 |fR=>
  cases rx;cases y with
  |fR=>cases ry;exact PySem.EqNone.ne_none_none (eE I q (by simp))
  |bl j=>cases ry;exact PySem.EqNone.ne_none_bool (eE I q (by simp))
  |int j=>obtain⟨t',rfl⟩:=ry;exact PySem.EqNone.ne_none_int (eE I q (by simp))
  |str j=>obtain⟨t',rfl⟩:=ry;exact PySem.EqNone.ne_none_str (eE I q (by simp))
  |_=>exact absurd (show false=true from hs) bj
 |bl i=>
  cases rx;cases y with
  |fR=>cases ry;exact PySem.EqNone.ne_bool_none (eE I q (by simp))
  |bl j=>cases ry;exact ne_bool (eE I q (dc not Rv))
  |str j=>obtain⟨t',rfl⟩:=ry;exact PySem.EqMixed.ne_bool_str (eE I q (by simp))
  |_=>exact absurd (show false=true from hs) bj
 |int i=>
  obtain⟨t,rfl⟩:=rx;cases y with
  |fR=>cases ry;exact PySem.EqNone.ne_int_none (eE I q (by simp))
  |int j=>obtain⟨t',rfl⟩:=ry;exact ne_int (eE I q (dc not L4))
  |str j=>obtain⟨t',rfl⟩:=ry;exact PySem.EqMixed.ne_int_str (eE I q (by simp))
  |_=>exact absurd (show false=true from hs) bj
 |str i=>
  obtain⟨t,rfl⟩:=rx;cases y with
  |fR=>cases ry;exact PySem.EqNone.ne_str_none (eE I q (by simp))
  |bl j=>cases ry;exact PySem.EqMixed.ne_str_bool (eE I q (by simp))
  |int j=>obtain⟨t',rfl⟩:=ry;exact PySem.EqMixed.ne_str_int (eE I q (by simp))
  |str j=>obtain⟨t',rfl⟩:=ry;exact ne_str (eE I q (dc not LZ))
  |_=>exact absurd (show false=true from hs) bj
 |L_ i=>
  obtain⟨t,rfl⟩:=rx;cases y with
  |L_ j=>obtain⟨t',rfl⟩:=ry;exact PySem.W.ne_bytes (eE I q (dc not L5))
  |_=>exact absurd (show false=true from hs) bj
 |_=>cases y<;>exact absurd (show false=true from hs) bj
theorem CB:vp X (compareOp .Lt) (Ti λi j=> .bl (decide (i<j))):=Xb λ_ _ _ _ _ _ _ q=>lt_int q
theorem Zak:vp X (compareOp .LtE) (Ti λi j=> .bl (decide (i<=j))):=Xb λ_ _ _ _ _ _ _ q=>le_int q
theorem qZ:vp X (compareOp .Gt) (Ti λi j=> .bl (decide (j<i))):=Xb λ_ _ _ _ _ _ _ q=>gt_int q
theorem MY:vp X (compareOp .In) (λx y H Q=>∃i j,x=.str i/\y=.str j/\Q (.bl (!(Builtin.Str.occurrences j i 0 j.length 1).isEmpty)) H):=by
 intro pins s σ H x y v u Q I rx ry h;obtain⟨i,j,rfl,rfl,q⟩:=h;obtain⟨t,rfl⟩:=rx;obtain⟨t',rfl⟩:=ry;exact in_str (eE I q U)
theorem xF:vp X (compareOp .Is) (λx y H Q=>y=.fR/\Q (.bl (decide (x=.fR))) H):=by
 intro pins s σ H x y v u Q I rx ry h;obtain⟨rfl,q⟩:=h;cases ry;refine is_none_gen (eE I q ?_);cases x<;>first
  |(cases rx;rfl)
  |(obtain⟨t,rfl⟩:=rx;rfl)
theorem we:vp X (compareOp .IsNot) (λx y H Q=>y=.fR/\Q (.bl (!decide (x=.fR))) H):=by
 intro pins s σ H x y v u Q I rx ry h;obtain⟨rfl,q⟩:=h;cases ry;refine isnot_none_gen (eE I q ?_);cases x<;>first
  |(cases rx;rfl)
  |(obtain⟨t,rfl⟩:=rx;rfl)
theorem cf(b:Expr){op:CmpOp}(h:op≠.In:=by decide)(h2:op≠.NotIn:=by decide):behindInMarks op b=false:=by
 have e1:(op==CmpOp.In)=false:=by cases op<;>first|rfl|exact absurd U h
 have e2:(op==CmpOp.NotIn)=false:=by cases op<;>first|rfl|exact absurd U h2
 cases b<;>simp[behindInMarks,e1,e2]
theorem qm{op:CmpOp}{r:R2}(ho:vp X (compareOp op) r)(ha:PE X a ta)(hb:PE X b tb)(hm:behindInMarks op b=false):PE X (.Compare a [op] [b] pos) (OY r ta tb):=by
 intro pins s σ H Q I h;exact wpAny_Compare1 (Yv ha hb I h λv u s2 x y H2 I2 rx ry q=>ho pins s2 σ H2 x y v u Q I2 rx ry q) hm
def Vl(t:TE):TT:=λσ H Q=>t σ H λx H'=>∃k,x=.bl k/\Q k H'
theorem bQ{op:CmpOp}{r:R2}(ho:vp X (compareOp op) r)(ha:PE X a ta)(hb:PE X b tb)(hm:behindInMarks op b=false):PT X (.Compare a [op] [b] pos) (Vl (OY r ta tb)):=by
 intro pins s σ H Q I h;refine wpAny_isTrue_Compare1 (eZ (ha pins s σ H _ I h) λv s1 ⟨x,H1,I1,r1,q1⟩=>eZ (hb pins s1 σ H1 _ I1 q1) λu s2 ⟨y,H2,I2,r2,q2⟩=>
  eZ (ho pins s2 σ H2 x y v u _ I2 r1 r2 q2) λc s3 ⟨z,H3,I3,r3,k,e,q3⟩=> ?_) hm
 subst e;cases r3;exact dX ⟨H3,I3,q3⟩
theorem EA:(sizeLine:Nat)<2^63:=by rw[cJ];decide
theorem bZ:vp X (binaryOp .Add) (λx y H Q=>∃i j,x=.str i/\y=.str j/\i.length+j.length<=sizeLine/\Q (.str (i++j)) H):=by
 intro pins s σ H x y v u Q I rx ry h;obtain⟨i,j,rfl,rfl,hz,q⟩:=h;obtain⟨t,rfl⟩:=rx;obtain⟨t',rfl⟩:=ry;exact add_str (λt' tk=>⟨.str (i++j),H,I.tok _,⟨_,U⟩,q⟩) hz
theorem vals1{x:V}{us:List af}(r:Vals [x] us):∃u,us=[u]/\RelV x u:=by
 cases r with
 |cons r1 r2=>cases r2;exact⟨_,U,r1⟩
theorem vals2{x y:V}{us:List af}(r:Vals [x,y] us):∃u w',us=[u,w']/\RelV x u/\RelV y w':=by
 cases r with
 |cons r1 r2=>
  cases r2 with
  |cons r3 r4=>cases r4;exact⟨_,_,U,r1,r3⟩
theorem Iv:iH X (.builtin "abs") (λxs H Q=>∃i,xs=[.int i]/\Q (.int (if i<0 then-i else i)) H):=by
 intro pins s σ H xs us Q I r h;obtain⟨i,rfl,q⟩:=h;obtain⟨u,rfl,t,rfl⟩:=vals1 r;exact call_abs_int λu tk=>⟨.int (if i<0 then-i else i),H,I.tok _,⟨_,U⟩,q⟩
theorem Dc(hc:X.calm=true):iH X (.builtin "max") (λxs H Q=>∃i j,xs=[.int i,.int j]/\Q (.int (if j>i then j else i)) H):=by
 intro pins s σ H xs us Q I r h;obtain⟨i,j,rfl,q⟩:=h;obtain⟨u,w',rfl,⟨t,rfl⟩,⟨t',rfl⟩⟩:=vals2 r;refine max_two_ints (I.ok.hd hc) λh' tk k=>⟨_,H,I.kept k, ?_,q⟩
 by_cases hj:j>i
 ·rw[bg hj,bg hj];exact⟨_,U⟩
 ·rw[aX hj,aX hj];exact⟨_,U⟩
theorem Od(hc:X.calm=true):iH X (.builtin "min") (λxs H Q=>∃i j,xs=[.int i,.int j]/\Q (.int (if j<i then j else i)) H):=by
 intro pins s σ H xs us Q I r h;obtain⟨i,j,rfl,q⟩:=h;obtain⟨u,w',rfl,⟨t,rfl⟩,⟨t',rfl⟩⟩:=vals2 r;refine min_two_ints (I.ok.hd hc) λh' tk k=>⟨_,H,I.kept k, ?_,q⟩
 by_cases hj:j<i
 ·rw[bg hj,bg hj];exact⟨_,U⟩
 ·rw[aX hj,aX hj];exact⟨_,U⟩
theorem Fb:iH X (.type "str") (λxs H Q=>∃i,xs=[.int i]/\i.natAbs.log2<1920/\Q (.str (toString i)) H):=by
 intro pins s σ H xs us Q I r h;obtain⟨i,rfl,hz,q⟩:=h;obtain⟨u,rfl,t,rfl⟩:=vals1 r;exact PySem.P.str_of_int hz ⟨.str _,H,I.tok _,⟨_,U⟩,q⟩
def ZdX(K:au)(x:V)(H:Hp)(n:Nat):Prop:=
 match x with
 | .str y=>y.length<=sizeLine/\n=y.length
 | .L_ y=>y.size<=sizeLine/\n=y.size
 | .ref p=>(∃xs,cK K H p xs/\n=xs.length)\/∃xs,jU K H p xs/\n=xs.length
 |_=>False
theorem fz:iH X (.builtin "len") (λxs H Q=>∃x n,xs=[x]/\ZdX X.K x H n/\Q (.int n) H):=by
 intro pins s σ H xs us Q I r h;obtain⟨x,n,rfl,e,q⟩:=h;obtain⟨u,rfl,rx⟩:=vals1 r;have hl:=EA;have hs:sizeLine=16777216:=cJ;cases x with
 |str y=>
  obtain⟨t,rfl⟩:=rx;obtain⟨hy,e'⟩:y.length<=sizeLine/\n=y.length:=e;subst e';exact len_str (by omega) ⟨.int _,H,I.tok _,⟨_,U⟩,q⟩
 |L_ y=>
  obtain⟨t,rfl⟩:=rx;obtain⟨hy,e'⟩:y.size<=sizeLine/\n=y.size:=e;subst e';exact PySem.W.len_bytes (by omega) ⟨.int _,H,I.tok _,⟨_,U⟩,q⟩
 |ref p=>
  cases rx;have e':(∃xs,cK X.K H p xs/\n=xs.length)\/∃xs,jU X.K H p xs/\n=xs.length:=e;rcases e' with ⟨xs,hx,e'⟩|⟨xs,hx,e'⟩
  ·subst e';obtain⟨its,r',pl,hz⟩:=I.list hx;have hlen:=r'.length;exact Calls.call_len_list pl.isList (by simp only [aL];omega) ⟨.int xs.length,H,I.tok _,⟨_,by simp only [aL];rw[hlen]⟩,q⟩
  ·subst e';obtain⟨its,r',pl,hz⟩:=I.tuple hx;have hlen:=r'.length;exact len_tuple pl (by simp only [aL];omega) ⟨.int xs.length,H,I.tok _,⟨_,by simp only [aL];rw[hlen]⟩,q⟩
 |_=>exact(show False from e).elim
end
structure KL (h:Heap) (x dx C:aj) (mA:Str->Option af):Prop where
 obj:h.get? x=some (instObj C dx)
 ns:h.Ns1 dx mA
 ne:dx≠x
theorem CI{h:Heap}{dx:aj}{mA:Str->Option af}(n:h.Ns1 dx mA):∃od,h.get? dx=some od/\∀name,PySem.W.lookIn name od=some (mA name):=by
 obtain⟨o,es,ep,ho,hd,hk,_,hm⟩:=n;refine⟨o,ho,λname=> ?_⟩;have e:=hm name;unfold nsFind findBy at e
 rw[<-Array.find?_toList] at e
 unfold PySem.W.lookIn;rw[hd]
 dsimp only
 split
 ·rename_i y q
  rw[q] at e
  exact dc some e
 ·rename_i q
  rw[q] at e
  have a:es.toList.any (·.refKey)=false:=by
   rw[List.any_eq_false];intro y hy;obtain⟨z,t,Zc9⟩:=hk y (Array.mem_toList_iff.mp hy);simp[DictEntry.refKey,Zc9]
  have a':¬es.toList.any (·.refKey)=true:=by rw[a];exact bj
  rw[aX a'];exact dc some e
theorem KL.look{h:Heap}{x dx C:aj}{mA:Str->Option af}(I:KL h x dx C mA):∃od,PySem.W.InstAt h x (instObj C dx) C (some od)/\∀name,PySem.W.lookIn name od=some (mA name):=
 let ⟨od,ho,hl⟩:=CI I.ns
 ⟨od,⟨I.obj,rfl,rfl,ho⟩,hl⟩
section
variable {prog:bo} {w:World} {A:bK} {E:af->ah->Prop} {s:ah} {K:au} {x dx C f:aj} {mA:Str->Option af} {name:Str} {v:af}
theorem get_map{expr:Bool}{Q:af->ah->Prop}(X:K.In s.heap)(I:KL s.heap x dx C mA)(hg:plainGet K C name=true)(hh:PySem.W.hasDictIn K C=true)
  (ha:PySem.W.findIn K (.ref C) name=some none)(hv:mA name=some v)(hv':PySem.W.handedIn v=true)(h:Q v {s with toks:=s.toks+1}):
  wpAny (model prog w) A (getAttr (.ref x) name expr) Q E s:=by
 obtain⟨od,J,hl⟩:=I.look;exact PySem.W.get_value X J (plainGet_of hg).1 (PySem.W.findObj_own hh ha U (by rw[hl,hv])) hv' h
theorem Ra{pl:Sem Bool}{Q:af×List af->ah->Prop}(X:K.In s.heap)(I:KL s.heap x dx C mA)(hg:plainGet K C name=true)
  (hf:PySem.W.findIn K (.ref C) name=some (some (.ref f)))(ht:isFn K (.ref f)=true)(hv:mA name=none)(h:Q (.ref f,[.ref x]) s):
  wpAny (model prog w) A (getMethod (.ref x) name pl) Q E s:=by
 obtain⟨od,J,hl⟩:=I.look;exact PySem.W.method_fn X J (plainGet_of hg).1 (plainGet_of hg).2 hf (g6.mp ht) (by show(PySem.W.lookIn name od).map (·.isSome)=some false;rw[hl,hv];rfl) h
theorem SS{ns:List Str}{Q:Unit->ah->Prop}(X:K.In s.heap)(I:KL s.heap x dx C mA)
  (hs:PySem.W.findIn K (.ref C) "__setattr__"=some (some (.builtin "object.__setattr__")))(hp:plainOver K C=true)(ht:takerIn K C name=some none)(hh:PySem.W.hasDictIn K C=true)
  (hw:PySem.Within mA ns)(hsz:ns.length<=sizeLine)
  (h:∀h',KL h' x dx C (λy=>if y=name then some v else mA y)->Heap.SameBut dx s.heap h'->Q () {s with heap:=h',toks:=s.toks+2}):
  wpAny (model prog w) A (setAttr (.ref x) name v) Q E s:=by
 obtain⟨od,J,hl⟩:=I.look;refine PySem.W.set_plain X J hs (PySem.W.osa_open (s:={s with toks:=s.toks+1}) (r:=none) X J hp ht λb=> ?_);obtain⟨cd,hc,Ye⟩:=PySem.W.any_some hh;have hx:s.heap.get? x=some ⟨.ref C,some dx,.plain, #[]⟩:=I.obj;refine aa (aq (aa (aa (wpAny_loadPart hx (aa (PySem.W.Looks.here (s:={s with toks:=s.toks+1}) (PySem.W.looks_clsIn X hc) ?_))))));rw[Ye];refine aq (a:=some dx) (aa (aq (aa ?_)))
 refine wpAny_nsSet1 (s:={s with toks:=s.toks+1}) I.ns λh' hn2 X0=> ?_;obtain⟨oD,esD,epD,hoD,hdD,hcD⟩:=hn2.count (PySem.Within.cons name v hw);refine aa (wpAny_lookBehind hoD (by rw[hdD];exact pastItsLine_dict (bD hcD (by rw[aZ];omega))) ?_)
 exact aq (h _ ⟨(X0.2 _ (cY I.ne)).trans I.obj,hn2,I.ne⟩ X0)
theorem Qr{R:Result->ah->Prop}{vs:List af}{kw:List (Str×af)}(X:K.In s.heap)(hm:makesIn K C=true)
  (hi:PySem.W.findIn K (.ref C) "__init__"=some (some (.ref f)))(hf:typeIn K (.ref f)=some (.type "function"))
  (h:codeAny (model prog w) (A.under (.builtin "type.__call__" ⟨.ref C::vs,kw⟩)) (.call (.ref f) ⟨.ref (s.heap.objs.size+1)::vs,kw⟩) (PySem.W.InitBack (s.heap.objs.size+1) R)
   {s with heap:=(s.heap.push emptyDict).push (instObj C s.heap.objs.size)}):
  codeAny (model prog w) A (.call (.ref C) ⟨vs,kw⟩) R s:=by
 obtain⟨hh,g,d,t,os⟩:=s;exact PySem.W.make_core (PySem.W.makes_of X hm) (PySem.W.looks_findIn X hi) (λself=>PySem.W.bind_fn X self hf) (.inl U) h
end
def pw(f:Str)(v:V):List (Str×V)->List (Str×V)
 |[]=>[(f,v)]
 |(g,x)::r=>if g=f then(g,v)::r else(g,x)::pw f v r
theorem fm(f g:Str)(v:V):∀fs:List (Str×V),(pw f v fs).lookup g=if g=f then some v else fs.lookup g
 |[]=>by
  show List.lookup g [(f,v)]=_
  by_cases h:g=f
  ·have hb:(g==f)=true:=g6.mpr h;simp only [List.lookup,hb,bg h]
  ·have hb:(g==f)=false:=fQ.mpr h;simp only [List.lookup,hb,aX h]
 |(k,x)::r=>by
  have ih:=fm f g v r;rw[show pw f v ((k,x)::r)=(if k=f then(k,v)::r else(k,x)::pw f v r) from rfl]
  by_cases hk:k=f
  ·rw[bg hk]
   by_cases h:g=k
   ·have hb:(g==k)=true:=g6.mpr h;simp only [List.lookup,hb,bg (h.trans hk)]
   ·have hb:(g==k)=false:=fQ.mpr h;simp only [List.lookup,hb,aX (λe:g=f=>h (e.trans hk.symm))]
  ·rw[aX hk]
   by_cases h:g=k
   ·have hb:(g==k)=true:=g6.mpr h;simp only [List.lookup,hb,aX (λe:g=f=>hk (h.symm.trans e))]
   ·have hb:(g==k)=false:=fQ.mpr h;simp only [List.lookup,hb];exact ih
theorem xP(f:Str)(v:V):∀fs:List (Str×V),f∈(pw f v fs).map (·.1)/\∀g,g∈fs.map (·.1)->g∈(pw f v fs).map (·.1)
 |[]=>⟨by simp[pw],λg h=>by simp at h⟩
 |(k,x)::r=>by
  obtain⟨i1,i2⟩:=xP f v r;rw[show pw f v ((k,x)::r)=(if k=f then(k,v)::r else(k,x)::pw f v r) from rfl]
  by_cases hk:k=f
  ·rw[bg hk];subst hk;exact⟨by simp,λg h=>by simpa using h⟩
  ·rw[aX hk];refine⟨?_,λg h=> ?_⟩
   ·rw[aT];exact aF _ i1
   ·rw[aT] at h⊢
    rcases aJ.mp h with e|e
    ·exact aJ.mpr (.inl e)
    ·exact aF _ (i2 g e)
theorem yu(f:Str)(v:V):∀fs:List (Str×V),(pw f v fs).length<=fs.length+1
 |[]=>by simp[pw]
 |(k,x)::r=>by
  have ih:=yu f v r;rw[show pw f v ((k,x)::r)=(if k=f then(k,v)::r else(k,x)::pw f v r) from rfl]
  by_cases hk:k=f
  ·rw[bg hk,aZ,aZ];omega
  ·rw[aX hk,aZ,aZ];omega
theorem qK.some_of{v:V}{o:Option af}(r:qK (some v) o):∃u,o=some u/\RelV v u:=by
 cases o with
 |none=>exact(show False from r).elim
 |some u=>exact⟨u,U,r⟩
theorem qK.none_of{o:Option af}(r:qK none o):o=none:=by
 cases o with
 |none=>rfl
 |some u=>exact(show False from r).elim
theorem CW{v:V}{u:af}(r:RelV v u):PySem.W.handedIn u=true:=by
 cases v with
 |fR=>cases(show u=Value.none from r);rfl
 |bl b=>cases(show u=Value.bool b from r);rfl
 |int i=>obtain⟨t,e⟩:=(show∃t,u=Value.int i t from r);cases e;rfl
 |str x=>obtain⟨t,e⟩:=(show∃t,u=Value.str x t from r);cases e;rfl
 |L_ b=>obtain⟨t,e⟩:=(show∃t,u=Value.bytes b t from r);cases e;rfl
 |Yk b=>obtain⟨t,e⟩:=(show∃t,u=Value.float b t from r);cases e;rfl
 |ref a=>cases(show u=Value.ref a from r);rfl
 |ty n=>cases(show u=Value.type n from r);rfl
section
variable {P:bo} {w:World} {H H':Hp} {h h':Heap} {a C dx:aj} {fs fs':List (Str×V)}
theorem zt(dw:sT P w H h)(e:H a=some (.ins C dx fs)):∃mA,KL h a dx C mA/\(∀f,qK (fs.lookup f) (mA f))/\PySem.Within mA (fs.map (·.1))/\fs.length<=1000/\H dx=some (.own a):=by
 obtain⟨d,z,ne,ob,mA,n,r,q⟩:=(show fB P w H h a (.ins C dx fs) from dw a _ e)
 exact⟨mA,⟨ob,n,ne⟩,r,q,z,d⟩
end
structure IM (K:au) (C:aj):Prop where
 pg:plainGet K C Str.empty=true
 hd:PySem.W.hasDictIn K C=true
 po:plainOver K C=true
 sa:PySem.W.findIn K (.ref C) "__setattr__"=some (some (.builtin "object.__setattr__"))
theorem IM.get{K:au}{C:aj}(c:IM K C)(f:Str):plainGet K C f=true:=c.pg
def jd(K:au)(C:aj)(f:Str):Prop:=PySem.W.findIn K (.ref C) f=some none
theorem jd.ZE{K:au}{C:aj}{f:Str}(n:jd K C f):takerIn K C f=some none:=by
 unfold PySem.W.takerIn;rw[show PySem.W.findIn K (.ref C) f=some none from n]
 rfl
structure Meth (K:au) (C:aj) (m:Str) (f:aj):Prop where
 at_:PySem.W.findIn K (.ref C) m=some (some (.ref f))
 fn:isFn K (.ref f)=true
 kp:keepIn K (.ref f)=true
section
variable {X:Cx} {pins:List (aj×Obj)} {σ:St} {H:Hp} {s:ah} {a C dx:aj} {fs:List (Str×V)} {f:Str} {v:V} {A:bK} {E:af->ah->Prop}
theorem Km{b:Bool}{Q:af->ah->Prop}(I:Inv X pins σ H s)(e:H a=some (.ins C dx fs))(c:IM X.K C)(n:jd X.K C f)(l:fs.lookup f=some v)
  (h:∀u s',Inv X pins σ H s'->RelV v u->Q u s'):wpAny (model X.prog X.w) A (getAttr (.ref a) f b) Q E s:=by
 obtain⟨mA,O,r,_,_,_⟩:=zt I.dw e;obtain⟨u,hu,ru⟩:=qK.some_of (v:=v) (o:=mA f) (by rw[<-l];exact r f)
 exact get_map I.q5 O (c.get f) c.hd n hu (CW ru) (h u _ (I.tok _) ru)
theorem Kl{m:Str}{g:aj}{pl:Sem Bool}{Q:af×List af->ah->Prop}(I:Inv X pins σ H s)(e:H a=some (.ins C dx fs))(c:IM X.K C)(k:Meth X.K C m g)(l:fs.lookup m=none)
  (h:Q (.ref g,[.ref a]) s):wpAny (model X.prog X.w) A (getMethod (.ref a) m pl) Q E s:=by
 obtain⟨mA,O,r,_,_,_⟩:=zt I.dw e;have hn:mA m=none:=qK.none_of (by rw[<-l];exact r m)
 exact Ra I.q5 O (c.get m) k.at_ k.fn hn h
theorem Jj{y:V}{u:af}{Q:Unit->ah->Prop}(I:Inv X pins σ H s)(e:H a=some (.ins C dx fs))(c:IM X.K C)(n:jd X.K C f)(hl:fs.length<1000)(ry:RelV y u)
  (h:∀s',Inv X pins σ (upd H a (.ins C dx (pw f y fs))) s'->Q () s'):wpAny (model X.prog X.w) A (setAttr (.ref a) f u) Q E s:=by
 obtain⟨mA,O,r,wi,_,ho⟩:=zt I.dw e;have hz:(fs.map (·.1)).length<=sizeLine:=by rw[ao,cJ];omega
 refine SS I.q5 O c.sa c.po n.ZE c.hd wi hz λh' O' sb=>h _ ?_;have hd:∃o,h'.get? dx=some o:=let ⟨o,_,_,e',_⟩:=O'.ns;⟨o,e'⟩;refine I.write (x:=a) (e:=dx) (by rw[e];exact True.intro) (.inr ho) (λb q hb z=>(sb.2 b hb).trans z) hd ?_
 refine⟨by rw[aY O.ne];exact ho, ?_,O.ne,O'.obj,_,O'.ns,λg=> ?_,λg hg=> ?_⟩
 ·have:=yu f y fs;omega
 ·show qK ((pw f y fs).lookup g) (if g=f then some u else mA g);rw[fm]
  by_cases q:g=f
  ·rw[bg q,bg q];exact ry
  ·rw[aX q,aX q];exact r g
 ·by_cases q:g=f
  ·rw[q];exact(xP f y fs).1
  ·refine(xP f y fs).2 g (wi g λz=>hg ?_);show(if g=f then some u else mA g)=none;rw[aX q];exact z
theorem Inv.made(I:Inv X pins σ H s):Inv X pins σ (upd (upd H s.heap.objs.size (.own (s.heap.objs.size+1))) (s.heap.objs.size+1) (.ins C s.heap.objs.size []))
  {s with heap:=(s.heap.push emptyDict).push (instObj C s.heap.objs.size)}:=by
 have e1:(s.heap.push emptyDict).get? s.heap.objs.size=some emptyDict:=aM s.heap rfl;have e2:((s.heap.push emptyDict).push (instObj C s.heap.objs.size)).get? (s.heap.objs.size+1)=some (instObj C s.heap.objs.size):=by
  have:=aM (s.heap.push emptyDict) (o:=instObj C s.heap.objs.size) rfl
  rwa [vG] at this
 have e3:(s.heap.push emptyDict).Ns s.heap.objs.size (λ_=>none):=⟨emptyDict, #[],_,e1,rfl,(λe he=>absurd he (by simp)),λ_=>rfl⟩
 have I1:=I.laid (a:=s.heap.objs.size) (o:=.own (s.heap.objs.size+1)) (h':=s.heap.push emptyDict) (t':=s.toks) (λb u q=>ai _ q) (aE _) ⟨_,e1⟩;refine I1.laid (a:=s.heap.objs.size+1) (o:=.ins C s.heap.objs.size []) (t':=s.toks) (λb u q=>ai _ q) (FK (vG _ _)) ?_;have ne:s.heap.objs.size≠s.heap.objs.size+1:=bc (eh _);refine⟨by rw[aY ne,ay],bz _,ne,e2,λ_=>none,(OG e3).at λo q=>ai _ q,λ_=>True.intro,λy hy=>absurd rfl hy⟩
theorem Mf{prog:bo}{w:World}{env:Env}{e:Expr}{f:Str}{pos:Pos}{s:ah}{Q:af->ah->Prop}(hb:attributeBase e f env (eval e env)=eval e env)
  (h:wpAny (model prog w) A (eval e env) (λo s₁=>wpAny (model prog w) A (getAttr o f true) Q E s₁) E s):wpAny (model prog w) A (eval (.Attribute e f pos) env) Q E s:=
 Attribute_any_ h (by rw[arm_eval_Attribute,hb])
end
def Zcg(K:au)(ta:TE)(f:Str):TE:=λσ H Q=>ta σ H λx H1=>∃a C dx fs v,x=.ref a/\H1 a=some (.ins C dx fs)/\IM K C/\jd K C f/\fs.lookup f=some v/\Q v H1
def Zcp(K:au)(ta tv:TE)(f:Str):TS:=λD σ H=>tv σ H λy H1=>ta σ H1 λx H2=>∃a C dx fs,x=.ref a/\H2 a=some (.ins C dx fs)/\IM K C/\jd K C f/\fs.length<1000/\
 D.nx σ (upd H2 a (.ins C dx (pw f y fs)))
section
variable {X:Cx} {o e value:Expr} {f:Str} {pos pos' Zb9:Pos} {ta tv:TE}
theorem kh(he:PE X e ta)(hb:attributeBase e f X.env (eval e X.env)=eval e X.env):PE X (.Attribute e f pos) (Zcg X.K ta f):=by
 intro pins s σ H Q I h;refine Mf hb (eZ (he pins s σ H _ I h) λu s1 ⟨x,H1,I1,rx,a,C,dx,fs,v,ex,ea,c,n,l,q⟩=> ?_);subst ex;obtain rfl:u=Value.ref a:=rx;exact Km I1 ea c n l λu' s2 I2 ru=>⟨v,H1,I2,ru,q⟩
theorem D7(ha:PE X o ta)(hv:PE X value tv)(hs:swapsWith value (some (.Attribute o f pos')) pos.line X.env=pure false):PS X (.Assign [.Attribute o f pos'] value pos) (Zcp X.K ta tv f):=by
 intro pins s σ H D I h;refine plainObj_wpAny_Assign_Attribute (eZ (hv pins s σ H _ I h) λu s1 ⟨y,H1,I1,ry,q⟩=>eZ (ha pins s1 σ H1 _ I1 q) λov s2 ⟨x,H2,I2,rx,a,C,dx,fs,ex,ea,c,n,l,q2⟩=> ?_) hs;subst ex;obtain rfl:ov=Value.ref a:=rx;exact Jj I2 ea c n l ry λs3 I3=>⟨σ,_,I3,q2⟩
end
section
variable {X:Cx} {pins:List (aj×Obj)} {σ:St} {H:Hp} {s:ah} {A:bK} {E:af->ah->Prop} {Q:af->ah->Prop} {c:af} {b:Bool}
inductive pL (K:au) (H:Hp):V->af->Prop where
 |fR:pL K H .fR (.type "NoneType")
 |bl (x:Bool):pL K H (.bl x) (.type "bool")
 |int (i:Int):pL K H (.int i) (.type "int")
 |str (x:Str):pL K H (.str x) (.type "str")
 |Yk (x:UInt64):pL K H (.Yk x) (.type "float")
 |lst {a:aj} {xs:List V} (e:H a=some (.lst xs)):pL K H (.ref a) (.type "list")
 |pM {a:aj} {o:Obj} {xs:List V} (e:H a=some (.pM o (.lst xs))):pL K H (.ref a) (.type "list")
 |tup {a:aj} {xs:List V} (e:H a=some (.tup xs)):pL K H (.ref a) (.type "tuple")
 |dK {a:aj} {kvs:List (Key×V)} (e:H a=some (.dK kvs)):pL K H (.ref a) (.type "dict")
 |dT {a:aj} {kvs:List (List Key×V)} (e:H a=some (.dT kvs)):pL K H (.ref a) (.type "dict")
 |ins {a C dx:aj} {fs:List (Str×V)} (e:H a=some (.ins C dx fs)) (cl:IM K C) (ha:PySem.W.findIn K (.ref C) "__class__"=some (some (.builtin "object.__class__")))
   (hn:PySem.W.specialIn K (.builtin "object.__class__") "__get__"=some (some (.builtin "getset_descriptor.__get__"))) (htk:PySem.W.takesIn K (.builtin "object.__class__")=some true)
   (hm:PySem.W.mroIn K C (.type "object")=some true):pL K H (.ref a) (.ref C)
theorem NL{x:V}{u t:af}(I:Inv X pins σ H s)(rx:RelV x u)(ty:pL X.K H x t)(e:PySem.W.kitOne X.K t c=some b)(h:∀tk,Q (.bool b) {s with toks:=tk}):
  wpAny (model X.prog X.w) A (call (.builtin "isinstance") [u,c]) Q E s:=by
 cases ty with
 |fR=>cases(show u=Value.none from rx);exact fj PySem.W.kitx_none I.q5 True.intro e (λz=>nomatch z) h
 |bl y=>cases(show u=Value.bool y from rx);exact fj PySem.W.kitx_bool I.q5 True.intro e (λz=>nomatch z) h
 |int i=>obtain⟨t,q⟩:=(show∃t,u=Value.int i t from rx);cases q;exact fj PySem.W.kitx_int I.q5 True.intro e (λz=>nomatch z) h
 |str y=>obtain⟨t,q⟩:=(show∃t,u=Value.str y t from rx);cases q;exact fj PySem.W.kitx_str I.q5 True.intro e (λz=>nomatch z) h
 |Yk y=>obtain⟨t,q⟩:=(show∃t,u=Value.float y t from rx);cases q;exact fj PySem.W.kitx_float I.q5 True.intro e (λz=>nomatch z) h
 | @lst a xs ea=>
  cases(show u=Value.ref a from rx);obtain⟨_,_,n,_,h1⟩:=(show fB X.prog X.w H s.heap a (.lst xs) from I.dw a _ ea)
  exact fj kitx_list I.q5 ⟨_,h1,U⟩ e (λz=>nomatch z) h
 | @pM a ob xs ea=>
  cases(show u=Value.ref a from rx);obtain⟨_,_,_,n,_,h1⟩:=(show fB X.prog X.w H s.heap a (.pM ob (.lst xs)) from I.dw a _ ea)
  exact fj kitx_list I.q5 ⟨_,h1,U⟩ e (λz=>nomatch z) h
 | @tup a xs ea=>
  cases(show u=Value.ref a from rx);obtain⟨_,_,_,p⟩:=(show fB X.prog X.w H s.heap a (.tup xs) from I.dw a _ ea)
  obtain⟨o,h1,h2,_⟩:=p;exact fj PySem.W.kitx_tuple I.q5 ⟨o,h1,h2⟩ e (λz=>nomatch z) h
 | @dK a kvs ea=>
  cases(show u=Value.ref a from rx);obtain⟨_,_,vs,_,p⟩:=(show fB X.prog X.w H s.heap a (.dK kvs) from I.dw a _ ea)
  obtain⟨o,es,ep,h1,h2,_⟩:=p;exact fj kitx_dict I.q5 ⟨o,h1,h2.1⟩ e (λz=>nomatch z) h
 | @dT a kvs ea=>
  cases(show u=Value.ref a from rx);obtain⟨_,_,xs,_,o,es,ep,h1,h2,_⟩:=(show fB X.prog X.w H s.heap a (.dT kvs) from I.dw a _ ea)
  exact fj kitx_dict I.q5 ⟨o,h1,h2.1⟩ e (λz=>nomatch z) h
 | @ins a C dx fs ea cl ha hn htk hm=>
  cases(show u=Value.ref a from rx);obtain⟨mA,O,_⟩:=zt I.dw ea;obtain⟨od,J,_⟩:=O.look;exact fj (PySem.W.kitx_own (cl.get _) cl.hd ha hn htk hm) I.q5 J e (λz=>nomatch z) h
end
structure gF (k:Nat) (A:bK):Prop where
 hd:A.handled=none
 dp:A.depth+3*k+5<recursionLimit
 un:A.units+16*k+200<cLine
theorem gF.mono{j k:Nat}{A:bK}(r:gF k A)(h:j<=k):gF j A:=⟨r.hd,by have:=r.dp;omega,by have:=r.un;omega⟩
theorem gF.deeper{k:Nat}{A:bK}(r:gF (k+1) A)(env:Env):gF k (A.deeper env):=
 ⟨r.hd,by have:=r.dp;show A.depth+1+3*k+5<_;omega,by have:=r.un;show A.units+3+16*k+200<_;omega⟩
theorem gF.in1{k:Nat}{A:bK}(r:gF (k+1) A):gF k A.in1:=
 ⟨r.hd,by have:=r.dp;show A.depth+3*k+5<_;omega,by have:=r.un;show A.units+1+16*k+200<_;omega⟩
theorem JT{A:bK}{C:aj}{us:List af}{kw:List (Str×af)}:(A.under (.builtin "type.__call__" ⟨.ref C::us,kw⟩)).depth=A.depth+1:=by
 first|rfl|simp[Around.under,Code.weight,Code.isCreation,Code.isGuard,Code.isCaller,Code.frames,Code.isFrame,guardIds]
theorem JS{A:bK}{C:aj}{us:List af}{kw:List (Str×af)}:(A.under (.builtin "type.__call__" ⟨.ref C::us,kw⟩)).units=A.units+1:=by
 first|rfl|simp[Around.under,Code.cUnits,Code.frames,Code.isFrame]
theorem gF.make{k:Nat}{A:bK}(r:gF (k+1) A)(C:aj)(us:List af)(kw:List (Str×af)):gF k (A.under (.builtin "type.__call__" ⟨.ref C::us,kw⟩)):=
 ⟨r.hd,by have:=r.dp;rw[JT];omega,by have:=r.un;rw[JS];omega⟩
theorem gF.depth{k:Nat}{A:bK}(r:gF k A):A.depth<recursionLimit:=by have:=r.dp;omega
theorem gF.units{k:Nat}{A:bK}(r:gF k A):A.units+64<cLine:=by have:=r.un;omega
def SG:TA:=λ_ H Q=>Q [] H
def Vn(ta:TE)(tr:TA):TA:=λσ H Q=>ta σ H λx H1=>tr σ H1 λxs H2=>Q (x::xs) H2
section
variable {X:Cx} {e:Expr} {es:List Expr} {te:TE} {t:TA} {pos:Pos}
theorem aA:PA X [] SG:=λ_ _ _ _ H Q I h=>jS ⟨[],H,I,.nil,h⟩
theorem ag(ha:PE X e te)(hr:PA X es t)(hs:starEach (e::es) X.env=(false,eval e X.env)::starEach es X.env:=by rfl):PA X (e::es) (Vn te t):=by
 intro pos pins s σ H Q I h;rw[hs];show wpAny _ _ (spliced ((false,eval e X.env)::backTo pos (starEach es X.env))) _ _ s;refine gm (eZ (ha pins s σ H _ I h) λu s1 ⟨x,H1,I1,r1,q1⟩=> ?_);exact eZ (hr pos pins s1 σ H1 _ I1 q1) λus s2 ⟨xs,H2,I2,r2,q2⟩=>⟨x::xs,H2,I2,.cons r1 r2,q2⟩
def Zca(t:TA):TE:=λσ H Q=>t σ H λxs H1=>xs.length<=sizeLine/\∀p,H1 p=none->Q (.ref p) (upd H1 p (.tup xs))
def Zcd(t:TA):TE:=λσ H Q=>t σ H λxs H1=>xs.length<=sizeLine/\∀p,H1 p=none->Q (.ref p) (upd H1 p (.lst xs))
theorem ja{x1}(h:PA X es t):PE X (.Tuple es x1 pos) (Zca t):=by
 intro pins s σ H Q I hq;refine wpAny_Tuple_spliced (eZ (h pos pins s σ H _ I hq) λus s1 ⟨xs,H1,I1,r,z,q⟩=>⟨by rw[<-r.length];exact z, ?_⟩)
 have hf:H1 s1.heap.objs.size=none:=I1.dw.fresh (aE _);refine⟨.ref s1.heap.objs.size,upd H1 s1.heap.objs.size (.tup xs),I1.laid (t':=s1.toks) (λb u e=>ai _ e) (aE _) ?_,U,q _ hf⟩;exact⟨z,us,r,⟨_,aM _ U,U,_,U⟩⟩
theorem fC(h:PA X es t):PE X (.List es pos) (Zcd t):=by
 intro pins s σ H Q I hq;refine wpAny_List_spliced (eZ (h pos pins s σ H _ I hq) λus s1 ⟨xs,H1,I1,r,z,q⟩=>⟨by rw[<-r.length];exact z, ?_⟩)
 have hf:H1 s1.heap.objs.size=none:=I1.dw.fresh (aE _);refine⟨.ref s1.heap.objs.size,upd H1 s1.heap.objs.size (.lst xs),I1.laid (t':=s1.toks) (λb u e=>ai _ e) (aE _) ?_,U,q _ hf⟩;exact⟨z,us,0,r,aM _ U⟩
end
abbrev Sp:=List V->Hp->VK->XK->Prop
abbrev Dn:=List Env->Hp->ah->XK->af->ah->Prop
structure Bb (P:bo) (w:World) (K:au) (mg:Str->Option af) (base:Heap) (A:bK) (outer:List Env) (s:ah) (H:Hp):Prop where
 frames:A.frames=some outer
 mod:Mod K mg base
 bs:∀b o,base.get? b=some o->s.heap.get? b=some o/\H b=none
 OD:base.objs.size<=s.heap.objs.size
 uf:s.heap.FunFrames base outer
 Sm:∀b∈yV outer,H b=none
 dw:sT P w H s.heap
 bare:AllBare s.gens
def CE(outer:List Env)(P:bo)(w:World)(H:Hp)(s:ah)(Q:VK)(u:af)(s':ah):Prop:=
 ∃v H',s'.os=s.os/\AllBare s'.gens/\Un (yV outer) [] H H' s.heap s'.heap/\sT P w H' s'.heap/\RelV v u/\Q v H'
def CR(CX:Dn)(outer:List Env)(P:bo)(w:World)(H:Hp)(s:ah)(Q:VK)(E:XK)(r:Result)(s':ah):Prop:=
 match r with
 | .ok (.ret u)=>CE outer P w H s Q u s'
 | .ok _=>False
 | .error e=>CX outer H s E e s'
structure dJ (P:bo) (w:World) (K:au) (mg:Str->Option af) (base:Heap) (CX:Dn) (k:Nat) (f:aj) (fd:bC) (ps:List Str) (sp:Sp):Prop where
 len:∀vs H Q E,sp vs H Q E->vs.length=ps.length
 run:∀(A:bK) (outer:List Env) (s:ah) (H:Hp) (args:Args) (us:List af) (vs:List V) (Q:VK) (E:XK),gF k A->Bb P w K mg base A outer s H->BindsTo s fd args (ps.zip us)->Vals vs us->sp vs H Q E->
  codeAny (model P w) A (.call (.ref f) args) (CR CX outer P w H s Q E) s
theorem Bb.make{P:bo}{w:World}{K:au}{mg:Str->Option af}{base:Heap}{A:bK}{outer:List Env}{s:ah}{H:Hp}(e:Bb P w K mg base A outer s H)(C:aj)(us:List af)(kw:List (Str×af)):
  Bb P w K mg base (A.under (.builtin "type.__call__" ⟨.ref C::us,kw⟩)) outer s H:=⟨by first|exact e.frames|(simpa [Around.under,Code.envs,Code.isFrame,pushEnvs] using e.frames),e.mod,e.bs,e.OD,e.uf,e.Sm,e.dw,e.bare⟩
theorem Bb.in1{P:bo}{w:World}{K:au}{mg:Str->Option af}{base:Heap}{A:bK}{outer:List Env}{s:ah}{H:Hp}(e:Bb P w K mg base A outer s H):
  Bb P w K mg base A.in1 outer s H:=⟨e.frames,e.mod,e.bs,e.OD,e.uf,e.Sm,e.dw,e.bare⟩
section
variable {X:Cx} {pins:List (aj×Obj)} {σ:St} {H:Hp} {s s':ah}
theorem Inv.NV(I:Inv X pins σ H s):Bb X.prog X.w X.K X.mg X.base X.A X.stack s H:=
 ⟨I.ok.frames,I.ok.mod,I.bs,bD I.ok.OD I.sz,I.stack,I.y6,I.dw,I.bare⟩
theorem Inv.after{Q:VK}{u:af}(I:Inv X pins σ H s)(h:CE X.stack X.prog X.w H s Q u s'):EP X pins σ Q u s':=by
 obtain⟨v,H',os,bare,un,dw,r,q⟩:=h;obtain⟨hh,g,d,t,os'⟩:=s';obtain rfl:os'=s.os:=os;exact⟨v,H',I.call (h':=hh) (g':=g) (d':=d) (t':=t) (ch:=[]) un dw bare (λb z=>absurd z (by simp)),r,q⟩
end
def La(sp:Sp)(Ia:List V)(E:XK)(t:TA):TE:=λσ H Q=>t σ H λvs H1=>sp (vs++Ia) H1 Q E
def Vm(C:aj)(sp:Sp)(Ia:List V)(E:XK)(t:TA):TE:=λσ H Q=>t σ H λvs H1=>∀x dx,H1 x=none->H1 dx=none->dx≠x->
 sp (.ref x::(vs++Ia)) (upd (upd H1 dx (.own x)) x (.ins C dx [])) (λv H2=>v=.fR/\Q (.ref x) H2) E
def Binds(K:au)(fd:bC)(ps:List Str)(ds:List af):Prop:=
 ∀(s:ah) (us:List af),K.In s.heap->(us++ds).length=ps.length->BindsTo s fd ⟨us,[]⟩ (ps.zip (us++ds))
theorem Binds.all{K:au}{fd:bC}{ps:List Str}(h:∀us:List af,us.length=ps.length->bindArgs fd ⟨us,[]⟩=pure (ps.zip us)):Binds K fd ps []:=λs us _ hl=>by
 rw[cE] at hl⊢
 exact .of_eq (h us hl)
def Passes(CX:Dn)(X:Cx)(E:XK):Prop:=∀(pins:List (aj×Obj)) (σ:St) (H:Hp) (s:ah) (e:af) (s':ah),Inv X pins σ H s->CX X.stack H s E e s'->X.xe e s'
section
variable {X:Cx} {CX:Dn} {k:Nat} {f C:aj} {fd:bC} {ps:List Str} {sp:Sp} {Ia:List V} {ds:List af} {E:XK} {x m:Str} {p pos apos:Pos} {e o:Expr} {es:List Expr} {ta:TE} {t:TA}
theorem Jq{pins:List (aj×Obj)}{σ:St}{H:Hp}{s:ah}{Q:VK}{us:List af}{vs:List V}(F:dJ X.prog X.w X.K X.mg X.base CX k f fd ps sp)(hr:gF k X.A)(hb:Binds X.K fd ps ds)(hd:Vals Ia ds)(hx:Passes CX X E)
  (I:Inv X pins σ H s)(r:Vals vs us)(h:sp (vs++Ia) H Q E):wpAny (model X.prog X.w) X.A (call (.ref f) us) (EP X pins σ Q) X.xe s:=by
 have r2:Vals (vs++Ia) (us++ds):=r.append hd;have hl:(us++ds).length=ps.length:=by rw[<-r2.length];exact F.len _ _ _ _ h
 refine gU (gA (F.run X.A X.stack s H ⟨us,[]⟩ (us++ds) (vs++Ia) Q E hr I.NV (hb s us I.q5 hl) r2 h) λr s' hq=> ?_);cases r with
 |error e=>exact hx pins σ H s e s' I hq
 |ok fl=>
  cases fl with
  |ret u=>exact I.after hq
  |next=>exact False.elim hq
  |brk=>exact False.elim hq
  |cont=>exact False.elim hq
theorem TC(F:dJ X.prog X.w X.K X.mg X.base CX k f fd ps sp)(hr:gF k X.A)(hg:Gl X x)(hm:X.mg x=some (.ref f))(hk:keepIn X.K (.ref f)=true)(hb:Binds X.K fd ps ds)(hd:Vals Ia ds)(hx:Passes CX X E)
  (ha:PA X (e::es) t)(u7:(x==("__debug__":Str))=false:=by decide)(he:starEach (e::es) X.env=(false,eval e X.env)::starEach es X.env:=by rfl)(Bd:(backTo pos (starEach es X.env)).any (·.1)=false:=by rfl):
  PE X (.Call (.Name x p) (e::es) [] pos) (La sp Ia E t):=by
 intro pins s σ H Q I h;refine cU (jw I hg hm ?_ u7);refine callWith_K (h₀:=X.base) I.ok.mod.Vz hk (eZ (ha pos pins s σ H _ I h) λus s1 ⟨vs,H1,I1,r,q⟩=>⟨I1.q5, ?_⟩) he Bd;exact Jq F hr hb hd hx I1 r q
theorem PY(F:dJ X.prog X.w X.K X.mg X.base CX k f fd ps sp)(hr:gF k X.A)(hg:Gl X x)(hm:X.mg x=some (.ref f))(hk:keepIn X.K (.ref f)=true)(hb:Binds X.K fd ps ds)(hd:Vals Ia ds)(hx:Passes CX X E)
  (u7:(x==("__debug__":Str))=false:=by decide):PE X (.Call (.Name x p) [] [] pos) (La sp Ia E SG):=by
 intro pins s σ H Q I h;refine cU (jw I hg hm ?_ u7);exact callWith_K0 I.q5 hk (Jq (us:=[]) F hr hb hd hx I .nil h)
structure Mk (K:au) (C f:aj):Prop where
 makes:makesIn K C=true
 init:PySem.W.findIn K (.ref C) "__init__"=some (some (.ref f))
 fn:isFn K (.ref f)=true
 kp:keepIn K (.ref C)=true
theorem Pq{pins:List (aj×Obj)}{σ:St}{H:Hp}{s:ah}{Q:VK}{us:List af}{vs:List V}(M:Mk X.K C f)(F:dJ X.prog X.w X.K X.mg X.base CX k f fd ps sp)(hr:gF (k+1) X.A)(hb:Binds X.K fd ps ds)(hd:Vals Ia ds)
  (hx:Passes CX X E)(I:Inv X pins σ H s)(r:Vals vs us)
  (h:∀x dx,H x=none->H dx=none->dx≠x->sp (.ref x::(vs++Ia)) (upd (upd H dx (.own x)) x (.ins C dx [])) (λv H2=>v=.fR/\Q (.ref x) H2) E):
  wpAny (model X.prog X.w) X.A (call (.ref C) us) (EP X pins σ Q) X.xe s:=by
 have hq:=h (s.heap.objs.size+1) s.heap.objs.size (I.dw.fresh (ir _)) (I.dw.fresh (aE _)) (bc (eh _));have I2:=Inv.made (C:=C) I;have r2:Vals (V.ref (s.heap.objs.size+1)::(vs++Ia)) (Value.ref (s.heap.objs.size+1)::(us++ds)):=.cons rfl (r.append hd);have hl:(Value.ref (s.heap.objs.size+1)::us++ds).length=ps.length:=by
  have e:=r2.length;rw[F.len _ _ _ _ hq] at e
  exact e.symm
 refine gU (Qr (f:=f) I.q5 M.makes M.init (g6.mp M.fn) (gA (F.run _ X.stack _ _ ⟨Value.ref (s.heap.objs.size+1)::us,[]⟩ (Value.ref (s.heap.objs.size+1)::(us++ds)) _ _ E (hr.make C us [])
  (I2.NV.make C us []) (hb _ (Value.ref (s.heap.objs.size+1)::us) I2.q5 hl) r2 hq) λr s' QU=> ?_))
 cases r with
 |error e=>exact hx pins σ _ _ e s' I2 QU
 |ok fl=>
  cases fl with
  |ret u=>
   obtain⟨v,H',I3,rv,ev,q3⟩:=I2.after QU;subst ev;exact⟨rv,⟨V.ref (s.heap.objs.size+1),H',I3,U,q3⟩⟩
  |next=>exact False.elim QU
  |brk=>exact False.elim QU
  |cont=>exact False.elim QU
theorem Tz(M:Mk X.K C f)(F:dJ X.prog X.w X.K X.mg X.base CX k f fd ps sp)(hr:gF (k+1) X.A)(hg:Gl X x)(hm:X.mg x=some (.ref C))(hb:Binds X.K fd ps ds)(hd:Vals Ia ds)(hx:Passes CX X E)
  (ha:PA X (e::es) t)(u7:(x==("__debug__":Str))=false:=by decide)(he:starEach (e::es) X.env=(false,eval e X.env)::starEach es X.env:=by rfl)(Bd:(backTo pos (starEach es X.env)).any (·.1)=false:=by rfl):
  PE X (.Call (.Name x p) (e::es) [] pos) (Vm C sp Ia E t):=by
 intro pins s σ H Q I h;refine cU (jw I hg hm ?_ u7);refine callWith_K (h₀:=X.base) I.ok.mod.Vz M.kp (eZ (ha pos pins s σ H _ I h) λus s1 ⟨vs,H1,I1,r,q⟩=>⟨I1.q5, ?_⟩) he Bd;exact Pq M F hr hb hd hx I1 r q
end
section
variable {X:Cx} {CX:Dn} {k:Nat} {f C:aj} {fd:bC} {ps ks:List Str} {sp:Sp} {E:XK} {x m:Str} {p pos apos Zgr:Pos} {e o:Expr} {es:List Expr} {YY:List Keyword} {te ta:TE} {t tk:TA} {nm:Option Str}
variable {g:List af->List af->List af} {gV:List V->List V->List V}
end
structure b_ (N P:List Str) (sc:Scope):Prop where
 kind:sc.kind=.function
 co:sc.isCoroutine=false
 gen:sc.isGenerator=false
 nd:N.Nodup
 pre:N.take P.length=P
 par:∀x∈P,sc.names.lookup x=some .local\/sc.names.lookup x=some .cell
 Xl:∀y∈sc.names,y.2≠.free
theorem De{kindOf:Str->Option NameKind}{x:Str}:∀{binds:List (Str×af)} {m:Str->Option af},(∀v,(x,v)∉binds)->bindL kindOf binds m x=m x
 |[],_,_=>rfl
 |(n,v)::r,m,h=>by
  unfold bindL;rw[De λw hw=>h w (aF _ hw)]
  split
  ·have:x≠n:=by rintro rfl;exact h v aB
   simp[this]
  ·rfl
theorem Dg{kindOf:Str->Option NameKind}{x:Str}:∀{binds:List (Str×af)} {m:Str->Option af},(∀v,(x,v)∉binds)->bindC kindOf binds m x=m x
 |[],_,_=>rfl
 |(n,v)::r,m,h=>by
  unfold bindC;rw[Dg λw hw=>h w (aF _ hw)]
  split
  ·rfl
  ·have:x≠n:=by rintro rfl;exact h v aB
   simp[this]
theorem Df{kindOf:Str->Option NameKind}{x:Str}{v:af}:∀{P:List Str} {vs:List af} {i:Nat} {m:Str->Option af},P.Nodup->P[i]? =some x->vs[i]? =some v->kindOf x=some .local->
  bindL kindOf (P.zip vs) m x=some v
 |[],_,_,_,_,h,_,_=>by simp at h
 |_::_,[],_,_,_,_,h,_=>by simp at h
 |p::P,w::vs,0,m,nd,h1,h2,hk=>by
  simp at h1 h2;subst h1;subst h2
  show bindL kindOf ((p,w)::P.zip vs) m p=_;unfold bindL;rw[De λv hv=>(cD.mp nd).1 (jh hv).1,bg hk];simp
 |p::P,w::vs,i+1,m,nd,h1,h2,hk=>by
  show bindL kindOf ((p,w)::P.zip vs) m x=_;unfold bindL;exact Df (i:=i) (cD.mp nd).2 (by simpa using h1) (by simpa using h2) hk
theorem Dh{kindOf:Str->Option NameKind}{x:Str}{v:af}:∀{P:List Str} {vs:List af} {i:Nat} {m:Str->Option af},P.Nodup->P[i]? =some x->vs[i]? =some v->kindOf x≠some .local->
  bindC kindOf (P.zip vs) m x=some v
 |[],_,_,_,_,h,_,_=>by simp at h
 |_::_,[],_,_,_,_,h,_=>by simp at h
 |p::P,w::vs,0,m,nd,h1,h2,hk=>by
  simp at h1 h2;subst h1;subst h2
  show bindC kindOf ((p,w)::P.zip vs) m p=_;unfold bindC;rw[Dg λv hv=>(cD.mp nd).1 (jh hv).1,aX hk];simp
 |p::P,w::vs,i+1,m,nd,h1,h2,hk=>by
  show bindC kindOf ((p,w)::P.zip vs) m x=_;unfold bindC;exact Dh (i:=i) (cD.mp nd).2 (by simpa using h1) (by simpa using h2) hk
def start(N:List Str)(vs:List V):St:=vs.map some++List.replicate (N.length-vs.length) none
def gp(CX:Dn)(P:bo)(w:World)(K:au)(mg:Str->Option af)(base:Heap)(N:List Str)(qual:Str)(scope:Scope)(f:aj)(cd:af)(A:bK)(outer:List Env)(s:ah)(H:Hp)(E:XK):Cx where
 prog:=P
 w:=w
 K:=K
 mg:=mg
 base:=base
 A:=A.deeper (envOfC qual scope s.heap.objs.size f cd)
 N:=N
 s₀:=s
 H₀:=H
 env:=envOfC qual scope s.heap.objs.size f cd
 outer:=outer
 stack:=envOfC qual scope s.heap.objs.size f cd::outer
 ex:=[]
 calm:=true
 fn:=λ_=>true
 pn:=[]
 xe:=λe s'=>wpAny (model P w) (A.deeper (envOfC qual scope s.heap.objs.size f cd)) (leaving (envOfC qual scope s.heap.objs.size f cd) e) (λ_ WI=>CX outer H s E e WI) (λe' WI=>CX outer H s E e' WI) s'
theorem Iu{sc:Scope}{n:Nat}{x:Str}(h:sc.names.lookup x=some .cell):∃c,(cellsFrom n sc.names []).lookup x=some c:=by
 have q:=cellsFrom_some sc.names n [] (.inl h);exact uF.mp q
theorem CT{CX:Dn}{P:bo}{w:World}{K:au}{mg:Str->Option af}{base:Heap}{N ps:List Str}{qual:Str}{scope:Scope}{f:aj}{cd:af}{A:bK}{outer:List Env}{s s1:ah}{H:Hp}{E:XK}{us:List af}{vs:List V}
  (S:b_ N ps scope)(hd:A.handled=none)(e0:Bb P w K mg base A outer s H)(hl:vs.length=ps.length)(r:Vals vs us)
  (x:InCallC s s.heap.objs.size (bindL (envOfC qual scope s.heap.objs.size f cd).kindOf (ps.zip us) λ_=>none) (cellsFrom (s.heap.objs.size+1) scope.names []) (bindC (envOfC qual scope s.heap.objs.size f cd).kindOf (ps.zip us) λ_=>none) s1):
  Inv (gp CX P w K mg base N qual scope f cd A outer s H E) [] (start N vs) H s1:=by
 have Bd:ps.length<=N.length:=by have:=dc List.length S.pre;rw[dh] at this;omega
 obtain⟨h1,tk,rfl,hk⟩:=x.done;have noA:∀b:aj,b∉(gp CX P w K mg base N qual scope f cd A outer s H E).ex:=λb z=>absurd (show b∈([]:List aj) from z) (by simp);refine⟨⟨e0.mod,S.kind,U,U,aE _,λy z c h1 h2=> ?_,λy hy=> ?_,λy c _ h=> ?_,λ_=>hd,Around.frames_deeper e0.frames,.inr ⟨U,U⟩,λb z=>absurd z (noA b),e0.bs,e0.OD,λb _ _=>noA b,λb z=>absurd z (noA b),e0.uf,e0.Sm⟩,
  rfl,e0.bare,Un.kept hk,⟨_,x.toInCall.ns,λi y v h1 h2 h3=> ?_⟩,λy c h=>⟨_,x.cell y c h⟩,e0.dw.fresh (aE _),λy c h=> ?_,λp hp=>absurd (show p∈([]:List (aj×Obj)) from hp) (by simp),e0.dw.kept hk, ?_⟩
 ·exact name_of_addr x.apart (iK h1) (iK h2)
 ·have hy:scope.names.lookup y=some .cell\/scope.names.lookup y=some .free:=hy;rcases hy with hy|hy
  ·exact Iu hy
  ·exact absurd U (S.Xl _ (iK hy))
 ·exact i9 (x.above y c (iK h))
 ·have hi:i<vs.length:=by
   unfold start at h2
   by_cases hi:i<vs.length
   ·exact hi
   ·rw[List.getElem?_append_right (by simpa using hi)] at h2
    rw[List.getElem?_replicate] at h2
    split at h2<;>cases h2
  have ha:vs[i]? =some v:=by
   unfold start at h2
   rw[List.getElem?_append_left (by simpa using hi),cj] at h2
   cases e:vs[i]? with
   |none=>rw[e] at h2;cases h2
   |some a=>rw[e] at h2;cases h2;rfl
  obtain⟨u,hu,rv⟩:=r.get ha;have hp:ps[i]? =some y:=by
   rw[<-S.pre,List.getElem?_take_of_lt (by omega)];exact h1
  have ndP:ps.Nodup:=by rw[<-S.pre];exact S.nd.sublist (List.take_sublist _ _)
  refine⟨u,rv, ?_⟩;rcases S.par y (cI hp) with k|k
  ·exact .inl ⟨k,Df ndP hp hu k⟩
  ·obtain⟨c,e⟩:=Iu (n:=s.heap.objs.size+1) k;refine .inr ⟨.inl k,c,e, ?_⟩;have q:=x.cell y c e;rw[Dh ndP hp hu (by show scope.names.lookup y≠_;rw[k];decide)] at q
   exact q
 ·exact e0.dw.fresh (i9 (x.above y c (iK h)))
 ·unfold start;show _=N.length;rw[bb,ao,List.length_replicate];omega
theorem VH{CX:Dn}{P:bo}{w:World}{K:au}{mg:Str->Option af}{base:Heap}{k:Nat}{f:aj}{name qual:Str}{params:Arguments}{body:List Stmt}{scope:Scope}{dV kV doc pm dQ ct oc:af}{an od:Option aj}
  {Ov:Array (Option af)}{N ps:List Str}{sp:Sp}(lk:K.lookup f=some ⟨oc,od,.func (PySem.W.fnOf name qual params body scope dV kV doc pm an dQ ct),Ov⟩)(LP:PySem.W.codeIn K dQ qual=true)(S:b_ N ps scope)
  (len:∀vs H Q E,sp vs H Q E->vs.length=ps.length)
  (G2:∀(A:bK) (outer:List Env) (s:ah) (H:Hp) (vs:List V) (Q:VK) (E:XK),gF k (A.deeper (envOfC qual scope s.heap.objs.size f dQ))->sp vs H Q E->
   ∃t,Fz (gp CX P w K mg base N qual scope f dQ A outer s H E) body t/\t {nx:=λ_ H'=>Q .fR H',rt:=Q} (start N vs) H):
  dJ P w K mg base CX (k+1) f (PySem.W.fnOf name qual params body scope dV kV doc pm an dQ ct) ps sp:=by
 refine⟨len,λA outer s H args us vs Q E hr e0 hb r VB=> ?_⟩;have hl:=len _ _ _ _ VB;have KX:K.In s.heap:=e0.mod.Vz.keeps λb o e=>(e0.bs b o e).1;have lim:s.heap.NoLimit:=e0.mod.nolimit.keeps λb o e=>(e0.bs b o e).1;have QW:∀y∈ps.zip us,scope.names.lookup y.1=some .local\/(scope.names.lookup y.1=some .cell/\((cellsFrom (s.heap.objs.size+1) scope.names []).lookup y.1).isSome=true):=λ⟨n,v⟩ hy=>by
  rcases S.par n (jh hy).1 with q|q
  ·exact .inl q
  ·exact .inr ⟨q,cellsFrom_some _ _ _ (.inl q)⟩
 refine codeAny_call_function hr.depth (KX _ _ lk) U S.co S.gen U (PySem.W.codeRec_of KX LP) (hb _ _ _ _ ?_);refine wpAny_newFunctionEnv_cells S.kind QW λenv he s1 x=> ?_;subst he;refine⟨lim.keeps x.toInCall.keep,codeAny_func ?_⟩;obtain⟨t,ht,hq⟩:=G2 A outer s H vs Q E (hr.deeper _) VB;have I:Inv (gp CX P w K mg base N qual scope f dQ A outer s H E) [] (start N vs) H s1:=CT S hr.hd e0 hl r x;refine cF (ht [] s1 (start N vs) H _ I hq) (λfl s' hs=> ?_) λe s' hs=>hs
 have fin:∀{σ':St} {H':Hp} {v:V} {u:af},Inv (gp CX P w K mg base N qual scope f dQ A outer s H E) [] σ' H' s'->RelV v u->Q v H'->CE outer P w H s Q u s':=
  λ{σ' H' v u} J rv q=>⟨v,H',J.os,J.bare,J.base,J.dw,rv,q⟩
 cases fl with
 |ret u=>
  obtain⟨v,σ',H',J,rv,q⟩:=hs;exact fin J rv q
 |next=>
  obtain⟨σ',H',J,q⟩:=hs;exact fin (v:=V.fR) (u:=Value.none) J U q
 |brk=>
  obtain⟨_,_,_,q⟩:=hs;exact False.elim q
 |cont=>
  obtain⟨_,_,_,q⟩:=hs;exact False.elim q
section
variable {X:Cx} {x:Str} {p pos:Pos} {e:Expr} {es:List Expr} {t:TA} {id T:String} {r:List V->Hp->VK->Prop}
def tCB(r:List V->Hp->VK->Prop)(t:TA):TE:=λσ H Q=>t σ H λvs H1=>r vs H1 Q
theorem cg(hc:iH X (.builtin id) r)(hg:Gl X x)(hm:X.mg x=none)(hv:bootBuiltins x=some (.builtin id))(ha:PA X (e::es) t)(hn:x≠"__name__":=by decide)(u7:(x==("__debug__":Str))=false:=by decide)
  (he:starEach (e::es) X.env=(false,eval e X.env)::starEach es X.env:=by rfl)(Bd:(backTo pos (starEach es X.env)).any (·.1)=false:=by rfl):PE X (.Call (.Name x p) (e::es) [] pos) (tCB r t):=by
 intro pins s σ H Q I h;refine cU (lA I hg hm hv ?_ hn u7);exact PyProof.Rows.callWith_builtin1 (eZ (ha pos pins s σ H _ I h) λus s1 ⟨vs,H1,I1,r1,q1⟩=>hc pins s1 σ H1 vs us Q I1 r1 q1) he Bd
theorem g_(hc:iH X (.type T) r)(hg:Gl X x)(hm:X.mg x=none)(hv:bootBuiltins x=some (.type T))(ha:PA X (e::es) t)(hn:x≠"__name__":=by decide)(u7:(x==("__debug__":Str))=false:=by decide)
  (he:starEach (e::es) X.env=(false,eval e X.env)::starEach es X.env:=by rfl)(Bd:(backTo pos (starEach es X.env)).any (·.1)=false:=by rfl):PE X (.Call (.Name x p) (e::es) [] pos) (tCB r t):=by
 intro pins s σ H Q I h;refine cU (lA I hg hm hv ?_ hn u7);exact PyProof.Rows.callWith_type1 (eZ (ha pos pins s σ H _ I h) λus s1 ⟨vs,H1,I1,r1,q1⟩=>hc pins s1 σ H1 vs us Q I1 r1 q1) he Bd
end
end L2
namespace HT
open PySem PyProof.Rows
section
open PySem.SeqAt
open PySem.AutoSeq1 (wpAny_loadPart')
open PySem.MeetsSeq PySem.MeetsSeq2 PySem.MeetsSeq3
end
section
variable {prog:bo} {w:World} {A:bK} {E:af->ah->Prop} {s:ah}
def Ct(n d:Nat):Option Int->Nat
 |none=>d
 |some v=>if v<0 then(v+(n:Int)).toNat else min v.toNat n
theorem Pn(n d:Nat):Ct n d none=d:=rfl
theorem DX(n d k:Nat):Ct n d (some (k:Int))=min k n:=by
 show(if(k:Int)<0 then((k:Int)+(n:Int)).toNat else min (k:Int).toNat n)=min k n;rw[aX (by omega),jB]
end
end HT
namespace L2
open PySem PySem.Spec PyProof.Rows
abbrev TO:=St->Hp->(Option Int->Hp->Prop)->Prop
def PO(X:Cx)(e:Option Expr)(t:TO):Prop:=
 ∀(pins:List (aj×Obj)) (s:ah) (σ:St) (H:Hp) (Q:Option Int->Hp->Prop),Inv X pins σ H s->t σ H Q->
  wpAny (model X.prog X.w) X.A (evalPart e X.env) (λu s'=>∃o H',Inv X pins σ H' s'/\IsPart u o/\Q o H') X.xe s
def SF:TO:=λ_ H Q=>Q none H
def ZI(t:TE):TO:=λσ H Q=>t σ H λx H1=>∃i,x=.int i/\Q (some i) H1
theorem intsAre_of{ns:List Int}:∀{us:List af},Vals (ns.map V.int) us->IntsAre us ns:=by
 induction ns with
 |nil=>intro us r;rw[i_] at r;cases r;exact .nil
 |cons n ns ih=>
  intro us r;rw[aT] at r
  cases r with
  |cons r1 r2=>
   obtain⟨t,e⟩:=r1;subst e;exact .cons n t (ih r2)
section
variable {X:Cx} {e:Expr} {te:TE} {lo hi:Option Expr} {tl th:TO} {pos p2:Pos}
theorem tH:PO X none SF:=by
 intro pins s σ H Q I h;rw[evalPart_none];exact aq ⟨none,H,I,.none,h⟩
theorem nJ(h:PE X e te):PO X (some e) (ZI te):=by
 intro pins s σ H Q I hw;rw[evalPart_some];refine eZ (h pins s σ H _ I hw) λu s1 ⟨x,H1,I1,r1,q1⟩=> ?_;obtain⟨i,rfl,q⟩:=q1;obtain⟨t,rfl⟩:=r1;exact⟨some i,H1,I1,.int i t,q⟩
def SlR(X:Cx)(r:V->Option Int->Option Int->Hp->VK->Prop):Prop:=
 ∀(pins:List (aj×Obj)) (s:ah) (σ:St) (H:Hp) (x:V) (v vl vu:af) (lo hi:Option Int) (sl:aj) (Q:VK),Inv X pins σ H s->RelV x v->s.heap.IsSliceOf sl vl vu .none->IsPart vl lo->IsPart vu hi->r x lo hi H Q->
  ∃T id,typeLookup (.type T) "__getitem__"=pure (some (.builtin id))/\s.TypeIs v T/\wpAny (model X.prog X.w) X.A (getItem v (.ref sl)) (EP X pins σ Q) X.xe s
def tSl(r:V->Option Int->Option Int->Hp->VK->Prop)(te:TE)(tl th:TO):TE:=λσ H Q=>te σ H λx H1=>tl σ H1 λl H2=>th σ H2 λu H3=>r x l u H3 Q
theorem mI{r:V->Option Int->Option Int->Hp->VK->Prop}(hr:SlR X r)(he:PE X e te)(hl:PO X lo tl)(hu:PO X hi th):PE X (.Subscript e (.Slice lo hi none p2) pos) (tSl r te tl th):=by
 intro pins s σ H Q I h;refine Subscript_ (eZ (he pins s σ H _ I h) λv s1 ⟨x,H1,I1,r1,q1⟩=> ?_);refine wpAny_Slice (eZ (hl pins s1 σ H1 _ I1 q1) λvl s2 ⟨l,H2,I2,pl,q2⟩=>eZ (hu pins s2 σ H2 _ I2 q2) λvu s3 ⟨u,H3,I3,pu,q3⟩=> ?_);rw[evalPart_none];refine aq ?_;have I4:Inv X pins σ H3 {s3 with heap:=s3.heap.push {cls:=.type "slice",data:=.fields #[vl,vu,.none]}}:=I3.kept (t':=s3.toks) λb ob q=>ai _ q;obtain⟨T,id,hT,ht,hg⟩:=hr pins {s3 with heap:=s3.heap.push {cls:=.type "slice",data:=.fields #[vl,vu,.none]}} σ H3 x v vl vu l u s3.heap.objs.size Q I4 r1 (Heap.IsSliceOf.new ..) pl pu q3
 show wpAny (model X.prog X.w) X.A (subscriptTail e (.Slice lo hi none p2) v (.ref s3.heap.objs.size)) (EP X pins σ Q) X.xe {s3 with heap:=s3.heap.push {cls:=.type "slice",data:=.fields #[vl,vu,.none]}};exact tail_any (ops:=[.ref s3.heap.objs.size,v]) ht hT hg (by with_unfolding_all rfl)
def BU(xs:List V)(lo hi:Option Int):List V:=(xs.drop (HT.Ct xs.length 0 lo)).take (HT.Ct xs.length xs.length hi-HT.Ct xs.length 0 lo)
theorem Ii(xs:List V)(lo hi:Option Int):(BU xs lo hi).length<=xs.length:=by
 unfold BU;rw[dh,nO];omega
end
def XT(n:Nat)(i:Int):Option Nat:=if 0<=i then(if i<n then some i.toNat else none) else if-(n:Int)<=i then some (i+n).toNat else none
def A2{α:Type}(xs:List α)(i:Int):Option α:=(XT xs.length i).bind λj=>xs[j]?
theorem Ut{n:Nat}{i:Int}{j:Nat}(h:XT n i=some j):seqIndex? i n=some j/\j<n/\-(n:Int)<=i/\i<n:=by
 unfold XT at h
 by_cases h0:0<=i
 ·rw[bg h0] at h
  by_cases h1:i<n
  ·rw[bg h1] at h
   have e:i.toNat=j:=bR h;exact⟨by rw[seqIndex_of h0 h1,e],by omega,by omega,h1⟩
  ·rw[aX h1] at h;cases h
 ·rw[aX h0] at h
  by_cases h1: -(n:Int)<=i
  ·rw[bg h1] at h
   have e:(i+n).toNat=j:=bR h;exact⟨by rw[seqIndex_neg (by omega) h1,e],by omega,h1,by omega⟩
  ·rw[aX h1] at h;cases h
theorem wY{α:Type}{xs:List α}{i:Int}{v:α}(h:A2 xs i=some v):∃j,seqIndex? i xs.length=some j/\xs[j]? =some v/\j<xs.length/\-(xs.length:Int)<=i/\i<xs.length:=by
 unfold A2 at h
 cases e:XT xs.length i with
 |none=>rw[e] at h;cases h
 |some j=>
  rw[e] at h
  obtain⟨h1,h2,h3,h4⟩:=Ut e;exact⟨j,h1,h,h2,h3,h4⟩
def Va(b:Expr):Prop:=∀o i,subscripted b false o i=operate [o,i] (getItem o i)
def IxR(X:Cx)(r:R2):Prop:=
 ∀(value slice:Expr) (pins:List (aj×Obj)) (s:ah) (σ:St) (H:Hp) (x y:V) (v u:af) (Q:VK),Inv X pins σ H s->RelV x v->RelV y u->r x y H Q->
  subscripted slice false v u=operate [v,u] (getItem v u)->wpAny (model X.prog X.w) X.A (subscriptTail value slice v u) (EP X pins σ Q) X.xe s
def MtR(X:Cx)(id:String)(r:V->List V->Hp->VK->Prop):Prop:=
 ∀(pins:List (aj×Obj)) (s:ah) (σ:St) (H:Hp) (x:V) (xs:List V) (v:af) (us:List af) (Q:VK),Inv X pins σ H s->RelV x v->Vals xs us->r x xs H Q->
  wpAny (model X.prog X.w) X.A (call (.builtin id) (v::us)) (EP X pins σ Q) X.xe s
section
variable {X:Cx} {a b:Expr} {ta tb:TE} {pos:Pos}
theorem dI{r:R2}(hr:IxR X r)(ha:PE X a ta)(hb:PE X b tb)(hs:Va b):PE X (.Subscript a b pos) (OY r ta tb):=by
 intro pins s σ H Q I h;exact Subscript_ (Yv ha hb I h λv u s2 x y H2 I2 rx ry q=>hr a b pins s2 σ H2 x y v u Q I2 rx ry q (hs _ _))
def WT(K:au):R2:=λx y H Q=>∃p xs i v,x=.ref p/\y=.int i/\cK K H p xs/\A2 xs i=some v/\Q v H
def WS(K:au):R2:=λx y H Q=>∃p xs i v,x=.ref p/\y=.int i/\jU K H p xs/\A2 xs i=some v/\Q v H
def Zcy:R2:=λx y H Q=>∃z i c,x=.str z/\y=.int i/\z.length<=sizeLine/\A2 z.cps.toList i=some c/\Q (.str ⟨#[c]⟩) H
theorem dY:IxR X (WT X.K):=by
 intro value slice pins s σ H x y v u Q I rx ry h hs;obtain⟨p,xs,i,z,rfl,rfl,hq,he,q⟩:=h;cases rx;obtain⟨t,rfl⟩:=ry;obtain⟨its,r,pl,hz⟩:=I.list hq;obtain⟨j,h1,h2,h3,h4,h5⟩:=wY he;obtain⟨w,ew,Po⟩:=r.get h2;have hl:=r.length;have hn:=EA;have fin:EP X pins σ Q w s:=⟨z,H,I,Po,q⟩
 by_cases h0:0<=i
 ·have hj:i.toNat=j:=by
   rw[seqIndex_of h0 h5] at h1
   exact bR h1
  exact item_listR pl.isList h0 (by omega) (by rw[hj];simpa using ew) fin hs
 ·have hj:(i+(its.toArray.size:Int)).toNat=j:=by
   rw[seqIndex_neg (by omega) h4] at h1
   rw[aL,<-hl];exact bR h1
  exact subscriptTail_builtinR (x:=w) pl.isList.typeIs slot_list_getitem.lookup
   (wpAny_getItem_list_neg (Q:=λr s'=>r=w/\EP X pins σ Q r s') pl.isList (by omega) (by rw[aL]<;>omega) (by omega) (by rw[hj];simpa using ew) ⟨rfl,fin⟩) hs
theorem jc:IxR X (WS X.K):=by
 intro value slice pins s σ H x y v u Q I rx ry h hs;obtain⟨p,xs,i,z,rfl,rfl,hq,he,q⟩:=h;cases rx;obtain⟨t,rfl⟩:=ry;obtain⟨its,r,pl,hz⟩:=I.tuple hq;obtain⟨j,h1,h2,h3,h4,h5⟩:=wY he;obtain⟨w,ew,Po⟩:=r.get h2;have hl:=r.length;have hn:=EA;have fin:EP X pins σ Q w s:=⟨z,H,I,Po,q⟩
 exact subscriptTail_builtinR (x:=w) pl.typeIs slot_tuple_getitem.lookup
  (getItem_tuple (j:=j) (Q:=λr s'=>r=w/\EP X pins σ Q r s') pl (by omega) (by omega) (by rw[aL,<-hl];exact h1) (by simpa using ew) ⟨U,fin⟩) hs
theorem AF:IxR X Zcy:=by
 intro value slice pins s σ H x y v u Q I rx ry h hs;obtain⟨z,i,c,rfl,rfl,hz,he,q⟩:=h;obtain⟨t,rfl⟩:=rx;obtain⟨t',rfl⟩:=ry;obtain⟨j,h1,h2,h3,h4,h5⟩:=wY he;have hl:z.cps.toList.length=z.length:=by simp[Str.length]
 rw[hl] at h1 h4 h5
 have hn:=EA;exact tail_any (vv s z t) slot_str_getitem.lookup (getItem_str (c:=c) (by
  have e1:decide (i< -(2^63:Int))=false:=bJ (by omega);have e2:decide (i≥2^63)=false:=bJ (by omega);rw[e1,e2,Bool.or_false]) (by rw[h1];simpa using h2) ⟨.str ⟨#[c]⟩,H,I.tok _,⟨_,rfl⟩,q⟩) hs
theorem DF(lo hi:Option Int)(n:Nat):(sliceBounds lo hi none n).1=((HT.Ct n 0 lo:Nat):Int)/\(sliceBounds lo hi none n).2.1=((HT.Ct n n hi:Nat):Int)/\(sliceBounds lo hi none n).2.2=1:=by
 refine⟨?_, ?_,U⟩
 ·cases lo with
  |none=>simp[sliceBounds,HT.Ct]
  |some i=>
   simp only [sliceBounds,HT.Ct,Option.getD_none,show(1:Int)>0 by decide,Oq]
   by_cases h:i<0
   ·simp only [h,Oq]<;>omega
   ·simp only [h,if_false]<;>omega
 ·cases hi with
  |none=>simp[sliceBounds,HT.Ct]
  |some i=>
   simp only [sliceBounds,HT.Ct,Option.getD_none,show(1:Int)>0 by decide,Oq]
   by_cases h:i<0
   ·simp only [h,Oq]<;>omega
   ·simp only [h,if_false]<;>omega
theorem Bs(its:List af)(lo hi:Option Int):slicePick its.toArray lo hi none=((its.drop (HT.Ct its.length 0 lo)).take (HT.Ct its.length its.length hi-HT.Ct its.length 0 lo)).toArray:=by
 obtain⟨h1,h2,h3⟩:=DF lo hi its.toArray.size;unfold slicePick;rw[h1,h2,h3];simp only [sliceRange_one,pick_run,aL]<;>rfl
def Zcw(K:au):V->Option Int->Option Int->Hp->VK->Prop:=λx lo hi H Q=>∃a xs,x=.ref a/\cK K H a xs/\∀p,H p=none->Q (.ref p) (upd H p (.lst (BU xs lo hi)))
theorem DH:SlR X (Zcw X.K):=by
 intro pins s σ H x v vl vu lo hi sl Q I rx hs pl pu h;obtain⟨a,xs,rfl,hx,q⟩:=h;cases rx;obtain⟨its,r,ht,hz⟩:=I.list hx;have hlen:=r.length;refine⟨"list",_,slot_list_getitem.lookup,ht.isList.typeIs, ?_⟩;refine wpAny_getItem_list_slice ht.isList hs pl pu .none (by simp) ?_ (by rw[aL]<;>omega)
 rw[Bs,<-hlen];refine⟨.ref s.heap.objs.size,_,I.laid (t':=s.toks) (o:=.lst (BU xs lo hi)) (λb ob q=>ai _ q) (aE _) ?_,U,q _ (I.dw.fresh (aE _))⟩;exact⟨bD (Ii xs lo hi) hz,_,0,(r.drop (HT.Ct xs.length 0 lo)).take (HT.Ct xs.length xs.length hi-HT.Ct xs.length 0 lo),aM _ U⟩
def ig:V->Bool
 | .fR=>true
 | .bl _=>true
 | .int _=>true
 | .str _=>true
 |_=>false
def IJ:V->V->Bool
 | .fR,.fR=>true
 | .bl a,.bl b=>a==b
 | .bl a,.int b=>(if a then 1 else 0)==b
 | .int a,.bl b=>a==(if b then 1 else 0)
 | .int a,.int b=>a==b
 | .str a,.str b=>a==b
 |_,_=>false
theorem Kr{A:bK}{s:ah}{y x:V}{u v:af}(ry:RelV y u)(rx:RelV x v)(fy:ig y=true)(fx:ig x=true):SeqAt.EqAt A s u v (IJ y x):=by
 cases y with
 |fR=>
  cases ry;cases x with
  |fR=>cases rx;exact Ca _
  |bl b=>cases rx;exact SeqAt.EqAt.none_bool b
  |int b=>obtain⟨t,rfl⟩:=rx;exact SeqAt.EqAt.none_int b t
  |str b=>obtain⟨t,rfl⟩:=rx;exact SeqAt.EqAt.none_str b t
  |_=>exact absurd (show false=true from fx) bj
 |bl a=>
  cases ry;cases x with
  |fR=>cases rx;exact SeqAt.EqAt.bool_none a
  |bl b=>cases rx;exact SeqAt.EqAt.bool_bool a b
  |int b=>obtain⟨t,rfl⟩:=rx;exact SeqAt.EqAt.bool_int a b t
  |str b=>obtain⟨t,rfl⟩:=rx;exact SeqAt.EqAt.bool_str a b t
  |_=>exact absurd (show false=true from fx) bj
 |int a=>
  obtain⟨t',rfl⟩:=ry;cases x with
  |fR=>cases rx;exact SeqAt.EqAt.int_none a t'
  |bl b=>cases rx;exact SeqAt.EqAt.int_bool a t' b
  |int b=>obtain⟨t,rfl⟩:=rx;exact SeqAt.EqAt.int_int a t' b t
  |str b=>obtain⟨t,rfl⟩:=rx;exact SeqAt.EqAt.int_str a t' b t
  |_=>exact absurd (show false=true from fx) bj
 |str a=>
  obtain⟨t',rfl⟩:=ry;cases x with
  |fR=>cases rx;exact SeqAt.EqAt.str_none a t'
  |bl b=>cases rx;exact SeqAt.EqAt.str_bool a t' b
  |int b=>obtain⟨t,rfl⟩:=rx;exact SeqAt.EqAt.str_int a t' b t
  |str b=>obtain⟨t,rfl⟩:=rx;exact SeqAt.EqAt.str_str a t' b t
  |_=>exact absurd (show false=true from fx) bj
 |_=>exact absurd (show false=true from fy) bj
def Kq(x:V)(u:af):Bool:=match u with
 | .none=>IJ .fR x
 | .bool b=>IJ (.bl b) x
 | .int i _=>IJ (.int i) x
 | .str z _=>IJ (.str z) x
 |_=>false
theorem Rl{x y:V}{u:af}(r:RelV y u)(f:ig y=true):Kq x u=IJ y x:=by
 cases y with
 |fR=>cases r;rfl
 |bl b=>cases r;rfl
 |int i=>obtain⟨t,rfl⟩:=r;rfl
 |str z=>obtain⟨t,rfl⟩:=r;rfl
 |_=>exact absurd (show false=true from f) bj
theorem wZ{x:V}:∀{xs:List V} {us:List af},Vals xs us->xs.all ig=true->us.any (Kq x)=xs.any λy=>IJ y x
 |_,_,.nil,_=>rfl
 |y::xs,u::us,.cons r t,f=>by
  rw[fG,cZ] at f
  rw[iE,iE,Rl r f.1,wZ t f.2]
theorem sq{A:bK}{s:ah}{x:V}{v:af}(rx:RelV x v)(fx:ig x=true):∀{xs:List V} {us:List af},Vals xs us->xs.all ig=true->∀u∈us,SeqAt.EqAt A s u v (Kq x u)
 |_,_,.nil,_=>λu hu=>by cases hu
 |y::xs,u::us,.cons r t,f=>λu' hu=>by
  rw[fG,cZ] at f
  rcases aJ.mp hu with rfl|hu
  ·rw[Rl r f.1];exact Kr r rx f.1 fx
  ·exact sq rx fx t f.2 u' hu
def XU(x:V)(xs:List V):Bool:=xs.any λy=>IJ y x
def rIn(K:au)(neg:Bool):R2:=λx y H Q=>∃p xs,y=.ref p/\(cK K H p xs\/jU K H p xs)/\ig x=true/\xs.all ig=true/\Q (.bl (if neg then !XU x xs else XU x xs)) H
theorem MZ:vp X (compareOp .In) (rIn X.K false):=by
 intro pins s σ H x y v u Q I rx ry h;obtain⟨p,xs,rfl,hq,fx,fs,q⟩:=h;cases ry;rcases hq with hq|hq
 ·obtain⟨its,r,pl,hz⟩:=I.list hq;refine SeqAt.in_listAt (Kq x) pl.isList (λw hw=>sq rx fx r fs w (by simpa using hw)) ⟨.bl _,H,I,U, ?_⟩;rw[show its.toArray.any (Kq x)=its.any (Kq x) by simp,wZ r fs];exact q
 ·obtain⟨its,r,pl,hz⟩:=I.tuple hq;refine SeqAt.in_tupleAt (Kq x) pl (λw hw=>sq rx fx r fs w (by simpa using hw)) ⟨.bl _,H,I,U, ?_⟩;rw[show its.toArray.any (Kq x)=its.any (Kq x) by simp,wZ r fs];exact q
theorem Eb:vp X (compareOp .NotIn) (rIn X.K true):=by
 intro pins s σ H x y v u Q I rx ry h;obtain⟨p,xs,rfl,hq,fx,fs,q⟩:=h;cases ry;rcases hq with hq|hq
 ·obtain⟨its,r,pl,hz⟩:=I.list hq;refine SeqAt.notIn_listAt (Kq x) pl.isList (λw hw=>sq rx fx r fs w (by simpa using hw)) ⟨.bl _,H,I,U, ?_⟩;rw[show its.toArray.any (Kq x)=its.any (Kq x) by simp,wZ r fs];exact q
 ·obtain⟨its,r,pl,hz⟩:=I.tuple hq;refine SeqAt.notIn_tupleAt (Kq x) pl (λw hw=>sq rx fx r fs w (by simpa using hw)) ⟨.bl _,H,I,U, ?_⟩;rw[show its.toArray.any (Kq x)=its.any (Kq x) by simp,wZ r fs];exact q
theorem lU:iH X (.type "list") (λxs H Q=>∃p ys,xs=[.ref p]/\(cK X.K H p ys\/jU X.K H p ys)/\∀l,H l=none->Q (.ref l) (upd H l (.lst ys))):=by
 intro pins s σ H xs us Q I r h;obtain⟨p,ys,rfl,hq,q⟩:=h;obtain⟨u,rfl,rx⟩:=vals1 r;cases rx;have fin:∀(its:List af),Vals ys its->ys.length<=sizeLine->∀(h':Heap) (c':Nat),(∀b o',s.heap.get? b=some o'->h'.get? b=some o')->
   h'.get? s.heap.objs.size=some {cls:=.type "list",dict:=none,data:=.seq its.toArray c',slots:= #[]}->EP X pins σ Q (.ref s.heap.objs.size) {s with heap:=h'}:=λits r' hz h' c' kp e=>
  ⟨.ref s.heap.objs.size,_,I.laid (t':=s.toks) kp (aE _) (show fB X.prog X.w _ h' _ (.lst ys) from⟨hz,its,c',r',e⟩),rfl,q _ (I.dw.fresh (aE _))⟩
 rcases hq with hq|hq
 ·obtain⟨its,r',pl,hz⟩:=I.list hq;have hlen:=r'.length;obtain⟨o,ho,hc,n,hd⟩:=pl.isList;exact call_list_seq p (.inl U) ho hc hd (λh' c' kp e=>fin its r' hz h' c' kp e) (by simp only [aL]<;>omega)
 ·obtain⟨its,r',pl,hz⟩:=I.tuple hq;have hlen:=r'.length;obtain⟨o,ho,hc,n,hd⟩:=pl;exact call_list_seq p (.inr U) ho hc hd (λh' c' kp e=>fin its r' hz h' c' kp e) (by simp only [aL]<;>omega)
def tyV(K:au)(T:String)(x:V)(H:Hp):Prop:=match x with
 | .str _=>T="str"
 | .int _=>T="int"
 | .ref p=>(T="list"/\∃xs,cK K H p xs)\/(T="tuple"/\∃o,K.lookup p=some o/\o.cls=.type "tuple"/\o.dict=none)\/
   (T="dict"/\((∃kvs,H p=some (.dK kvs))\/∃kvs,H p=some (.dT kvs)))\/(T="set"/\∃S n,H p=some (.set S n))
 |_=>False
theorem Dz{pins:List (aj×Obj)}{σ:St}{H:Hp}{s:ah}{T:String}{x:V}{v:af}(I:Inv X pins σ H s)(r:RelV x v)(ty:tyV X.K T x H):
  s.TypeIs v T/\∀a,v=.ref a->∃ob,s.heap.get? a=some ob/\ob.dict=none:=by
 cases x with
 |str z=>
  obtain⟨t,rfl⟩:=r;cases(show T="str" from ty);exact⟨vv s z t,λ_ e=>nomatch e⟩
 |int i=>
  obtain⟨t,rfl⟩:=r;cases(show T="int" from ty);exact⟨typeIs_int s i t,λ_ e=>nomatch e⟩
 |ref p=>
  cases r;rcases ty with ⟨rfl,xs,hq⟩|⟨rfl,o,hk,hc,hd⟩|⟨rfl,hk⟩|⟨rfl,S,n,hk⟩
  ·obtain⟨its,_,pl,_⟩:=I.list hq;refine⟨pl.isList.typeIs,λa e=> ?_⟩;cases e;obtain⟨o,n,e,c,hd,_⟩:=pl;exact⟨o,e,hd⟩
  ·refine⟨⟨o,I.q5 p o hk,hc⟩,λa e=> ?_⟩;cases e;exact⟨o,I.q5 _ o hk,hd⟩
  ·have z:∃o,s.heap.get? p=some o/\o.ExactDict:=by
    rcases hk with ⟨kvs,hk⟩|⟨kvs,hk⟩
    ·obtain⟨_,_,_,_,o,_,_,e,ex,_⟩:=I.dw p _ hk;exact⟨o,e,ex⟩
    ·obtain⟨_,_,_,_,o,_,_,e,ex,_⟩:=I.dw p _ hk;exact⟨o,e,ex⟩
   obtain⟨o,e,ex⟩:=z;refine⟨⟨o,e,ex.1⟩,λa e2=> ?_⟩;cases e2;exact⟨o,e,ex.2.1⟩
  ·obtain⟨o,_,_,_,e,ex,_⟩:=I.dw p _ hk;refine⟨⟨o,e,ex.1⟩,λa e2=> ?_⟩;cases e2;exact⟨o,e,ex.2.1⟩
 |_=>exact False.elim ty
def Zcj(K:au)(T:String)(r:V->List V->Hp->VK->Prop)(to:TE):TE:=λσ H Q=>to σ H λx H1=>tyV K T x H1/\r x [] H1 Q
def tBM(K:au)(T:String)(r:V->List V->Hp->VK->Prop)(to:TE)(t:TA):TE:=λσ H Q=>to σ H λx H1=>tyV K T x H1/\t σ H1 λxs H2=>r x xs H2 Q
variable {o e:Expr} {es:List Expr} {to:TE} {t:TA} {name:Str} {apos gf:Pos} {T id:String} {r:V->List V->Hp->VK->Prop}
theorem Xa(pa:PlainAttrs T)(slot:Slot T name id)(hty:typeOf (.builtin id)=pure (.type "method_descriptor"))(hm:MtR X id r)(ho:PE X o to)
  (AK:attributeBase o name X.env (eval o X.env)=eval o X.env:=by rfl)(sx:(apos.endLine==gf.line)=true:=by rfl):PE X (.Call (.Attribute o name apos) [] [] gf) (Zcj X.K T r to):=by
 intro pins s σ H Q I h;refine wpAny_Call_method0_late AK sx (eZ (ho pins s σ H _ I h) λv s1 ⟨x,H1,I1,r1,ty,q1⟩=> ?_);obtain⟨h1,h2⟩:=Dz I1 r1 ty;exact⟨T,id,pa,slot,hty,h1,h2,eY U (qT (hm pins s1 σ H1 x [] v [] Q I1 r1 .nil q1))⟩
theorem i6(pa:PlainAttrs T)(slot:Slot T name id)(hty:typeOf (.builtin id)=pure (.type "method_descriptor"))(hm:MtR X id r)(ho:PE X o to)(ha:PA X (e::es) t)
  (AK:attributeBase o name X.env (eval o X.env)=eval o X.env:=by rfl)
  (Zdh:((backTo gf (starEach (e::es) X.env)).all (λx=> !x.1)&&(backToKw gf (keywordEach [] X.env)).all (λx=>x.1.isSome)
   &&decide ((e::es).length+([]:List Keyword).length+(if([]:List Keyword).isEmpty then 0 else 1)<30))=true:=by rfl)
  (sx:(apos.endLine==gf.line)=true:=by rfl)(hs:starEach (e::es) X.env=(false,eval e X.env)::starEach es X.env:=by rfl)(X2:(backTo gf (starEach es X.env)).any (·.1)=false:=by rfl):
  PE X (.Call (.Attribute o name apos) (e::es) [] gf) (tBM X.K T r to t):=by
 intro pins s σ H Q I h;refine wpAny_Call_method_late AK Zdh sx U (eZ (ho pins s σ H _ I h) λv s1 ⟨x,H1,I1,r1,ty,q1⟩=> ?_);obtain⟨h1,h2⟩:=Dz I1 r1 ty;refine⟨T,id,pa,slot,hty,h1,h2, ?_⟩;have hA:=ha gf pins s1 σ H1 _ I1 q1;rw[hs] at hA⊢
 refine eY (by show(false||(backTo gf (starEach es X.env)).any (·.1))=false;rw[X2]<;>rfl) (kJ ?_)
 exact eZ hA λus s2 ⟨vs,H2,I2,r2,q2⟩=>hm pins s2 σ H2 x vs v us Q I2 r1 r2 q2
end
def MtM(X:Cx)(id:String)(r:V->List V->Hp->VK->Prop):Prop:=
 ∀(pins:List (aj×Obj)) (s:ah) (σ:St) (H:Hp) (x:V) (xs:List V) (v:af) (us:List af) (Q:VK),Inv X pins σ H s->RelV x v->Vals xs us->r x xs H Q->
  wpAny (model X.prog X.w) X.A (call (.builtin id) (v::us)) (EP X pins σ Q) X.xe s
theorem Vals.one:∀{x:V} {us:List af},Vals [x] us->∃u,us=[u]/\RelV x u
 |_,_,.cons r .nil=>⟨_,rfl,r⟩
theorem Vals.zero:∀{us:List af},Vals [] us->us=[]
 |_,.nil=>rfl
theorem Vals.dropLast{xs:List V}{us:List af}(h:Vals xs us):Vals xs.dropLast us.dropLast:=by
 induction h with
 |nil=>exact .nil
 |cons r t ih=>
  cases t with
  |nil=>exact .nil
  |cons q t'=>exact .cons r ih
theorem Vals.reverse{xs:List V}{us:List af}(h:Vals xs us):Vals xs.reverse us.reverse:=by
 induction h with
 |nil=>exact .nil
 |cons r t ih=>rw[uq,uq];exact Vals.append ih (.cons r .nil)
theorem Ko{α:Type}(l:List α):l.eraseIdx (l.length-1)=l.dropLast:=by
 induction l with
 |nil=>rfl
 |cons a r ih=>
  cases r with
  |nil=>rfl
  |cons b r=>
   have e:(a::b::r).length-1=((b::r).length-1)+1:=by
    have h1:(a::b::r).length=r.length+2:=rfl;have h2:(b::r).length=r.length+1:=rfl;omega
   rw[e,List.eraseIdx_cons_succ,ih]
   all_goals rfl
section
variable {X:Cx} {pins:List (aj×Obj)} {σ:St} {H:Hp} {s:ah} {l b:aj} {xs ys zs:List V}
theorem Inv.Xy{its its':List af}{n:Nat}{f:Array af->Array af}{t':Nat}(I:Inv X pins σ H s)(hH:H l=some (.lst xs))
  (e:s.heap.get? l=some {cls:=.type "list",data:=.seq its.toArray n})(hf:f its.toArray=its'.toArray)(hv:Vals ys its')(hz:ys.length<=sizeLine):
  Inv X pins σ (upd H l (.lst ys)) {s with heap:=s.heap.update l (Obj.mapSeq f),toks:=t'}:=by
 have q:=PySem.IsL.update e f;rw[hf] at q
 refine I.write (x:=l) (e:=l) (by rw[hH];exact trivial) (.inl U) (λb' u hb hu=>(eW s.heap (Obj.mapSeq f) (cY hb)).trans hu) ⟨_,q⟩ ?_
 exact⟨hz,its',_,hv,q⟩
theorem Inv.XA{its:List af}{t':Nat}(I:Inv X pins σ H s)(hv:Vals ys its)(hz:ys.length<=sizeLine):
  Inv X pins σ (upd H s.heap.objs.size (.lst ys)) {s with heap:=s.heap.push {cls:=.type "list",data:=.seq its.toArray},toks:=t'}:=
 I.laid (λ_ _ q=>ai _ q) (aE _) ⟨hz,its,0,hv,aM _ rfl⟩
theorem Inv.fresh(I:Inv X pins σ H s):H s.heap.objs.size=none:=I.dw.fresh (aE _)
theorem Inv.Qu(I:Inv X pins σ H s)(hH:H l=some (.lst xs)):xs.length<=sizeLine/\∃(its:List af) (n:Nat),Vals xs its/\xs.length=its.length/\s.heap.get? l=some {cls:=.type "list",data:=.seq its.toArray n}:=by
 obtain⟨z,its,n,r,e⟩:=I.dw l _ hH;exact⟨z,its,n,r,r.length,e⟩
theorem Qa{n:Nat}(h:n<=sizeLine):Builtin.List.listTooLong n=false:=by
 unfold Builtin.List.listTooLong;exact bJ (by omega)
end
section
variable {X:Cx}
def Tn:V->List V->Hp->VK->Prop:=λx vs H Q=>∃l xs y,x=.ref l/\vs=[y]/\H l=some (.lst xs)/\xs.length<sizeLine/\Q .fR (upd H l (.lst (xs++[y])))
theorem gG:MtM X "list.append" Tn:=by
 intro pins s σ H x vs v us Q I rx rv h;obtain⟨l,xs,y,rfl,rfl,hH,hz,q⟩:=h;cases rx;obtain⟨u,rfl,ru⟩:=rv.one;obtain⟨z,its,n,r,hl,e⟩:=I.Qu hH;refine call_meets F.slot_list_append ⟨_,e,U⟩ F.entry_list_append (F.args_list_append_2 _ _) (PySem.list_append l its.toArray n u (by rw[aL];omega)) ⟨e, ?_⟩
 refine⟨.fR,_,I.Xy (its':=its++[u]) hH e (by simp) (r.append (.cons ru .nil)) ?_,U,q⟩;rw[bb,List.length_singleton];omega
def Tj:V->List V->Hp->VK->Prop:=λx vs H Q=>∃l b xs zs,x=.ref l/\vs=[.ref b]/\H l=some (.lst xs)/\H b=some (.lst zs)/\xs.length+zs.length<=sizeLine/\Q .fR (upd H l (.lst (xs++zs)))
theorem Nn:MtM X "list.extend" Tj:=by
 intro pins s σ H x vs v us Q I rx rv h;obtain⟨l,b,xs,zs,rfl,rfl,hH,hB,hz,q⟩:=h;cases rx;obtain⟨u,rfl,ru⟩:=rv.one;cases ru;obtain⟨z,its,n,r,hl,e⟩:=I.Qu hH;obtain⟨z2,QO,n2,r2,hl2,e2⟩:=I.Qu hB;have hsz:its.toArray.size+QO.toArray.size<=sizeLine:=by rw[aL,aL];omega
 have ZaL:¬(!its.toArray.isEmpty&&Builtin.List.listTooLong (its.toArray.size+QO.toArray.size))=true:=by
  rw[Qa hsz,rE];exact bj
 refine call_meets F.slot_list_extend ⟨_,e,U⟩ F.entry_list_extend (F.args_list_extend_2 _ _)
  (AutoSeq1.list_extend_list_list_0 l its.toArray n b QO.toArray n2 ZaL (by rw[aL];omega) (by omega)) ⟨e,e2, ?_⟩
 refine⟨.fR,_,I.Xy (its':=its++QO) hH e (by simp) (r.append r2) ?_,U,q⟩;rw[bb];omega
def Zcx:V->List V->Hp->VK->Prop:=λx vs H Q=>∃l xs y,x=.ref l/\vs=[]/\H l=some (.lst xs)/\xs[xs.length-1]? =some y/\Q y (upd H l (.lst xs.dropLast))
theorem Xt:MtM X "list.pop" Zcx:=by
 intro pins s σ H x vs v us Q I rx rv h;obtain⟨l,xs,y,rfl,rfl,hH,hy,q⟩:=h;cases rx;have hus:=rv.zero;subst hus;obtain⟨z,its,n,r,hl,e⟩:=I.Qu hH;obtain⟨u,hu,ru⟩:=r.get hy;have hy':its.toArray[its.toArray.size-1]? =some u:=by
  show its.toArray[its.length-1]? =some u;rw[<-eC,<-hl];exact hu
 refine call_meets F.slot_list_pop ⟨_,e,U⟩ F.entry_list_pop (F.args_list_pop_1 _) (MeetsSeq.list_pop_last l its.toArray n u hy' (by rw[aL];omega)) ⟨e, ?_⟩
 refine⟨y,_,I.Xy (its':=its.dropLast) hH e ?_ r.dropLast ?_,ru,q⟩
 ·show its.toArray.eraseIdxIfInBounds (its.toArray.size-1)=its.dropLast.toArray;rw[aL,List.eraseIdxIfInBounds_toArray,Ko]
 ·rw[List.length_dropLast];omega
end
section
variable {prog:bo} {w:World} {A:bK} {E:af->ah->Prop} {s:ah}
end
section
variable {X:Cx}
end
section
variable {κ:Type} [DecidableEq κ]
def l9(kvs:List (κ×V))(k:κ):Option V:=(kvs.find? λkv=>decide (kv.1=k)).map (·.2)
def putK(kvs:List (κ×V))(k:κ)(v:V):List (κ×V):=
 if(kvs.any λkv=>decide (kv.1=k))=true then kvs.map (λkv=>if kv.1=k then(kv.1,v) else kv) else kvs++[(k,v)]
theorem o_{p:κ×V}{r:List (κ×V)}{k:κ}(e:p.1=k):l9 (p::r) k=some p.2:=by simp[l9,cp,e]
theorem rF{p:κ×V}{r:List (κ×V)}{k:κ}(e:¬p.1=k):l9 (p::r) k=l9 r k:=by simp[l9,cp,e]
theorem FT(k:κ):∀kvs:List (κ×V),(kvs.any λkv=>decide (kv.1=k))=(l9 kvs k).isSome
 |[]=>rfl
 |p::r=>by
  rw[iE]
  by_cases e:p.1=k
  ·simp only [o_ e,bf e,Bool.true_or,Option.isSome_some]
  ·rw[rF e,bJ e,Sw];exact FT k r
theorem sv(kvs:List (κ×V))(k:κ)(v:V):(putK kvs k v).length<=kvs.length+1:=by
 unfold putK
 split
 ·rw[ao];omega
 ·rw[bb,aZ,kW];omega
theorem qK.pG{o:Option V}{u:Option af}(r:qK o u):o.isSome=u.isSome:=by
 cases o with
 |none=>cases u with
  |none=>rfl
  |some _=>exact(show False from r).elim
 |some _=>cases u with
  |none=>exact(show False from r).elim
  |some _=>rfl
theorem qK.getD{o:Option V}{u:Option af}{d:V}{d':af}(r:qK o u)(rd:RelV d d'):RelV (o.getD d) (u.getD d'):=by
 cases o with
 |none=>cases u with
  |none=>exact rd
  |some _=>exact(show False from r).elim
 |some _=>cases u with
  |none=>exact(show False from r).elim
  |some _=>exact r
theorem KV.val{kvs:List (κ×V)}{vs:List (κ×af)}(r:KV kvs vs)(k:κ):qK (l9 kvs k) (valueAt vs k):=by
 unfold KV at r
 induction r with
 |nil=>exact True.intro
 | @cons p q ps qs h t ih=>
  obtain⟨h1,h2⟩:=h
  by_cases e:p.1=k
  ·have e':q.1=k:=h1.symm.trans e;have b:valueAt (q::qs) k=some q.2:=by simp[valueAt,cp,e']
   rw[o_ e,b];exact h2
  ·have e':¬q.1=k:=λz=>e (h1.trans z);have b:valueAt (q::qs) k=valueAt qs k:=by simp[valueAt,cp,e']
   rw[rF e,b];exact ih
theorem KV.any{kvs:List (κ×V)}{vs:List (κ×af)}(r:KV kvs vs)(k:κ):(kvs.any λkv=>decide (kv.1=k))=vs.any λkv=>decide (kv.1=k):=by
 unfold KV at r
 induction r with
 |nil=>rfl
 |cons h t ih=>rw[iE,iE,ih,h.1]
theorem KV.WL{kvs:List (κ×V)}{vs:List (κ×af)}(r:KV kvs vs)(k:κ){y:V}{u:af}(ry:RelV y u):
  KV (kvs.map λkv=>if kv.1=k then(kv.1,y) else kv) (vs.map λkv=>if kv.1=k then(kv.1,u) else kv):=by
 unfold KV at r⊢
 induction r with
 |nil=>exact .nil
 | @cons p q ps qs h t ih=>
  rw[aT,aT];refine .cons ?_ ih;obtain⟨h1,h2⟩:=h
  by_cases e:p.1=k
  ·rw[bg e,bg (h1.symm.trans e)];exact⟨h1,ry⟩
  ·rw[aX e,aX (λz=>e (h1.trans z))];exact⟨h1,h2⟩
theorem KV.put{kvs:List (κ×V)}{vs:List (κ×af)}(r:KV kvs vs)(k:κ){y:V}{u:af}(ry:RelV y u):KV (putK kvs k y) (stored vs k u):=by
 unfold putK stored;rw[r.any k]
 by_cases e:(vs.any λkv=>decide (kv.1=k))=true
 ·rw[bg e,bg e];exact r.WL k ry
 ·rw[aX e,aX e];exact Paired.snoc r ⟨U,ry⟩
theorem KV.keys{kvs:List (κ×V)}{vs:List (κ×af)}(r:KV kvs vs):kvs.map (·.1)=vs.map (·.1):=by
 unfold KV at r
 induction r with
 |nil=>rfl
 |cons h t ih=>rw[aT,aT,ih,h.1]
theorem KV.length{kvs:List (κ×V)}{vs:List (κ×af)}(r:KV kvs vs):kvs.length=vs.length:=cA r
end
theorem AE{P:bo}{w:World}{k:Key}{u:af}(r:RelV (kV k) u):(eJ P w).is k u=true:=by
 cases k with
 |inl i=>obtain⟨t,e⟩:=(show∃t,u=Value.int i t from r);subst e;exact GB P w i t
 |inr x=>obtain⟨t,e⟩:=(show∃t,u=Value.str x t from r);subst e;exact GA P w x t
theorem CS{P:bo}{w:World}:∀{ks:List Key} {us:List af},Vals (ks.map kV) us->ItemsAre (eJ P w) ks us
 |[],_,r=>by rw[i_] at r;cases r;exact .nil
 |k::ks,_,r=>by
  rw[aT] at r
  cases r with
  |cons h t=>exact .cons (AE h) (CS t)
abbrev KT(H:Hp):List (List Key×V)->List (List Key×aj×af)->Prop:=Paired λp q=>p.1=q.1/\H q.2.1=some (.tup (p.1.map kV))/\RelV p.2 q.2.2
theorem KT.val{H:Hp}{kvs:List (List Key×V)}{xs:List (List Key×aj×af)}(r:KT H kvs xs)(k:List Key):qK (l9 kvs k) ((atKey xs k).map (·.2)):=by
 induction r with
 |nil=>exact True.intro
 | @cons p q ps qs h t ih=>
  obtain⟨h1,_,h2⟩:=h
  by_cases e:p.1=k
  ·have e':q.1=k:=h1.symm.trans e;have b:atKey (q::qs) k=some q.2:=by simp[atKey,cp,e']
   rw[o_ e,b];exact h2
  ·have e':¬q.1=k:=λz=>e (h1.trans z);have b:atKey (q::qs) k=atKey qs k:=by simp[atKey,cp,e']
   rw[rF e,b];exact ih
theorem KT.WL{H:Hp}{kvs:List (List Key×V)}{xs:List (List Key×aj×af)}(r:KT H kvs xs)(k:List Key){y:V}{u:af}(ry:RelV y u):
  KT H (kvs.map λkv=>if kv.1=k then(kv.1,y) else kv) (xs.map (putAt k u)):=by
 induction r with
 |nil=>exact .nil
 | @cons p q ps qs h t ih=>
  rw[aT,aT];refine .cons ?_ ih;obtain⟨h1,h2,h3⟩:=h;unfold putAt
  by_cases e:p.1=k
  ·rw[bg e,bg (h1.symm.trans e)];exact⟨h1,h2,ry⟩
  ·rw[aX e,aX (λz=>e (h1.trans z))];exact⟨h1,h2,h3⟩
theorem KT.put{H:Hp}{kvs:List (List Key×V)}{xs:List (List Key×aj×af)}(r:KT H kvs xs)(k:List Key){b:aj}{y:V}{u:af}(hb:H b=some (.tup (k.map kV)))(ry:RelV y u):
  KT H (putK kvs k y) (storedH xs k b u):=by
 have e:(kvs.any λkv=>decide (kv.1=k))=(atKey xs k).isSome:=by
  rw[FT,(r.val k).pG,FJ]
 unfold putK storedH;rw[e]
 by_cases q:(atKey xs k).isSome=true
 ·rw[bg q,bg q];exact r.WL k ry
 ·rw[aX q,aX q];exact Paired.snoc r ⟨U,hb,ry⟩
theorem KT.keeps{H H':Hp}{kvs:List (List Key×V)}{xs:List (List Key×aj×af)}(r:KT H kvs xs)(ht:∀b ys,H b=some (.tup ys)->H' b=some (.tup ys)):KT H' kvs xs:=
 Paired.Xv r λ_ _ z=>⟨z.1,ht _ _ z.2.1,z.2.2⟩
section
variable {P:bo} {w:World} {H:Hp} {h:Heap} {a:aj}
theorem Vq{u:HO}(ok:sT P w H h)(e:Rd H a u):fB P w H h a u:=e.ok ok
theorem rg{kvs:List (Key×V)}(ok:sT P w H h)(e:Rd H a (.dK kvs)):kvs.length<=sizeLine/\(a==sysModules)=false/\∃vs,KV kvs vs/\h.DictOf (eJ P w) a vs:=
 show fB P w H h a (.dK kvs) from Vq ok e
theorem Ru{kvs:List (Key×V)}(ok:sT P w H h)(e:H a=some (.dK kvs)):kvs.length<=sizeLine/\(a==sysModules)=false/\∃vs,KV kvs vs/\h.DictOf (eJ P w) a vs:=rg ok (.inl e)
theorem xQ{ks:List Key}(ok:sT P w H h)(e:H a=some (.tup (ks.map kV))):(tupleKind (eJ P w)).is h ks a:=by
 obtain⟨_,its,r,o,h1,h2,n,h3⟩:=(show fB P w H h a (.tup (ks.map kV)) from ok a _ e)
 exact⟨o,its.toArray,n,h1,h2,h3,by simpa using CS r⟩
theorem AO{kvs:List (List Key×V)}(ok:sT P w H h)(e:Rd H a (.dT kvs)):kvs.length<=sizeLine/\(a==sysModules)=false/\
  ∃xs,KT H kvs xs/\h.DictOfH (tupleKind (eJ P w)) a xs:=by
 obtain⟨z,y,xs,r,o,es,ep,h1,h2,h3,h4,h5⟩:=(show fB P w H h a (.dT kvs) from Vq ok e)
 refine⟨z,y,xs,r,o,es,ep,h1,h2,h3,h4,λx hx=> ?_,h5⟩;have all:∀{l:List (List Key×V)} {m:List (List Key×aj×af)},KT H l m->∀x∈m,(tupleKind (eJ P w)).is h x.1 x.2.1:=by
  intro l m q
  induction q with
  |nil=>intro x hx;exact nomatch hx
  | @cons p q ps qs hq t ih=>
   intro x hx;rcases aJ.mp hx with e|hx
   ·subst e;exact xQ ok (by rw[<-hq.1];exact hq.2.1)
   ·exact ih x hx
 exact all r x hx
theorem ZaZ{kvs:List (List Key×V)}(ok:sT P w H h)(e:H a=some (.dT kvs)):kvs.length<=sizeLine/\(a==sysModules)=false/\
  ∃xs,KT H kvs xs/\h.DictOfH (tupleKind (eJ P w)) a xs:=AO ok (.inl e)
end
def yg(H:Hp)(a:aj)(y:V)(r:Option V):Prop:=
 (∃kvs k,Rd H a (.dK kvs)/\y=kV k/\r=l9 kvs k)\/∃kvs k b,Rd H a (.dT kvs)/\y=.ref b/\H b=some (.tup (k.map kV))/\r=l9 kvs k
def Oo(H:Hp)(a:aj)(y v:V)(H':Hp):Prop:=
 (∃kvs k,H a=some (.dK kvs)/\y=kV k/\kvs.length<sizeLine/\H'=upd H a (.dK (putK kvs k v)))\/
 ∃kvs k b,H a=some (.dT kvs)/\y=.ref b/\H b=some (.tup (k.map kV))/\kvs.length<sizeLine/\H'=upd H a (.dT (putK kvs k v))
theorem Oo.k{H:Hp}{a:aj}{kvs:List (Key×V)}{k:Key}{v:V}(e:H a=some (.dK kvs))(hl:kvs.length<sizeLine):Oo H a (kV k) v (upd H a (.dK (putK kvs k v))):=.inl ⟨kvs,k,e,rfl,hl,rfl⟩
section
variable {X:Cx} {pins:List (aj×Obj)} {σ:St} {H:Hp} {s:ah} {a:aj} {y v:V} {u r:af} {o:Option V} {A:bK} {E:af->ah->Prop}
theorem Inv.big(I:Inv X pins σ H s):sysModules<s.heap.objs.size:=by
 have h:mainGlobals<s.heap.objs.size:=(I.mod.glob.keeps I.bk).lt;exact Nat.lt_trans (by decide) h
theorem N_{Q:af->ah->Prop}(hu:A.units+1<cLine)(I:Inv X pins σ H s)(g:yg H a y (some v))(ry:RelV y u)(h:∀w' s',Inv X pins σ H s'->RelV v w'->Q w' s'):
  wpAny (model X.prog X.w) A (getItem (.ref a) u) Q E s:=by
 rcases g with ⟨kvs,k,e,ey,l⟩|⟨kvs,k,b,e,ey,eb,l⟩
 ·subst ey;obtain⟨z,hd,vs,rel,dd⟩:=rg I.dw e;obtain⟨w',hw,Po⟩:=qK.some_of (v:=v) (o:=valueAt vs k) (by rw[l];exact rel.val k)
  exact wpAny_getItem_of (AE ry) dd.mapOf hw (h w' _ (I.tok _) Po)
 ·subst ey;cases(show u=Value.ref b from ry);obtain⟨z,hd,xs,rel,dd⟩:=AO I.dw e;obtain⟨w',hw,Po⟩:=qK.some_of (v:=v) (o:=(atKey xs k).map (·.2)) (by rw[l];exact rel.val k)
  obtain⟨p,hp,Kh⟩:=Option.map_eq_some_iff.mp hw;refine wpAny_getItem_heap (mX hu) (xQ I.dw eb) dd hp ?_;rw[Kh];exact h w' _ (I.tok _) Po
theorem ZdH{Q:af->ah->Prop}(hu:A.units+1<cLine)(I:Inv X pins σ H s)(g:yg H a y o)(ry:RelV y u)(h:∀s',Inv X pins σ H s'->Q (.bool o.isSome) s'):
  wpAny (model X.prog X.w) A (compareOp .In u (.ref a)) Q E s:=by
 rcases g with ⟨kvs,k,e,ey,l⟩|⟨kvs,k,b,e,ey,eb,l⟩
 ·subst ey;obtain⟨z,hd,vs,rel,dd⟩:=rg I.dw e;refine wpAny_in_of (AE ry) hd dd.mapOf ?_;rw[<-(rel.val k).pG,<-l];exact h _ (I.tok _)
 ·subst ey;cases(show u=Value.ref b from ry);obtain⟨z,hd,xs,rel,dd⟩:=AO I.dw e;refine wpAny_in_heap (mX hu) (xQ I.dw eb) hd dd ?_;have q:=(rel.val k).pG;rw[FJ] at q
  rw[<-q,<-l];exact h _ (I.tok _)
theorem UK{Q:af->ah->Prop}(hu:A.units+1<cLine)(I:Inv X pins σ H s)(g:yg H a y o)(ry:RelV y u)(h:∀s',Inv X pins σ H s'->Q (.bool (!o.isSome)) s'):
  wpAny (model X.prog X.w) A (compareOp .NotIn u (.ref a)) Q E s:=by
 rcases g with ⟨kvs,k,e,ey,l⟩|⟨kvs,k,b,e,ey,eb,l⟩
 ·subst ey;obtain⟨z,hd,vs,rel,dd⟩:=rg I.dw e;refine wpAny_notIn_of (AE ry) hd dd.mapOf ?_;rw[<-(rel.val k).pG,<-l];exact h _ (I.tok _)
 ·subst ey;cases(show u=Value.ref b from ry);obtain⟨z,hd,xs,rel,dd⟩:=AO I.dw e;refine wpAny_notIn_heap (mX hu) (xQ I.dw eb) hd dd ?_;have q:=(rel.val k).pG;rw[FJ] at q
  rw[<-q,<-l];exact h _ (I.tok _)
theorem zv{h':Heap}{t':Nat}{ob:HO}(I:Inv X pins σ H s)(mu:Mut (H a))(hs:Heap.SameBut a s.heap h')(he:∃q,h'.get? a=some q)(new:fB X.prog X.w (upd H a ob) h' a ob):
  Inv X pins σ (upd H a ob) {s with heap:=h',toks:=t'}:=
 I.write (x:=a) (e:=a) mu (.inl rfl) (λb q hb z=>(hs.2 b hb).trans z) he new
theorem E3{P:bo}{w:World}{H':Hp}{h':Heap}{kvs:List (Key×V)}{vs:List (Key×af)}(z:kvs.length<=sizeLine)(hd:(a==sysModules)=false)(rel:KV kvs vs)(dd:h'.DictOf (eJ P w) a vs):
  fB P w H' h' a (.dK kvs):=⟨z,hd,vs,rel,dd⟩
theorem N9{H':Hp}{Q:Unit->ah->Prop}(hu:A.units+1<cLine)(I:Inv X pins σ H s)(g:Oo H a y v H')(ry:RelV y u)(rv:RelV v r)(h:∀s',Inv X pins σ H' s'->Q () s'):
  wpAny (model X.prog X.w) A (setItem (.ref a) u r) Q E s:=by
 rcases g with ⟨kvs,k,e,ey,l,eH⟩|⟨kvs,k,b,e,ey,eb,l,eH⟩
 ·subst ey eH;obtain⟨z,hd,vs,rel,dd⟩:=Ru I.dw e;have hz:vs.length<=sizeLine:=by rw[<-rel.length];exact z
  have hl:(putK kvs k v).length<=sizeLine:=by have:=sv kvs k v;omega
  refine wpAny_setItem_pairs (hsz:=hz) (AE ry) dd λh' OB hs=>h _ ?_;have he:∃q,h'.get? a=some q:=let ⟨q,_,_,hq,_⟩:=OB;⟨q,hq⟩;exact zv I (by rw[e];exact True.intro) hs he (E3 hl hd (rel.put k rv) OB)
 ·subst ey eH;cases(show u=Value.ref b from ry);obtain⟨z,hd,xs,rel,dd⟩:=ZaZ I.dw e;have hz:xs.length<=sizeLine:=by rw[<-cA rel];exact z
  have hl:(putK kvs k v).length<=sizeLine:=by have:=sv kvs k v;omega
  refine wpAny_setItem_heap (hsz:=hz) (mX hu) (xQ I.dw eb) dd λh' OB hs=>h _ ?_;obtain⟨q,es,ep,hq,h2,h3,h4,_,h5⟩:=OB;refine zv I (by rw[e];exact True.intro) hs ⟨q,hq⟩ ⟨hl,hd,_,(rel.put k eb rv).keeps λc ys ec=> ?_,q,es,ep,hq,h2,h3,h4,h5⟩
  rw[aY (wq ec e (λz=>nomatch z))];exact ec
end
section
variable {X:Cx} {pins:List (aj×Obj)} {σ:St} {H:Hp} {s:ah} {a:aj} {kvs:List (Key×V)} {k:Key} {u:af} {A:bK} {E:af->ah->Prop}
theorem UL{Q:af->ah->Prop}(I:Inv X pins σ H s)(e:H a=some (.dK kvs))(h:∀s',Inv X pins σ (upd H a (.dK [])) s'->Q .none s'):wpAny (model X.prog X.w) A (call (.builtin "dict.clear") [.ref a]) Q E s:=by
 obtain⟨z,hd,vs,rel,dd⟩:=Ru I.dw e;refine gB PySem.F.slot_dict_clear dd.typeIs PySem.F.entry_dict_clear (PySem.F.args_dict_clear_1 _) (meets_dict_clear (eJ X.prog X.w) a) ⟨vs,dd,by rw[<-rel.length];exact z,λh' OB hs=>h _ ?_⟩
 have he:∃q,h'.get? a=some q:=let ⟨q,_,_,hq,_⟩:=OB;⟨q,hq⟩;exact zv (t':=s.toks) I (by rw[e];exact True.intro) hs he (E3 (bz _) hd .nil OB)
theorem Za0{Q:af->ah->Prop}(I:Inv X pins σ H s)(e:Rd H a (.dK kvs))(h:∀t s',Inv X pins σ H s'->Q (.int kvs.length t) s'):wpAny (model X.prog X.w) A (call (.builtin "len") [.ref a]) Q E s:=by
 obtain⟨z,hd,vs,rel,dd⟩:=rg I.dw e;refine call_len_dict hd dd (by rw[<-rel.length];rw[cJ] at z;omega) ?_
 rw[<-rel.length];exact h _ _ (I.tok _)
end
def Zbe(i:Expr):Prop:=∀ov iv,subscripted i false ov iv=operate [ov,iv] (getItem ov iv)
theorem SK{prog:bo}{w:World}{A:bK}{E:af->ah->Prop}{s:ah}{env:Env}{value slice:Expr}{pos:Pos}{T id:String}{Q:af->ah->Prop}
  (hl:typeLookup (.type T) "__getitem__"=pure (some (.builtin id)))(hs:Zbe slice)
  (h:wpAny (model prog w) A (eval value env) (λo s₁=>wpAny (model prog w) A (eval slice env) (λi s₂=>s₂.TypeIs o T/\wpAny (model prog w) A (getItem o i) Q E s₂) E s₁) E s):
  wpAny (model prog w) A (eval (.Subscript value slice pos) env) Q E s:=by
 refine Subscript_ (cF h (λo s₁ h₁=>cF h₁ (λi s₂ h₂=> ?_) λ_ _ x=>x) λ_ _ x=>x);obtain⟨hT,h₂⟩:=h₂;unfold subscriptTail;refine aa ?_;rw[getitemInPython_of_ne hT.not_modules];refine aa (wpAny_specialOf hT hl ?_);have fin:wpAny (model prog w) A (subscripted slice false o i) (λr s₃=>wpAny (model prog w) A (letTemporaryGo value o r>>=λ_=>pure r) Q E s₃) E s₂:=by
  rw[hs o i];exact wpAny_operating (cF h₂ (λr s₃ h₃=>aa (wpAny_letTemporaryGo (aq h₃))) λ_ _ x=>x)
 first
  |exact aq (aa fin)
  |exact aa (aq (aa fin))
  |exact aa fin
theorem Ig{X:Cx}{pins:List (aj×Obj)}{σ:St}{H:Hp}{s:ah}{a:aj}{y:V}{o:Option V}(I:Inv X pins σ H s)(g:yg H a y o):s.TypeIs (.ref a) "dict":=by
 rcases g with ⟨kvs,k,e,_,_⟩|⟨kvs,k,b,e,_,_,_⟩
 ·obtain⟨_,_,vs,_,dd⟩:=rg I.dw e;exact dd.typeIs
 ·obtain⟨_,_,xs,_,dd⟩:=AO I.dw e;exact dd.typeIs
def ZP(td ty:TE):TE:=λσ H Q=>td σ H λx H1=>ty σ H1 λy H2=>∃a v,x=.ref a/\yg H2 a y (some v)/\Q v H2
def Zch(ty td:TE):TE:=λσ H Q=>ty σ H λy H1=>td σ H1 λx H2=>∃a o,x=.ref a/\yg H2 a y o/\Q (.bl o.isSome) H2
def SH(ty td:TE):TE:=λσ H Q=>ty σ H λy H1=>td σ H1 λx H2=>∃a o,x=.ref a/\yg H2 a y o/\Q (.bl (!o.isSome)) H2
def ZY(td ty tv:TE):TS:=λD σ H=>tv σ H λv H1=>td σ H1 λx H2=>ty σ H2 λy H3=>∃a H4,x=.ref a/\Oo H3 a y v H4/\D.nx σ H4
section
variable {X:Cx} {o i e value:Expr} {pos pos' Zb9:Pos} {td ty tv:TE}
theorem zc(hu:X.A.units+1<cLine)(ho:PE X o td)(hi:PE X i ty)(hs:Zbe i):PE X (.Subscript o i pos) (ZP td ty):=by
 intro pins s σ H Q I h;refine SK PySem.F.slot_dict_getitem.lookup hs (eZ (ho pins s σ H _ I h) λu s1 ⟨x,H1,I1,rx,q1⟩=>eZ (hi pins s1 σ H1 _ I1 q1) λiv s2 ⟨y,H2,I2,ry,a,v,ex,g,q2⟩=> ?_);subst ex;obtain rfl:u=Value.ref a:=rx;exact⟨Ig I2 g,N_ hu I2 g ry λw' s3 I3 Po=>⟨v,H2,I3,Po,q2⟩⟩
theorem PZ(hu:X.A.units+1<cLine)(hi:PE X i ty)(ho:PE X o td):PC X .In i o (Zch ty td):=by
 intro pins s σ H Q I h;refine eZ (hi pins s σ H _ I h) λiv s1 ⟨y,H1,I1,ry,q1⟩=>eZ (ho pins s1 σ H1 _ I1 q1) λu s2 ⟨x,H2,I2,rx,a,ov,ex,g,q2⟩=> ?_;subst ex;obtain rfl:u=Value.ref a:=rx;exact ZdH hu I2 g ry λs3 I3=>⟨.bl ov.isSome,H2,I3,U,q2⟩
theorem CA(hu:X.A.units+1<cLine)(hi:PE X i ty)(ho:PE X o td):PC X .NotIn i o (SH ty td):=by
 intro pins s σ H Q I h;refine eZ (hi pins s σ H _ I h) λiv s1 ⟨y,H1,I1,ry,q1⟩=>eZ (ho pins s1 σ H1 _ I1 q1) λu s2 ⟨x,H2,I2,rx,a,ov,ex,g,q2⟩=> ?_;subst ex;obtain rfl:u=Value.ref a:=rx;exact UK hu I2 g ry λs3 I3=>⟨.bl (!ov.isSome),H2,I3,U,q2⟩
theorem D8(hu:X.A.units+1<cLine)(ho:PE X o td)(hi:PE X i ty)(hv:PE X value tv)(hs:swapsWith value (some (.Subscript o i pos')) pos.line X.env=pure false):
  PS X (.Assign [.Subscript o i pos'] value pos) (ZY td ty tv):=by
 intro pins s σ H D I h;refine wpAny_Assign_Subscript (eZ (hv pins s σ H _ I h) λr s1 ⟨v,H1,I1,rv,q1⟩=>eZ (ho pins s1 σ H1 _ I1 q1) λu s2 ⟨x,H2,I2,rx,q2⟩=>eZ (hi pins s2 σ H2 _ I2 q2) λiv s3 ⟨y,H3,I3,ry,a,H4,ex,g,q3⟩=> ?_) hs;subst ex;obtain rfl:u=Value.ref a:=rx;exact N9 hu I3 g ry rv λs4 I4=>⟨σ,H4,I4,q3⟩
end
theorem Ie{P:bo}{w:World}{H:Hp}(h:Heap)(hb:sysModules<h.objs.size):fB P w H (h.push {cls:=.type "dict",data:=.dict #[]}) h.objs.size (.dK []):=
 ⟨bz _,fQ.mpr (cY (bc hb)),[],.nil,Heap.DictOf.new h⟩
def Wx:TE:=λ_ H Q=>∀p,H p=none->Q (.ref p) (upd H p (.dK []))
section
variable {X:Cx} {pos:Pos}
theorem Gm:PE X (.Dict [] [] pos) Wx:=λpins s σ H Q I h=>
 wpAny_Dict_empty ⟨.ref s.heap.objs.size,_,I.laid (a:=s.heap.objs.size) (o:=.dK []) (t':=s.toks) (λ_ _ q=>ai _ q) (aE _) (Ie s.heap I.big),rfl,h _ (I.dw.fresh (aE _))⟩
end
def Jb:List (TE×TE)->St->Hp->(List (V×V)->Hp->Prop)->Prop
 |[],_,H,Q=>Q [] H
 |(tk,tv)::r,σ,H,Q=>tk σ H λx H1=>tv σ H1 λy H2=>Jb r σ H2 λps H3=>Q ((x,y)::ps) H3
abbrev VV:List (V×V)->List (af×af)->Prop:=Paired λp q=>RelV p.1 q.1/\RelV p.2 q.2
def PPs(X:Cx)(pos:Pos)(keys:List (Option Expr))(values:List Expr)(SD:List (TE×TE)):Prop:=
 ∀(pins:List (aj×Obj)) (s:ah) (σ:St) (H:Hp) (Q:List (V×V)->Hp->Prop),Inv X pins σ H s->Jb SD σ H Q->
  wpAny (model X.prog X.w) X.A (evalPairs (pairTrees keys values X.env pos)) (λvs s'=>∃ps H',Inv X pins σ H' s'/\VV ps vs/\Q ps H') X.xe s
theorem Tp{X:Cx}{pos:Pos}:PPs X pos [] [] []:=λpins s σ H Q I h=>pairTrees_nil_walk ⟨[],H,I,.nil,h⟩
theorem PJ{X:Cx}{pos:Pos}{k v:Expr}{ks:List (Option Expr)}{vs:List Expr}{tk tv:TE}{SD:List (TE×TE)}(hk:PE X k tk)(hv:PE X v tv)(hr:PPs X pos ks vs SD):
  PPs X pos (some k::ks) (v::vs) ((tk,tv)::SD):=λpins s σ H Q I h=>
 pairTrees_cons_walk (eZ (hk pins s σ H _ I h) λu s1 ⟨x,H1,I1,rx,q1⟩=>eZ (hv pins s1 σ H1 _ I1 q1) λw2 s2 ⟨y,H2,I2,ry,q2⟩=>
  eZ (hr pins s2 σ H2 _ I2 q2) λws s3 ⟨ps,H3,I3,rel,q3⟩=>⟨(x,y)::ps,H3,I3,.cons ⟨rx,ry⟩ rel,q3⟩)
def sk(kvs more:List (Key×V)):List (Key×V):=more.foldl (λacc kv=>putK acc kv.1 kv.2) kvs
theorem KV.merge:∀{more:List (Key×V)} {rs:List (Key×af)} {kvs:List (Key×V)} {vs:List (Key×af)},KV more rs->KV kvs vs->KV (sk kvs more) (merged vs rs):=by
 intro more rs kvs vs r;unfold KV at r
 induction r generalizing kvs vs with
 |nil=>intro q;exact q
 | @cons p q ps qs h t ih=>
  intro r0;have e:KV (putK kvs p.1 p.2) (stored vs q.1 q.2):=by
   have:=r0.put p.1 h.2;rw[<-h.1];exact this
  exact ih e
theorem uw:∀(more kvs:List (Key×V)),(sk kvs more).length<=kvs.length+more.length
 |[],kvs=>by show kvs.length<=kvs.length+0;omega
 |p::r,kvs=>by
  have h1:=uw r (putK kvs p.1 p.2);have h2:=sv kvs p.1 p.2;show(sk (putK kvs p.1 p.2) r).length<=_;rw[aZ];omega
theorem AR{P:bo}{w:World}:∀{kvs:List (Key×V)} {ws:List (af×af)},VV (kvs.map λkv=>(kV kv.1,kv.2)) ws->∃rs,Carries (eJ P w) ws rs/\KV kvs rs
 |[],_,r=>by rw[i_] at r;cases r;exact⟨[],True.intro,.nil⟩
 |p::kvs,_,r=>by
  rw[aT] at r
  cases r with
  | @cons a b as bs h t=>
   obtain⟨rs,c,q⟩:=AR (P:=P) (w:=w) t;obtain⟨b1,b2⟩:=b;exact⟨(p.1,b2)::rs,⟨AE h.1,U,c⟩,.cons ⟨U,h.2⟩ q⟩
def ZO(SD:List (TE×TE)):TE:=λσ H Q=>∀p,H p=none->Jb SD σ (upd H p (.dK [])) λps H2=>H2 p=some (.dK [])/\∃kvs:List (Key×V),ps=kvs.map (λkv=>(kV kv.1,kv.2))/\kvs.length<=15/\Q (.ref p) (upd H2 p (.dK (sk [] kvs)))
theorem TB{X:Cx}{pos:Pos}{keys:List (Option Expr)}{values:List Expr}{SD:List (TE×TE)}(h:PPs X pos keys values SD)(Yh:keys.all (·.isSome)=true)(hl:keys.length=values.length)(h0:keys≠[])
  (h15:keys.length<=15):PE X (.Dict keys values pos) (ZO SD):=by
 intro pins s σ H Q I q;have hn:=I.dw.fresh (aE s.heap.objs.size);have I1:=I.laid (a:=s.heap.objs.size) (o:=.dK []) (h':=s.heap.push {cls:=.type "dict",data:=.dict #[]}) (t':=s.toks) (λ_ _ q=>ai _ q) (aE _) (Ie s.heap I.big);refine wpAny_Dict_walk (knd:=eJ X.prog X.w) Yh hl h0 h15 (eZ (h pins _ σ _ _ I1 (q _ hn)) λws s2 ⟨ps,H2,I2,rel,e,kvs,ep,lk,q2⟩=> ?_);subst ep;obtain⟨rs,c,rk⟩:=AR (P:=X.prog) (w:=X.w) rel
 obtain⟨z,hd,vs0,r0,dd⟩:=Ru I2.dw e;cases r0;refine⟨rs,c,dd,λh' OB hs=>⟨.ref s.heap.objs.size,_, ?_,U,q2⟩⟩;have hz:(sk [] kvs).length<=sizeLine:=by
  have h1:=uw kvs [];rw[kW] at h1
  rw[cJ];omega
 have he:∃q,h'.get? s.heap.objs.size=some q:=let ⟨q,_,_,hq,_⟩:=OB;⟨q,hq⟩;exact zv I2 (by rw[e];exact True.intro) hs he (E3 hz hd (rk.merge .nil) OB)
structure M2 (X:Cx) (o:Expr) (m:Str) (apos:Pos) (e f:Expr) (gf:Pos):Prop where
 base:attributeBase o m X.env (eval o X.env)=eval o X.env
 few:((backTo gf (starEach [e,f] X.env)).all (λx=> !x.1)&&(backToKw gf (keywordEach [] X.env)).all (λx=>x.1.isSome)
  &&decide (([e,f]:List Expr).length+([]:List Keyword).length+(if([]:List Keyword).isEmpty then 0 else 1)<30))=true
 line:(apos.endLine==gf.line)=true
 trees:backTo gf (starEach [e,f] X.env)=[(false,eval e X.env),(false,eval f X.env)]
def IsD(H:Hp)(a:aj):Prop:=(∃kvs,Rd H a (.dK kvs))\/∃kvs,Rd H a (.dT kvs)
theorem QQ{X:Cx}{pins:List (aj×Obj)}{σ:St}{H:Hp}{s:ah}{a:aj}(I:Inv X pins σ H s)(d:IsD H a):
  s.TypeIs (.ref a) "dict"/\(∀b,Value.ref a=.ref b->∃ob,s.heap.get? b=some ob/\ob.dict=none)/\(a==sysModules)=false:=by
 rcases d with ⟨kvs,e⟩|⟨kvs,e⟩
 ·obtain⟨_,hd,vs,_,dd⟩:=rg I.dw e;refine⟨dd.typeIs,λb q=> ?_,hd⟩;cases q;obtain⟨ob,_,_,h1,h2,_⟩:=dd;exact⟨ob,h1,h2.2.1⟩
 ·obtain⟨_,hd,xs,_,dd⟩:=AO I.dw e;refine⟨dd.typeIs,λb q=> ?_,hd⟩;cases q;obtain⟨ob,_,_,h1,h2,_⟩:=dd;exact⟨ob,h1,h2.2.1⟩
section
variable {X:Cx} {pins:List (aj×Obj)} {σ:St} {H:Hp} {s:ah} {a:aj} {y d:V} {u r:af} {o:Option V} {A:bK} {E:af->ah->Prop}
theorem Yq{Q:af->ah->Prop}(hu:A.units+1<cLine)(I:Inv X pins σ H s)(g:yg H a y o)(ry:RelV y u)(rd:RelV d r)(h:∀w' s',Inv X pins σ H s'->RelV (o.getD d) w'->Q w' s'):
  wpAny (model X.prog X.w) A (call (.builtin "dict.get") [.ref a,u,r]) Q E s:=by
 rcases g with ⟨kvs,k,e,ey,l⟩|⟨kvs,k,b,e,ey,eb,l⟩
 ·subst ey;obtain⟨z,hd,vs,rel,dd⟩:=rg I.dw e;refine gB yD dd.typeIs entry_dict_get (PySem.F.args_dict_get_3 _ _ _) (meets_dict_get_default (eJ X.prog X.w) a (AE ry) hd r) ⟨_,dd.mapOf,h _ _ (I.tok _) ?_⟩;rw[l];exact(rel.val k).getD rd
 ·subst ey;cases(show u=Value.ref b from ry);obtain⟨z,hd,xs,rel,dd⟩:=AO I.dw e;refine gB yD dd.typeIs entry_dict_get (PySem.F.args_dict_get_3 _ _ _) (meetsH_dict_get_default (tupleKind (eJ X.prog X.w)) a b hd r) ⟨mX hu,k,xs,xQ I.dw eb,dd,h _ _ (I.tok _) ?_⟩;rw[l];exact(rel.val k).getD rd
end
def Wy(td ty tx:TE):TE:=λσ H Q=>td σ H λx H1=>∃a,x=.ref a/\IsD H1 a/\ty σ H1 λy H2=>tx σ H2 λz H3=>∃o,yg H3 a y o/\Q (o.getD z) H3
section
variable {X:Cx} {o e f:Expr} {apos gf:Pos} {td ty tx:TE}
theorem PX(hu:X.A.units+1<cLine)(ho:PE X o td)(he:PE X e ty)(hf:PE X f tx)(m:M2 X o "get" apos e f gf):PE X (.Call (.Attribute o "get" apos) [e,f] [] gf) (Wy td ty tx):=by
 intro pins s σ H Q I h;refine wpAny_Call_method m.base m.few m.line PySem.F.plainAttrs_dict yD PySem.F.type_dict_get (eZ (ho pins s σ H _ I h) λu s1 ⟨x,H1,I1,rx,a,ex,d,q1⟩=> ?_);subst ex;obtain rfl:u=Value.ref a:=rx;obtain⟨t1,t2,_⟩:=QQ I1 d;refine⟨t1,t2, ?_⟩;rw[m.trees];refine eY U (kJ (gm (eZ (he pins s1 σ H1 _ I1 q1) λiv s2 ⟨y,H2,I2,ry,q2⟩=>
  gm (eZ (hf pins s2 σ H2 _ I2 q2) λfv s3 ⟨z,H3,I3,rz,ov,g,q3⟩=>jS ?_))))
 exact Yq hu I3 g ry rz λw' s4 I4 Po=>⟨_,H3,I4,Po,q3⟩
end
section
variable {X:Cx} {pins:List (aj×Obj)} {σ:St} {H:Hp} {s:ah} {a:aj} {kvs:List (Key×V)} {A:bK} {E:af->ah->Prop}
theorem Rx{Q:af->ah->Prop}(I:Inv X pins σ H s)(e:Rd H a (.dK kvs))(h:∀p s',H p=none->Inv X pins σ (upd H p (.dK kvs)) s'->Q (.ref p) s'):wpAny (model X.prog X.w) A (call (.type "dict") [.ref a]) Q E s:=by
 obtain⟨z,hd,vs,rel,dd⟩:=rg I.dw e;refine kt_call_dict hd dd (by rw[<-rel.length];exact z) λh' OB hs=> ?_
 refine h _ _ (I.dw.fresh (aE _)) (I.laid (a:=s.heap.objs.size) (o:=.dK kvs) (t':=s.toks) (λb q hq=> ?_) (aE _) (E3 z (fQ.mpr (cY (bc I.big))) rel OB));exact(hs.2 b (bc (aW hq))).trans (ai _ hq)
end
section
variable {X:Cx} {pins:List (aj×Obj)} {σ:St} {H:Hp} {s:ah} {a:aj} {y:V} {u:af} {A:bK} {E:af->ah->Prop}
end
end L2
namespace Att
open PySem PySem.W PySem.Calls PyProof.Rows
theorem yU{P:Params}{h:Heap}:∀(ns:List Int) (vs:List af),WellAll P h vs (ns.map WData.int)->IntsAre vs ns:=by
 intro ns
 induction ns with
 |nil=>
  intro vs w;rw[i_] at w
  cases w;exact .nil
 |cons n ns ih=>
  intro vs w;rw[aT] at w
  cases w with
  |cons a b=>
   cases a;exact .cons _ _ (ih _ b)
theorem MI{l:OpenLaw}{n:Nat}(hn:l.most=some n){P:Params}{h:Heap}{args:List WData}{vals:List af}
  (Uy:l.row.toRowW.claim.pre args=true)(hwl:WellAll P h vals args):
  ∃a vs ns,vals=[Value.ref a]/\args=[WData.list (ns.map WData.int)]/\h.get? a=some {cls:=.type "list",data:=.seq vs.toArray}/\IntsAre vs ns/\ns.length<=n:=by
 have hsh:WShape.hasAll [] args [.list .int]=true:=(pre_splitW Uy).1;have hc:l.pre.holds [] {args:=args}=true:=(pre_splitW Uy).2;obtain⟨d,r,rfl,h1,h2⟩:=hasAllW_cons hsh;obtain rfl:=hasAllW_nil h2;obtain⟨xs,rfl,h3⟩:=hasW_list h1;obtain⟨ns,rfl⟩:=items_int h3;have hlen:ns.length<=n:=by
  unfold OpenLaw.pre at hc
  have h4:(WTm.not (.lt (.lit (.int (n:Int))) (.len (.arg 0)))).holds [] {args:=[.list (ns.map .int)]}=true:=by
   have h4:=(holds_andW hc).1;rw[hn] at h4
   exact h4
  have h5:=condW_of h4 (w_not (w_lt w_lit (w_len_list (w_arg rfl))));rw[ao] at h5
  refine fX λq=> ?_;have q':(n:Int)<((ns.length:Nat):Int):=by omega
  first
   |(rw[bf q'] at h5;exact absurd h5 (by decide))
   |(simp at h5;omega)
 cases hwl with
 |cons w1 w2=>
  cases w2;cases w1 with
  |list ho Yh=>exact⟨_,_,ns,U,U,ho,yU ns _ Yh,hlen⟩
theorem MT(l:OpenLaw)(args:List WData):l.row.toRowW.claim.post args (.bool true) args=true:=
 postW_of (r:=l.row.toRowW) (X:=(true==true))
  (show WShape.has [] (.bool true) .bool=true by first|rfl|decide|simp[WShape.has,WShape.arms,WShape.armsAll])
  (show(WTm.eq .res (.lit (.bool true))).value [] {args:=args,res:=some (.bool true),after:=args}=some (.bool (true==true)) from w_eq_bool (w_res rfl) w_lit) rfl
section
variable {prog:bo} {w:World} {A:bK} {E:af->ah->Prop} {s:ah} {K:Frag}
theorem UU{R:Result->ah->Prop}{name qual:Str}{params:Arguments}{body:List Stmt}{scope:Scope}{dV kV doc pm dQ ct oc:af}{an od:Option aj}{Ov:Array (Option af)}{f:aj}{args:Args}{binds:List (Str×af)}
  (X:K.In s.heap)(Yc:s.heap.NoLimit)(ho:K.lookup f=some ⟨oc,od,.func (fnOf name qual params body scope dV kV doc pm an dQ ct),Ov⟩)(LP:codeIn K dQ qual=true)(ZaG:A.depth<recursionLimit)
  (Q_:BindsTo s (fnOf name qual params body scope dV kV doc pm an dQ ct) args binds)
  (QW:(binds.all λy=>scope.names.lookup y.1==some .local||scope.names.lookup y.1==some .cell)=true)
  (h:∀s₁,InCallC s s.heap.objs.size (bindL (envOfC qual scope s.heap.objs.size f dQ).kindOf binds λ_=>none) (cellsFrom (s.heap.objs.size+1) scope.names [])
    (bindC (envOfC qual scope s.heap.objs.size f dQ).kindOf binds λ_=>none) s₁->
   wpAny (model prog w) (A.deeper (envOfC qual scope s.heap.objs.size f dQ)) (execs body (envOfC qual scope s.heap.objs.size f dQ))
    (λfl s'=>R (.ok (.ret (match fl with| .ret v=>v|_=> .none))) s')
    (λe s'=>wpAny (model prog w) (A.deeper (envOfC qual scope s.heap.objs.size f dQ)) (leaving (envOfC qual scope s.heap.objs.size f dQ) e) (λ_ WI=>R (.error e) WI) (λe' WI=>R (.error e') WI) s') s₁)
  (hco:scope.isCoroutine=false) (Zde:scope.isGenerator=false) (hk:scope.kind=.function):codeAny (model prog w) A (.call (.ref f) args) R s:=by
 refine codeAny_call_function ZaG (X _ _ ho) U hco Zde U (codeRec_of X LP) (Q_ _ _ _ _ ?_);refine wpAny_newFunctionEnv_cells hk (kindsX QW _) λenv he s₁ x=> ?_;subst he;exact⟨Yc.keeps x.toInCall.keep,codeAny_func (h s₁ x)⟩
end
end Att
namespace L2
open PySem PySem.Spec PyProof.Rows
theorem Cg:∀{vs:List af} {ns:List Int},IntsAre vs ns->Vals (ns.map V.int) vs
 |_,_,.nil=> .nil
 |_,_,.cons n t h=> .cons ⟨t,rfl⟩ (Cg h)
def Zbd(H:Hp):Prop:=∀b,H b=none\/∃o xs,H b=some (.pM o (.lst xs))
theorem QA{P:bo}{w:World}{K:au}{mg mb:Str->Option af}{CX:Dn}{k:Nat}{fa a:aj}{fd:bC}{x:Str}{sp:Sp}{s₁:ah}{vs:List af}{ns:List Int}
  (KX:K.In s₁.heap)(hns:s₁.heap.Ns mainGlobals mg)(hb:s₁.heap.Ns builtinsNs mb)(hbb:∀x:Str,x≠"__name__"->mb x=bootBuiltins x)(Yc:s₁.heap.NoLimit)(hg:s₁.gens= #[])
  (ha:s₁.heap.get? a=some {cls:=.type "list",data:=.seq vs.toArray})(hi:IntsAre vs ns)(hl:ns.length<=sizeLine)(hr:gF k callerA)
  (F:∀base:Heap,K.In base->base.Ns mainGlobals mg->dJ P w K mg base CX k fa fd [x] sp)(Q_:∀(s:ah) (u:af),BindsTo s fd ⟨[u],[]⟩ [(x,u)])
  (VB:∀H:Hp,Zbd H->cK K H a (ns.map V.int)->sp [.ref a] H (λv _=>v=.bl true) λ_ _ _=>False)
  (hCX:∀H e s',CX [] H s₁ (λ_ _ _=>False) e s'->False):
  codeAny (model P w) callerA (.call (.ref fa) ⟨[.ref a],[]⟩) (λr s'=>r=.ok (.ret (.bool true))/\OldK s₁.heap s'.heap/\s'.os=s₁.os/\AllBare s'.gens) s₁:=by
 have rv:=Cg hi;have ZcN:=hi.length;have core:∀H:Hp,Zbd H->cK K H a (ns.map V.int)->sT P w H s₁.heap->(∀b,H b≠none->b=a)->(H a≠none->K.lookup a=none)->
   codeAny (model P w) callerA (.call (.ref fa) ⟨[.ref a],[]⟩) (λr s'=>r=.ok (.ret (.bool true))/\OldK s₁.heap s'.heap/\s'.os=s₁.os/\AllBare s'.gens) s₁:=by
  intro H hO hS dw hA hK;have Me:∀{b:aj} {o:Obj},s₁.heap.get? b=some o->H b=none->(EU s₁.heap H).get? b=some o:=λe n=>QY e n;have noA:∀{b:aj} {o:Obj} {es:Array DictEntry} {ep:Nat},s₁.heap.get? b=some o->o.data=.dict es ep->H b=none:=λ{b o es ep} e d=>by
   cases q:H b with
   |none=>rfl
   |some u=>
    have e':b=a:=hA b (by rw[q];simp)
    subst e';rw[ha] at e;cases e
    have d':Data.seq vs.toArray _=Data.dict es ep:=d;cases d'
  have nsK:∀{b:aj} {m:Str->Option af},s₁.heap.Ns b m->(EU s₁.heap H).Ns b m:=λ{b m} ⟨o,es,ep,e,d,r⟩=>⟨o,es,ep,Me e (noA e d),d,r⟩
  have hKb:K.In (EU s₁.heap H):=λb o e=>Me (KX b o e) (by
   cases q:H b with
   |none=>rfl
   |some u=>
    have e':b=a:=hA b (by rw[q];simp)
    subst e';rw[hK (by rw[q];simp)] at e;cases e)
  have hM:Mod K mg (EU s₁.heap H):=⟨hKb,nsK hns,⟨mb,nsK hb,hbb⟩,let ⟨mc,h1,h2⟩:=Yc;⟨mc,nsK h1,h2⟩⟩
  have e0:Bb P w K mg (EU s₁.heap H) callerA [] s₁ H:=⟨rfl,hM,λb o e=>TL e,FK (NO _ _),trivial,λb hb=>absurd (show b∈([]:List aj) from hb) (by simp),dw,.of_eq hg⟩
  refine gA ((F _ hKb (nsK hns)).run callerA [] s₁ H ⟨[.ref a],[]⟩ [.ref a] [.ref a] _ _ hr e0 (Q_ s₁ (.ref a)) (.cons U .nil) (VB H hO hS)) λr s' h=> ?_;cases r with
  |error e=>exact(hCX H e s' h).elim
  |ok fl=>
   cases fl with
   |next=>exact False.elim h
   |brk=>exact False.elim h
   |cont=>exact False.elim h
   |ret u=>
    obtain⟨v,H',os,bare,un,Zc3,r',q⟩:=h;have q':v=.bl true:=q;subst q';obtain rfl:u=Value.bool true:=r';refine⟨U,OldK.of_keep λb o e=> ?_,os,bare⟩;cases q:H b with
    |none=>exact un.keep b o e q (by intro z;exact absurd (show b∈([]:List aj) from z) (by simp)) (by simp)
    |some u=>
     rcases hO b with z|⟨ob,xs,z⟩
     ·rw[q] at z;cases z
     ·have z2:=un.oA b ob _ z;obtain⟨e1,_⟩:=dw b _ z;obtain⟨e2,_⟩:=Zc3 b _ z2;rw[e] at e1;cases e1
      exact e2
 cases hk:K.lookup a with
 |some o=>
  have e:=KX a o hk;rw[ha] at e
  cases e;refine core (λ_=>none) (λ_=> .inl U) (.inr ⟨_,vs.toArray,_,hk,U,U,U,by rw[aL,ZcN];exact hl,by simpa using rv⟩) (λb u z=>by have z':(none:Option HO)=some u:=z;cases z') (λb z=>absurd U z) λz=>absurd U z
 |none=>
  refine core (λb=>if b=a then some (.pM {cls:=.type "list",data:=.seq vs.toArray} (.lst (ns.map V.int))) else none) (λb=> ?_) (.inl (.inr ⟨{cls:=.type "list",data:=.seq vs.toArray},bg U⟩)) (λb u z=> ?_) (λb z=> ?_) λ_=>hk
  ·by_cases hb:b=a
   ·exact .inr ⟨_,_,bg hb⟩
   ·exact .inl (aX hb)
  ·by_cases hb:b=a
   ·have z':=(bg hb).symm.trans z;cases z';subst hb;exact⟨ha,by rw[ao];exact hl,vs,_,rv,ha⟩
   ·have z':=(aX hb).symm.trans z;cases z'
  ·by_cases hb:b=a
   ·exact hb
   ·exact absurd (aX hb) z
def inClass(s:Stmt)(j:Nat):Stmt:=match s with
 | .ClassDef _ _ _ body _ _ _ _ _ _ _=>body.getD j (.Pass ⟨0,0,0,0⟩)
 |_=> .Pass ⟨0,0,0,0⟩
def tU(s:Stmt):Arguments:=match s with
 | .FunctionDef _ a _ _ _ _ _ _ _ _=>a
 |_=>{posonlyargs:=[],args:=[],vararg:=none,kwonlyargs:=[],kw_defaults:=[],kwarg:=none,defaults:=[]}
def lT(s:Stmt):List Stmt:=match s with
 | .FunctionDef _ _ b _ _ _ _ _ _ _=>b
 |_=>[]
def bG(s:Stmt):Scope:=match s with
 | .FunctionDef _ _ _ _ _ _ sc _ _ _=>sc
 |_=>{kind:=.function,names:=[],isGenerator:=false,isCoroutine:=false}
abbrev c8:Dn:=λ_ _ _ _ _ _=>False
abbrev E0:XK:=λ_ _ _=>False
theorem cq{X:Cx}:Passes c8 X E0:=λ_ _ _ _ _ _ _ h=>h.elim
structure je (K:au) (x qual:Str) (st:Stmt) (f:aj) (fd:bC):Prop where
 ex:∃(oc:af) (od:Option aj) (kV doc pm:af) (an:Option aj) (dQ ct:af) (Ov:Array (Option af)),
  fd=PySem.W.fnOf x qual (tU st) (lT st) (bG st) .none kV doc pm an dQ ct/\K.lookup f=some ⟨oc,od,.func fd,Ov⟩/\PySem.W.codeIn K dQ qual=true
 kp:keepIn K (.ref f)=true
section
variable {P:bo} {w:World} {K:au} {mg:Str->Option af} {base:Heap}
theorem je.ok{x qual:Str}{st:Stmt}{f:aj}{fd:bC}{N ps:List Str}{k:Nat}{sp:Sp}(F:je K x qual st f fd)(S:b_ N ps (bG st))(len:∀vs H Q E,sp vs H Q E->vs.length=ps.length)
  (G2:∀(dQ:af) (A:bK) (outer:List Env) (s:ah) (H:Hp) (vs:List V) (Q:VK) (E:XK),gF k (A.deeper (envOfC qual (bG st) s.heap.objs.size f dQ))->sp vs H Q E->
   ∃t,Fz (gp c8 P w K mg base N qual (bG st) f dQ A outer s H E).Vu (lT st) t/\t {nx:=λ_ H'=>Q .fR H',rt:=Q} (start N vs) H):dJ P w K mg base c8 (k+1) f fd ps sp:=by
 obtain⟨oc,od,kV,doc,pm,an,dQ,ct,Ov,rfl,lk,LP⟩:=F.ex;refine VH lk LP S len λA outer s H vs Q E hr VB=> ?_;obtain⟨t,h,q⟩:=G2 dQ A outer s H vs Q E hr VB;exact⟨t,h.Vu,q⟩
theorem je.binds{x qual:Str}{st:Stmt}{f:aj}{fd:bC}{ps:List Str}(F:je K x qual st f fd)
  (h:∀(kV doc pm:af) (an:Option aj) (dQ ct:af) (us:List af),us.length=ps.length->bindArgs (PySem.W.fnOf x qual (tU st) (lT st) (bG st) .none kV doc pm an dQ ct) ⟨us,[]⟩=pure (ps.zip us)):Binds K fd ps []:=by
 obtain⟨oc,od,kV,doc,pm,an,dQ,ct,Ov,rfl,lk,LP⟩:=F.ex;exact .all (h kV doc pm an dQ ct)
theorem EY{x qual:Str}{st:Stmt}{f:aj}{oc:af}{od an:Option aj}{Ov:Array (Option af)}{kV doc pm dQ ct:af}(l:K.lookup f=some ⟨oc,od,.func (PySem.W.fnOf x qual (tU st) (lT st) (bG st) .none kV doc pm an dQ ct),Ov⟩)
  (c:PySem.W.codeIn K dQ qual=true)(k:keepIn K (.ref f)=true):je K x qual st f (PySem.W.fnOf x qual (tU st) (lT st) (bG st) .none kV doc pm an dQ ct):=⟨⟨oc,od,kV,doc,pm,an,dQ,ct,Ov,rfl,l,c⟩,k⟩
end
theorem AI{A:bK}{k:Nat}(hr:gF k A):A.units+1<cLine:=rC (Nat.add_le_add_left (by decide:1<=64) _) hr.units
section
variable {X:Cx}
theorem pv(i:Nat){x:Str}{pos:Pos}(hN:X.N[i]? =some x:=by rfl)(hv:Vis X.env.scope x:=by first|exact Or.inl U|exact Or.inr (Or.inl U)|exact Or.inr (Or.inr U)) (hd:(x==("__debug__":Str))=false:=by decide)
  (LP:(x==("__classdict__":Str))=false:=by decide):PE X (.Name x pos) (yH i):=WX hN hv hd LP
theorem tW:iH X (.builtin "len") (λxs H Q=>∃a kvs,xs=[V.ref a]/\H a=some (.dK kvs)/\Q (.int kvs.length) H):=by
 intro pins s σ H xs us Q I r h;obtain⟨a,kvs,rfl,ha,q⟩:=h;obtain⟨u,rfl,ru⟩:=vals1 r;cases ru;exact Za0 I (.inl ha) λt s' I'=>⟨.int kvs.length,H,I',⟨t,U⟩,q⟩
end
theorem ic{A B:Prop}(h:B):if false=true then A else B:=by
 rw[aX bj];exact h
theorem jH{A B:Prop}(h:A):if true=true then A else B:=by
 rw[bg rfl];exact h
theorem gW{c A B:Prop} [Decidable c](h1:c->A)(h2:¬c->B):if c then A else B:=by
 by_cases h:c
 ·rw[bg h];exact h1 h
 ·rw[aX h];exact h2 h
theorem pF{c A B:Prop} [Decidable c](hc:c)(h:B):if(!decide c)=true then A else B:=by
 rw[bf hc];exact ic h
def bU(H H':Hp):Prop:=∀b o,H b=some o->H' b=some o
theorem bU.refl(H:Hp):bU H H:=λ_ _ h=>h
theorem bU.trans{H H1 H2:Hp}(a:bU H H1)(b:bU H1 H2):bU H H2:=λc o h=>b c o (a c o h)
theorem bU.seq{K:au}{H H':Hp}{a:aj}{xs:List V}(e:bU H H')(h:cK K H a xs):cK K H' a xs:=by
 rcases h with (h|⟨o,h⟩)|h
 ·exact .inl (.inl (e _ _ h))
 ·exact .inl (.inr ⟨o,e _ _ h⟩)
 ·exact .inr h
section
variable {κ:Type} [DecidableEq κ]
theorem Lx:∀{l:List κ} {k:κ},l.Nodup->¬k∈l->(l++[k]).Nodup
 |[],k,_,_=>by simp
 |a::r,k,h,hk=>by
  obtain⟨h1,h2⟩:=cD.mp h;show(a::(r++[k])).Nodup;refine cD.mpr ⟨λm=> ?_,Lx h2 λm=>hk (aJ.mpr (Or.inr m))⟩;rcases a8.mp m with q|q
  ·exact h1 q
  ·exact hk (aJ.mpr (Or.inl (dm.mp q).symm))
end
end L2
namespace L3
open PySem PySem.Spec PyProof.Rows L2
theorem up{α:Type}{M:Model}{A:bK}{t:Sem α}{Q:α->ah->Prop}{E:af->ah->Prop}{s:ah}(h:wpAny M A t Q (λ_ _=>False) s):wpAny M A t Q E s:=cF h (λ_ _ z=>z) λ_ _ z=>z.elim
theorem UT{prog:bo}{w:World}{A:bK}{E:af->ah->Prop}{s:ah}{l b:aj}{vs ws:List af}{Q:af->ah->Prop}(hl:s.heap.IsList l vs.toArray)(hb:s.heap.IsList b ws.toArray)
  (h:Q (.ref s.heap.objs.size) {s with heap:=s.heap.push {cls:=.type "list",data:=.seq (vs++ws).toArray}})(hz:vs.length+ws.length<=sizeLine):wpAny (model prog w) A (binaryOp .Add (.ref l) (.ref b)) Q E s:=by
 obtain⟨⟨c1,d1,t1,l1⟩,o1,k1,n1,e1⟩:=id hl;obtain⟨⟨c2,d2,t2,l2⟩,o2,k2,n2,e2⟩:=id hb;simp only at k1 e1 k2 e2
 subst k1 e1 k2 e2;refine concat_meets ⟨_,o1,U⟩ ⟨_,o2,U⟩ noFill_list_add seq_list_add PySem.F.slot_list_add PySem.F.entry_list_add (PySem.F.args_list_add_2 _ _) (list_addW l b vs.toArray ws.toArray n1 n2 d1 d2 l1 l2 (by simpa using hz)) ⟨o1,o2, ?_⟩;have ea:vs.toArray++ws.toArray=(vs++ws).toArray:=by simp
 rw[ea];exact h
section
variable {X:Cx}
theorem tK:vp X (binaryOp .Mult) (rI IntMulOk λi j=> .int (i*j)):=opI λ_ _ _ _ _ _ _ hc q=>mul_int q hc
def Zaf(K:au):R2:=λx y H Q=>∃l b xs zs,x=.ref l/\y=.ref b/\cK K H l xs/\cK K H b zs/\xs.length+zs.length<=sizeLine/\∀p,H p=none->Q (.ref p) (upd H p (.lst (xs++zs)))
theorem tL:vp X (binaryOp .Add) (Zaf X.K):=by
 intro pins s σ H x y v u Q I rx ry h;obtain⟨l,b,xs,zs,rfl,rfl,h1,h2,hz,q⟩:=h;cases rx;cases ry;obtain⟨its,r,pl,_⟩:=I.list h1;obtain⟨QO,r2,Vr,_⟩:=I.list h2;obtain⟨m,F⟩:=I.fr;have e1:=r.length;have e2:=r2.length;refine UT pl.isList Vr.isList ?_ (by omega);exact⟨.ref _,_,I.XA (t':=s.toks) (r.append r2) (by rw[bb];omega),U,q _ I.fresh⟩
def Its(z:Str):It:=⟨λi _=>i<z.length,λi H x H'=>H'=H/\∃c,z.cps[i]? =some c/\x=.str ⟨#[c]⟩,λi _=>z.length<=i⟩
def Zaz(tl:TE):TI:=λσ H R=>tl σ H λx H1=>∃z,x=.str z/\R (Its z) H1
theorem Ij{z:Str}{i:Nat}(h:i<z.length):∃c,z.cps[i]? =some c:=⟨_,eR h⟩
theorem Ik{z:Str}{i:Nat}(h:z.length<=i):z.cps[i]? =none:=Array.getElem?_eq_none h
theorem IX{P:bo}{w:World}{K:au}{tg:Expr}(z:Str)(t:Tok)(it:aj):Turn P w K tg (Its z) [it] it (λi h=>h.IsStrIter it "str_ascii_iterator" z t i) where
 mem:=by simp
 obj:=λi h st b hb=>by
  have e:b=it:=by simpa using hb
  subst e;obtain⟨o,e,c,d⟩:=st;exact⟨o,e,λv q=>by rw[d] at q;cases q⟩
 keep:=λi h h' st k=>by
  obtain⟨o,e,r⟩:=st;exact⟨o,k it (by simp) o e,r⟩
 item:=by
  intro X hP hw hK hc i pins s σ H E I hf st hg;subst hP hw hK;obtain⟨c,hx⟩:=Ij (z:=z) hg;obtain⟨f0,f1,f2,f3,f4,f5⟩:=hf it (by simp);refine wpAny_pyNext_ascii_item st hx λh' yI sb=> ?_;have I1:Inv X pins σ H {s with heap:=h',toks:=s.toks+1}:=I.turned (λb o hb e=>(sb.2 b hb).trans e) f0 f1 f3 f4 f5;obtain⟨o,e,cl,d⟩:=id yI;exact⟨_,U,CY (s:={s with heap:=h',toks:=s.toks+1}) e cl d (by decide) ⟨.str ⟨#[c]⟩,H,I1,⟨_,U⟩,⟨U,c,hx,U⟩,yI,λb hb=>(hf b hb).1⟩⟩
 done:=by
  intro X hP hw hK hc i pins s σ H E I hf st hg;subst hP hw hK;obtain⟨f0,f1,f2,f3,f4,f5⟩:=hf it (by simp);exact wpAny_pyNext_ascii_end (I.ok.hd hc) st (Ik hg) λh' eb=>⟨U,I.turned (t':=s.toks) (λb o hb e=>eb b o hb e) f0 f1 f3 f4 f5⟩
 self:=λ_ _ _ _ _ st h=>wpAny_pyIter_striter_ascii st h
theorem Mu{P:bo}{w:World}{K:au}{tg:Expr}(z:Str)(t:Tok)(it:aj):Turn P w K tg (Its z) [it] it (λi h=>h.IsStrIter it "str_iterator" z t i) where
 mem:=by simp
 obj:=λi h st b hb=>by
  have e:b=it:=by simpa using hb
  subst e;obtain⟨o,e,c,d⟩:=st;exact⟨o,e,λv q=>by rw[d] at q;cases q⟩
 keep:=λi h h' st k=>by
  obtain⟨o,e,r⟩:=st;exact⟨o,k it (by simp) o e,r⟩
 item:=by
  intro X hP hw hK hc i pins s σ H E I hf st hg;subst hP hw hK;obtain⟨c,hx⟩:=Ij (z:=z) hg;obtain⟨f0,f1,f2,f3,f4,f5⟩:=hf it (by simp);refine wpAny_pyNext_wide_item st hx λh' yI sb=> ?_;have I1:Inv X pins σ H {s with heap:=h',toks:=s.toks+1}:=I.turned (λb o hb e=>(sb.2 b hb).trans e) f0 f1 f3 f4 f5;obtain⟨o,e,cl,d⟩:=id yI;exact⟨_,U,CY (s:={s with heap:=h',toks:=s.toks+1}) e cl d (by decide) ⟨.str ⟨#[c]⟩,H,I1,⟨_,U⟩,⟨U,c,hx,U⟩,yI,λb hb=>(hf b hb).1⟩⟩
 done:=by
  intro X hP hw hK hc i pins s σ H E I hf st hg;subst hP hw hK;obtain⟨f0,f1,f2,f3,f4,f5⟩:=hf it (by simp);exact wpAny_pyNext_wide_end (I.ok.hd hc) st (Ik hg) λh' eb=>⟨U,I.turned (t':=s.toks) (λb o hb e=>eb b o hb e) f0 f1 f3 f4 f5⟩
 self:=λ_ _ _ _ _ st h=>wpAny_pyIter_striter_wide st h
theorem WV{tg l:Expr}{tl:TE}(hl:PE X l tl):PI X tg l (Zaz tl):=by
 intro pins s σ H R I h;refine eZ (hl pins s σ H _ I h) λv s1 ⟨x,H1,I1,r1,q1⟩=> ?_;obtain⟨z,rfl,q⟩:=q1;obtain⟨t,rfl⟩:=r1;have fp:∀(o:Obj),∀b∈[s1.heap.objs.size],A8 X pins H1 b:=λo b hb=>by
  have e:b=s1.heap.objs.size:=by simpa using hb
  subst e;exact I1.BS (aE _) (I1.dw.fresh (aE _))
 cases ha:z.cps.all (· <128)
 ·exact wpAny_pyIter_wide ha ⟨s1.heap.objs.size,[s1.heap.objs.size],_,_,H1,U,I1.kept (t':=s1.toks) λb o e=>ai _ e,Mu z t _,⟨_,aM _ U,U,U⟩,fp ⟨.none,none,.fields #[], #[]⟩,q⟩
 ·exact wpAny_pyIter_ascii ha ⟨s1.heap.objs.size,[s1.heap.objs.size],_,_,H1,U,I1.kept (t':=s1.toks) λb o e=>ai _ e,IX z t _,⟨_,aM _ U,U,U⟩,fp ⟨.none,none,.fields #[], #[]⟩,q⟩
def Zcv:V->Option Int->Option Int->Hp->VK->Prop:=λx lo hi H Q=>∃z,x=.str z/\z.length<=sizeLine/\Q (.str (Txt.slice z lo hi)) H
theorem DG:SlR X Zcv:=by
 intro pins s σ H x v vl vu lo hi sl Q I rx hs pl pu h;obtain⟨z,rfl,hz,q⟩:=h;obtain⟨t,rfl⟩:=rx;have fin:∀t' k,EP X pins σ Q (.str (Txt.slice z lo hi) t') {s with toks:=k}:=λt' k=>⟨.str _,H,I.tok _,⟨_,rfl⟩,q⟩
 refine⟨"str",_,F.slot_str_getitem.lookup,vv _ _ _, ?_⟩;cases pl with
 |none=>
  cases pu with
  |none=>exact wpAny_getItem_str_slice (l:=none) (u:=none) (st:=none) hs U (post_val_or_str ⟨bD (Txt.slice_le z _ _) hz,fin⟩)
  |int j uj=>exact wpAny_getItem_str_slice (l:=none) (u:=some (j,uj)) (st:=none) hs U (post_val_or_str ⟨bD (Txt.slice_le z _ _) hz,fin⟩)
 |int i ui=>
  cases pu with
  |none=>exact wpAny_getItem_str_slice (l:=some (i,ui)) (u:=none) (st:=none) hs U (post_val_or_str ⟨bD (Txt.slice_le z _ _) hz,fin⟩)
  |int j uj=>exact wpAny_getItem_str_slice (l:=some (i,ui)) (u:=some (j,uj)) (st:=none) hs U (post_val_or_str ⟨bD (Txt.slice_le z _ _) hz,fin⟩)
theorem uI:∀{bs:List Bool} {us:List af},Vals (bs.map V.bl) us->LSm.BoolsAre us bs
 |[],us,r=>by
  rw[i_] at r
  cases r;exact .nil
 |b::bs,us,r=>by
  rw[aT] at r
  cases r with
  |cons r1 r2=>
   cases(show _=Value.bool b from r1);exact .cons b (uI r2)
theorem AV(hc:X.calm=true):iH X (.builtin "all") (λxs H Q=>∃(p:aj) (bs:List Bool),xs=[.ref p]/\cK X.K H p (bs.map V.bl)/\Q (.bl (bs.all id)) H):=by
 intro pins s σ H xs us Q I r h;obtain⟨p,bs,rfl,hq,q⟩:=h;obtain⟨u,rfl,rx⟩:=vals1 r;cases rx;obtain⟨its,r',pl,hz⟩:=I.list hq;have hb:=uI r';have nK:p<s.heap.objs.size:=pl.lt;refine call_all_walk (fk pl.isList ?_);refine⟨s.heap.objs.size,[s.heap.objs.size,p],[s.heap.objs.size],its.toArray.size,_,_,λi=>(bs[i]?).getD true,U,Walks.list (A:=X.A.in1) (I.ok.hd hc) _ p (bc nK) its.toArray,
  ⟨⟨_,aM _ rfl,rfl,rfl⟩,pl.isList.push _⟩,λi v s' Q' E' hP hQ=> ?_,λh' tk hk=> ?_⟩
 ·obtain⟨bit,Yo,rfl⟩:=hb.get i v (by simpa using hP);simp only [Yo,Option.getD_some] at hQ
  exact dX hQ
 ·have e:((List.range its.toArray.size).all λi=>(bs[i]?).getD true)=bs.all id:=by
   rw[aL,hb.length];exact LSm.range_all bs
  rw[e];exact⟨.bl (bs.all id),H,I.kept (LSm.kept_iter hk),U,q⟩
def OR:V->Option af
 | .ty n=>some (.type n)
 | .ref a=>some (.ref a)
 |_=>none
theorem gK:iH X (.builtin "isinstance") (λxs H Q=>∃x y t c b,xs=[x,y]/\OR y=some c/\pL X.K H x t/\PySem.W.kitOne X.K t c=some b/\Q (.bl b) H):=by
 intro pins s σ H xs us Q I r h;obtain⟨x,y,t,c,b,rfl,hy,ty,e,q⟩:=h;obtain⟨u,u2,rfl,rx,ry⟩:=vals2 r;have ec:u2=c:=by
  cases y with
  |ty n=>cases hy;exact ry
  |ref a=>cases hy;exact ry
  |_=>cases hy
 subst ec;exact NL I rx ty e λtk=>⟨.bl b,H,I.tok _,U,q⟩
end
def Ext:L2.St->L2.St->Prop
 |[],[]=>True
 |none::a,_::b=>Ext a b
 |some v::a,w::b=>w=some v/\Ext a b
 |_,_=>False
theorem Ext.len:∀{a b:L2.St},Ext a b->a.length=b.length
 |[],[],_=>rfl
 |none::a,_::b,h=>by
  have h:Ext a b:=h;simp[h.len]
 |some v::a,w::b,h=>by
  have h:w=some v/\Ext a b:=h;simp[h.2.len]
 |[],_::_,h=>h.elim
 |none::_,[],h=>h.elim
 |some _::_,[],h=>h.elim
theorem Ext.get:∀{a b:L2.St},Ext a b->∀(i:Nat) (v:V),a[i]? =some (some v)->b[i]? =some (some v)
 |[],[],_,i,v,e=>by simp at e
 |none::a,_::b,h,i,v,e=>by
  have h:Ext a b:=h;cases i with
  |zero=>simp at e
  |succ i=>simpa using h.get i v (by simpa using e)
 |some z::a,w::b,h,i,v,e=>by
  have h:w=some z/\Ext a b:=h;cases i with
  |zero=>
   have e':z=v:=by simpa using e
   subst e';rw[h.1]
   rfl
  |succ i=>simpa using h.2.get i v (by simpa using e)
 |[],_::_,h,_,_,_=>h.elim
 |none::_,[],h,_,_,_=>h.elim
 |some _::_,[],h,_,_,_=>h.elim
def BR(own:List Str)(fr:List (Str×Nat))(σ:L2.St):L2.St:=own.map (λ_=>none)++fr.map λp=>σ.getD p.2 none
def t_(own:List Str)(fr:List (Str×Nat)):List Str:=own++fr.map (·.1)
def ip(X:Cx)(N:List Str)(scope:Scope)(cl:List (Str×aj))(C:aj)(s:ah)(H:Hp)(fp:List aj):Cx:=
 {X with N:=N,s₀:=s,H₀:=H,env:=compEnvC scope cl C X.env,outer:=X.stack,stack:=X.stack,ex:=fp,fn:=λ_=>false,pn:=[],xe:=λ_ _=>False}
def Ka:Option NameKind->Bool
 |some .cell=>true
 |some .free=>true
 |_=>false
theorem EN{o:Option NameKind}(h:Ka o=true):o=some .cell\/o=some .free:=by
 cases o with
 |none=>cases h
 |some k=>cases k<;>first|exact .inl U|exact .inr U|cases h
def KP(X:Cx)(scope:Scope):List (Str×Nat)->Prop
 |[]=>True
 |p::r=>(X.N[p.2]? =some p.1/\Ka (X.env.scope.names.lookup p.1)=true/\Ka ((relabel scope X.env).names.lookup p.1)=true)/\KP X scope r
theorem KP.mem{X:Cx}{scope:Scope}:∀{fr:List (Str×Nat)},KP X scope fr->∀p∈fr,X.N[p.2]? =some p.1/\Ka (X.env.scope.names.lookup p.1)=true/\Ka ((relabel scope X.env).names.lookup p.1)=true
 |[],_,p,hp=>by simp at hp
 |q::r,h,p,hp=>by
  have h:_/\KP X scope r:=h;rcases aJ.mp hp with rfl|ZaK
  ·exact h.1
  ·exact h.2.mem p ZaK
def KR(X:Cx):List (Str×aj)->Prop
 |[]=>True
 |p::r=>X.env.cells.lookup p.1=some p.2/\KR X r
theorem KR.get{X:Cx}:∀{cl:List (Str×aj)},KR X cl->∀x c,cl.lookup x=some c->X.env.cells.lookup x=some c
 |[],_,x,c,e=>by simp at e
 |(n,a)::r,h,x,c,e=>by
  have h:X.env.cells.lookup n=some a/\KR X r:=h
  by_cases hx:x=n
  ·subst hx;simp only [List.lookup_cons,cX] at e
   cases e;exact h.1
  ·have hb:(x==n)=false:=by simpa using hx
   simp only [List.lookup_cons,hb] at e
   exact h.2.get x c e
def vc(scope:Scope)(env:Env)(cl:List (Str×aj)):Bool:=
 scope.kind==.function&&scope.names.all (λy=>y.2 !=.cell)&&scope.names.all (λy=>y.2 !=.local||scope.names.lookup y.1==some .local)&&
 (relabel scope env).names.all (λy=> !Ka (some y.2)||(cl.lookup y.1).isSome)
def qX:TT:=λ_ H Q=>Q true H
def PTs(X:Cx)(ifs:List Expr)(t:TT):Prop:=
 ∀(pins:List (aj×Obj)) (s:ah) (σ:L2.St) (H:Hp) (Q:Bool->Hp->Prop),Inv X pins σ H s->t σ H Q->
  wpAny (model X.prog X.w) X.A (forIn ifs true λc r=>if r=true then do let ok<-isTrue c X.env (eval c X.env);pure (ForInStep.yield ok) else pure (ForInStep.yield r)) (TP X pins σ Q) X.xe s
theorem lN{X:Cx}:PTs X [] qX:=λ_ _ _ H _ I h=>wpAny_tests_nil ⟨H,I,h⟩
theorem tG{X:Cx}{c:Expr}{t:TT}(h:PT X c t):PTs X [c] t:=λpins s σ H Q I q=>wpAny_tests_one (h pins s σ H Q I q)
theorem UP{prog:bo}{w:World}{A:bK}{R:Result->ah->Prop}{s:ah}{elt tg iter:Expr}{ifs:List Expr}{scope:Scope}{pos:Pos}{it acc:af}{env:Env}(J:Nat->ah->Prop)
  (turn:∀n s,J n s->∀E:af->ah->Prop,wpAny (model prog w) A (pyNext it) (λr s₁=>(r=none/\R (.ok .next) s₁)\/∃v,r=some v/\
    wpAny (model prog w) A (letOwnedTupleGo tg it v) (λ_ s₂=>wpAny (model prog w) A (assign tg env v) (λ_ s₃=>
     wpAny (model prog w) A (forIn ifs true λc r=>if r=true then do let ok<-isTrue c env (eval c env);pure (ForInStep.yield ok) else pure (ForInStep.yield r)) (λok s₄=>
      (ok=true/\wpAny (model prog w) A (eval elt env) (λx s₅=>wpAny (model prog w) A (call (.builtin "list.append") [acc,x]) (λ_ s₆=>∃m,m<n/\J m s₆) E s₅) E s₄)\/
      (ok=false/\∃m,m<n/\J m s₄)) E s₃) E s₂) E s₁) E s)
  (n:Nat)(h:J n s):codeAny (model prog w) A (.compLoop (.ListComp elt [⟨tg,iter,ifs,0⟩] scope pos) 0 it acc env) R s:=by
 refine codeAny_loop U J (λn s hJ=> ?_) n h;show wpAny _ A ((compTurn (.ListComp elt [⟨tg,iter,ifs,0⟩] scope pos) 0 it acc env).onRaise (λx=>do noteFrame x env;theTreesLotGoes x)) _ _ s
 refine wpAny_noted ?_;rw[compTurn_list];refine aa (rl (aa (eZ (turn n s hJ _) λr s₁ h₁=> ?_)));rcases h₁ with ⟨rfl,h₁⟩|⟨v,rfl,h₁⟩
 ·exact aq h₁
 ·refine aa (eZ h₁ λ_ s₂ h₂=>aa (eZ h₂ λ_ s₃ h₃=>aa (eZ h₃ λok s₄ h₄=> ?_)));rcases h₄ with ⟨rfl,h₄⟩|⟨rfl,h₄⟩
  ·exact aa (aa (eZ h₄ λx s₅ h₅=>aa (eZ h₅ λ_ s₆ h₆=>aq (aq ⟨U,h₆⟩))))
  ·exact aq ⟨U,h₄⟩
def IE(J:It)(own:List Str)(fr:List (Str×Nat))(g:TG)(tc:TT)(te:TE)(σ:L2.St)(H1:Hp)(Q:VK):Prop:=∀D,H1 D=none->∃W:Nat->Nat->List V->Hp->Prop,(∃m,W 0 m [] (upd H1 D (.lst [])))/\
 ∀i m ys H2,W i m ys H2->H2 D=some (.lst ys)/\((J.stop i H2/\Q (.ref D) H2)\/(J.go i H2/\∃N:List V->Hp->Prop,(∀zs H',N zs H'->∃m',m'<m/\W (i+1) m' zs H')/\
  ∀x H',J.Sy i H2 x H'->g x (BR own fr σ) H' λσ3 H3=>Ext (BR own fr σ) σ3/\tc σ3 H3 λb H4=>if b=true then te σ3 H4 λv H5=>H5 D=some (.lst ys)/\ys.length<sizeLine/\N (ys++[v]) (upd H5 D (.lst (ys++[v]))) else N ys H4))
def F1(wi:TI)(own:List Str)(fr:List (Str×Nat))(g:TG)(tc:TT)(te:TE):TE:=λσ H Q=>wi σ H λJ H1=>IE J own fr g tc te σ H1 Q
theorem C8{X:Cx}{elt tg iter:Expr}{ifs:List Expr}{scope:Scope}{pos ZcT:Pos}{wi:TI}{g:TG}{tc:TT}{te:TE}{cl:List (Str×aj)}(own:List Str)(fr:List (Str×Nat))(hc:X.calm=true)(hi:PI X tg iter wi)
  (G1:closureFor scope X.env=pure cl)(Q1:KR X cl)(dw:vc scope X.env cl=true)(hfr:KP X scope fr)
  (hg:∀C s H fp,PG (ip X (t_ own fr) scope cl C s H fp) tg g)(ht:∀C s H fp,PTs (ip X (t_ own fr) scope cl C s H fp) ifs tc)(he:∀C s H fp,PE (ip X (t_ own fr) scope cl C s H fp) elt te)
  (hs:∀x,foldedSetIterable iter X.env x=pure x){pins:List (aj×Obj)}{s:ah}{σ:L2.St}{H:Hp}{Q:VK}{use:Option (af->Sem Unit)}{PQ:af->ah->Prop}(I:Inv X pins σ H s)(h:F1 wi own fr g tc te σ H Q)
  (Zdi:∀(s6:ah) (H5:Hp) (C D:aj) (m:Str->Option af),Inv X pins σ H5 s6->s6.heap.Ns C m->A8 X pins H5 C->Q (.ref D) H5->compPost (model X.prog X.w) X.A X.xe use PQ (.ref D) C (.ok .next) s6):
  wpAny (model X.prog X.w) X.A (comprehension (.ListComp elt [⟨tg,iter,ifs,0⟩] scope pos) scope X.env ZcT (newList []) false (eval iter X.env) use) PQ X.xe s:=by
 have ok1:scope.kind=.function:=by
  unfold vc at dw
  simp only [cZ,g6] at dw
  exact dw.1.1.1
 have ok2:∀y∈scope.names,y.2≠.cell:=by
  unfold vc at dw
  simp only [cZ,eP] at dw
  intro y hy
  simpa using dw.1.1.2 y hy
 have ok3:∀y∈scope.names,y.2=.local->scope.names.lookup y.1=some .local:=by
  unfold vc at dw
  simp only [cZ,eP] at dw
  intro y hy e;have:=dw.1.2 y hy
  simpa [e] using this
 have ok4:∀x,(relabel scope X.env).names.lookup x=some .cell\/(relabel scope X.env).names.lookup x=some .free->∃c,cl.lookup x=some c:=by
  unfold vc at dw
  simp only [cZ,eP] at dw
  intro x hx;have key:∀k,(relabel scope X.env).names.lookup x=some k->Ka (some k)=true->∃c,cl.lookup x=some c:=λk e hk=>by
   have:=dw.2 (x,k) (iK e);simp only [hk,Bool.not_true,Sw] at this
   exact uF.mp this
  rcases hx with e|e
  ·exact key _ e U
  ·exact key _ e U
 refine wpAny_comprehension_free (use:=use) U hs G1 ok1 ok3 ?_;refine eZ (hi pins s σ H _ I h) λv s1 h1=>eZ h1 λitv s2 h2=> ?_;obtain⟨it,fp,tn,J,H2,e,I2,T,F2,f2,hD⟩:=h2;subst e;have lt2:∀b∈fp,b<s2.heap.objs.size:=λb hb=>by
  obtain⟨o,e,_⟩:=T.obj _ _ F2 b hb;exact aW e
 refine wpAny_newObj_type (wpAny_newFunctionEnv ok2 (by intro y hy;simp at hy) (λh₁ hns₁ hsb₁=> ?_) ok1)
 obtain⟨W,⟨m0,w0⟩,turn⟩:=hD s2.heap.objs.size I2.fresh;have I3:Inv X pins σ (upd H2 s2.heap.objs.size (.lst [])) {s2 with heap:=s2.heap.push {cls:=.type "list",data:=.seq ([]:List af).toArray}}:=I2.XA (t':=s2.toks) .nil (bz _);have Ou:=T.keep 0 _ (s2.heap.push {cls:=.type "list",data:=.seq ([]:List af).toArray}) F2 λb hb o e=>ai _ e;have f3:∀b∈fp,A8 X pins (upd H2 s2.heap.objs.size (.lst [])) b:=λb hb=>⟨by rw[aY (bc (lt2 b hb))];exact(f2 b hb).1,(f2 b hb).2⟩
 generalize hs3:({s2 with heap:=s2.heap.push {cls:=.type "list",data:=.seq ([]:List af).toArray}}:ah)=s3 at I3
 have es3:s3.heap=s2.heap.push {cls:=.type "list",data:=.seq ([]:List af).toArray}:=by rw[<-hs3]
 have eg3:s3.gens=s2.gens:=by rw[<-hs3]
 have lt3:∀b∈fp,b<s3.heap.objs.size:=λb hb=>by rw[es3,vG];exact di (lt2 b hb)
 rw[<-es3] at Ou
 have hns:h₁.Ns s3.heap.objs.size (λx=>([]:List (Str×af)).reverse.lookup x):=by rw[es3];exact hns₁
 have k34:∀b o,s3.heap.get? b=some o->h₁.get? b=some o:=λb o e=>by
  have hsb:=hsb₁.extBut b o;rw[es3] at e
  exact hsb (bc (aW e)) (ai _ e)
 generalize hs4:({s3 with heap:=h₁,toks:=s3.toks+([]:List (Str×af)).length}:ah)=s4;have Zi:s4.heap=h₁:=by rw[<-hs4]
 have st4:tn 0 s4.heap:=T.keep 0 _ _ Ou λb hb o e=>by rw[Zi];exact k34 b o e
 have IY:Inv (ip X (t_ own fr) scope cl s3.heap.objs.size s3 (upd H2 s2.heap.objs.size (.lst [])) fp) [] (BR own fr σ) (upd H2 s2.heap.objs.size (.lst [])) s4:=by
  refine⟨⟨I3.ok.mod,ok1,I3.ok.glob,I3.ok.blt,aE _,λx y c e1 e2=>I3.ok.inj x y c (Q1.get x c e1) (Q1.get y c e2),λx hx=>ok4 x hx,(λx c z=>nomatch z),I3.ok.hd,I3.ok.frames,.inl U,
   λb hb=>⟨bc (lt3 b hb),λx c e=>(f3 b hb).2.2.2.2.1 x c (Q1.get x c e)⟩,I3.bs,bD I3.ok.OD I3.sz,λb o e hb=> ?_,λb hb z=> ?_,I3.stack,I3.y6⟩,
   by rw[<-hs4];rfl,by rw[<-hs4];exact I3.bare,Un.kept (by rw[Zi];exact k34),⟨_,by rw[Zi];exact hns,λi x v e1 e2 e3=> ?_⟩,λx c e=> ?_,I3.dw.fresh (aE _),λx c e=>I3.eL x c (Q1.get x c e),λp hp=>absurd hp (by simp[ip]),by rw[Zi];exact I3.dw.kept k34, ?_⟩
  ·rcases(f3 b hb).2.2.2.1 with z|z
   ·exact I3.ok.Ng b o e z
   ·exact absurd (b4 (aW (I3.ok.bs b o e).1) z) (dP _)
  ·rcases aJ.mp (I3.zU b z) with q|q
   ·exact(f3 b hb).2.1 q
   ·exact(f3 b hb).2.2.1 q
  ·have e1:(own++fr.map (·.1))[i]? =some x:=e1;have e2:(own.map (λ_=>(none:Option V))++fr.map λp=>σ.getD p.2 none)[i]? =some (some v):=e2;have hi:own.length<=i:=by
    refine fX λnK=> ?_;rw[List.getElem?_append_left (by simpa using nK),cj] at e2
    cases q:own[i]? with
    |none=>rw[q] at e2;cases e2
    |some a=>rw[q] at e2;cases e2
   rw[List.getElem?_append_right hi,cj] at e1
   rw[List.getElem?_append_right (by simpa using hi),cj,ao] at e2
   cases q:fr[i-own.length]? with
   |none=>rw[q] at e1;cases e1
   |some p=>
    rw[q] at e1 e2
    obtain rfl:p.1=x:=bR e1;have e2:σ.getD p.2 none=some v:=bR e2;have e4:σ[p.2]? =some (some v):=by
     rw[fJ] at e2
     cases z:σ[p.2]? with
     |none=>rw[z] at e2;cases e2
     |some a=>
      rw[z] at e2
      have e2:a=some v:=e2;rw[e2]
    obtain⟨n1,n2,n3⟩:=hfr.mem p (cI q);obtain⟨m,hn,hl⟩:=I3.loc;have vis:Vis X.env.scope p.1:=.inr (EN n2);obtain⟨u,r,l⟩:=hl p.2 p.1 v n1 e4 vis;refine⟨u,r, ?_⟩;rcases l with ⟨k,_⟩|⟨_,c,e,z⟩
    ·have k:X.env.scope.names.lookup p.1=some .local:=k;rw[k] at n2;cases n2
    ·obtain⟨c',e'⟩:=ok4 p.1 (EN n3);have e'':=Q1.get _ _ e';rw[e] at e''
     cases e'';obtain⟨o,ho,hd⟩:=z;exact .inr ⟨EN n3,c,e',o,by rw[Zi];exact k34 c o ho,hd⟩
  ·obtain⟨v,o,ho,hd⟩:=I3.cell x c (Q1.get x c e);exact⟨v,o,by rw[Zi];exact k34 c o ho,hd⟩
  ·simp[BR,t_,ip]
 have fY:∀{H':Hp} {s':ah},(∀b∈fp,H' b=none)->∀b∈fp,A8 (ip X (t_ own fr) scope cl s3.heap.objs.size s3 (upd H2 s2.heap.objs.size (.lst [])) fp) [] H' b:=λ{H' _} hn b hb=>
  ⟨hn b hb,bc (lt3 b hb),λz=>by
   rcases aJ.mp (I3.zU b z) with q|q
   ·exact(f3 b hb).2.1 q
   ·exact(f3 b hb).2.2.1 q,.inl hb,λx c e=>(f3 b hb).2.2.2.2.1 x c (Q1.get x c e),λp hp=>absurd hp (by simp[ip])⟩
 have loop:codeAny (model X.prog X.w) X.A (.compLoop (.ListComp elt [⟨tg,iter,ifs,0⟩] scope pos) 0 (.ref it) (.ref s2.heap.objs.size) (compEnvC scope cl s3.heap.objs.size X.env))
   (compPost (model X.prog X.w) X.A X.xe use PQ (.ref s2.heap.objs.size) s3.heap.objs.size) s4:=by
  refine UP (λn s'=>∃i ys H',Inv (ip X (t_ own fr) scope cl s3.heap.objs.size s3 (upd H2 s2.heap.objs.size (.lst [])) fp) [] (BR own fr σ) H' s'/\tn i s'.heap/\(∀b∈fp,H' b=none)/\W i n ys H') ?_ m0
   ⟨0,[],_,IY,st4,λb hb=>(f3 b hb).1,w0⟩
  rintro n s5 ⟨i,ys,H5,I5,YQ,Yj,w5⟩ E;obtain⟨d5,way⟩:=turn i n ys H5 w5;rcases way with ⟨stop,q⟩|⟨go,N,hN,step⟩
  ·refine eZ (T.done (ip X (t_ own fr) scope cl s3.heap.objs.size s3 (upd H2 s2.heap.objs.size (.lst [])) fp) U U U hc i [] s5 _ H5 E I5 (fY (s':=s5) Yj) YQ stop) λr s6 ⟨hr,I6⟩=> .inl ⟨hr, ?_⟩;obtain⟨m,hn,_⟩:=I6.loc;have I7:Inv X pins σ H5 s6:=I3.VN (s':=s6) (ch:=fp) I6.os I6.base I6.dw I6.bare (λb hb=>⟨(f3 b hb).2.2.2.1,(f3 b hb).2.1,(f3 b hb).2.2.2.2.1,(f3 b hb).2.2.2.2.2⟩);exact Zdi s6 H5 _ _ m I7 hn (I3.BS (aE _) I6.free) q
  ·refine eZ (T.item (ip X (t_ own fr) scope cl s3.heap.objs.size s3 (upd H2 s2.heap.objs.size (.lst [])) fp) U U U hc i [] s5 _ H5 E I5 (fY (s':=s5) Yj) YQ go) λr s6 ⟨u,hr,h6⟩=> .inr ⟨u,hr, ?_⟩;refine eZ h6 λ_ s7 ⟨x,H7,I7,r7,y7,st7,fr7⟩=> ?_;have I7':=I7.pinned (fY (s':=s7) fr7) (T.obj _ _ st7);refine up (eZ (hg _ _ _ _ _ s7 _ H7 x u _ I7' r7 (step x H7 y7)) λ_ s8 ⟨σ8,H8,I8,x8,q8⟩=> ?_);refine up (eZ (ht _ _ _ _ _ s8 σ8 H8 _ I8 q8) λok s9 ⟨H9,I9,q9⟩=> ?_)
   have again:∀{σ':L2.St} {H':Hp} {s':ah} {zs:List V},Inv (ip X (t_ own fr) scope cl s3.heap.objs.size s3 (upd H2 s2.heap.objs.size (.lst [])) fp) ([]++Af fp s7.heap) σ' H' s'->Ext (BR own fr σ) σ'->N zs H'->
     ∃m,m<n/\∃i ys H',Inv (ip X (t_ own fr) scope cl s3.heap.objs.size s3 (upd H2 s2.heap.objs.size (.lst [])) fp) [] (BR own fr σ) H' s'/\tn i s'.heap/\(∀b∈fp,H' b=none)/\W i m ys H':=λ{σ' H' s' zs} I' x' n'=>by
    obtain⟨m',hm,w'⟩:=hN zs H' n';refine⟨m',hm,i+1,zs,H',I'.rG.weak x'.len λj v e=>x'.get j v e,T.keep _ _ _ st7 λb hb o e=>(I'.pin (b,o) (aw _ (aw _ (qv hb e)))).1,λb hb=> ?_,w'⟩;obtain⟨o,e,_⟩:=T.obj _ _ st7 b hb;exact(I'.pin (b,o) (aw _ (aw _ (qv hb e)))).2.1
   cases ok with
   |false=>
    rw[aX bj] at q9
    exact .inr ⟨U,again I9 x8 q9⟩
   |true=>
    rw[bg rfl] at q9
    refine .inl ⟨U,up (eZ (he _ _ _ _ _ s9 σ8 H9 _ I9 q9) λy yo ⟨v10,KO,I10,r10,d10,z10,n10⟩=> ?_)⟩;refine up (eZ (gG _ yo σ8 KO (.ref s2.heap.objs.size) [v10] _ [y] (λ_ H'=>N (ys++[v10]) H') I10 U (.cons r10 .nil) ⟨s2.heap.objs.size,ys,v10,U,U,d10,z10,n10⟩) λ_ DY ⟨v11,Om,I11,_,n11⟩=> ?_);exact again I11 x8 n11
 have start:codeAny (model X.prog X.w) X.A (.compStart (.ListComp elt [⟨tg,iter,ifs,0⟩] scope pos) 0 (.ref it) (.ref s2.heap.objs.size) (compEnvC scope cl s3.heap.objs.size X.env))
   (compPost (model X.prog X.w) X.A X.xe use PQ (.ref s2.heap.objs.size) s3.heap.objs.size) s4:=codeAny_compStart_list loop (T.self _ _ _ _ _ st4 loop)
 exact start
theorem kF{X:Cx}{elt tg iter:Expr}{ifs:List Expr}{scope:Scope}{pos:Pos}{wi:TI}{g:TG}{tc:TT}{te:TE}{cl:List (Str×aj)}(own:List Str)(fr:List (Str×Nat))(hc:X.calm=true)(hi:PI X tg iter wi)
  (G1:closureFor scope X.env=pure cl)(Q1:KR X cl)(dw:vc scope X.env cl=true)(hfr:KP X scope fr)
  (hg:∀C s H fp,PG (ip X (t_ own fr) scope cl C s H fp) tg g)(ht:∀C s H fp,PTs (ip X (t_ own fr) scope cl C s H fp) ifs tc)(he:∀C s H fp,PE (ip X (t_ own fr) scope cl C s H fp) elt te)
  (hs:∀x,foldedSetIterable iter X.env x=pure x:=by intro _;rfl):PE X (.ListComp elt [⟨tg,iter,ifs,0⟩] scope pos) (F1 wi own fr g tc te):=by
 intro pins s σ H Q I h;rw[eval_ListComp];refine C8 (use:=none) own fr hc hi G1 Q1 dw hfr hg ht he hs I h λs6 H5 C D m I6 hn f q=>⟨m,hn,λh' hs'=> ?_⟩
 exact⟨.ref D,H5,I6.turned (t':=s6.toks) (λb o hb e=>(hs'.2 b hb).trans e) f.1 f.2.1 f.2.2.2.1 f.2.2.2.2.1 f.2.2.2.2.2,U,q⟩
theorem vX{X:Cx}{elt tg iter:Expr}{ifs:List Expr}{scope:Scope}{pos py WC:Pos}{y:Str}{i:Nat}{wi:TI}{g:TG}{tc:TT}{te:TE}{cl:List (Str×aj)}(own:List Str)(fr:List (Str×Nat))(hN:X.N.Nodup)(hy:X.N[i]? =some y)(hx:Loc X.env.scope y)(hc:X.calm=true)(hi:PI X tg iter wi)
  (G1:closureFor scope X.env=pure cl)(Q1:KR X cl)(dw:vc scope X.env cl=true)(hfr:KP X scope fr)
  (hg:∀C s H fp,PG (ip X (t_ own fr) scope cl C s H fp) tg g)(ht:∀C s H fp,PTs (ip X (t_ own fr) scope cl C s H fp) ifs tc)(he:∀C s H fp,PE (ip X (t_ own fr) scope cl C s H fp) elt te)
  (hs:∀x,foldedSetIterable iter X.env x=pure x:=by intro _;rfl)(hsw:swapsWith (.ListComp elt [⟨tg,iter,ifs,0⟩] scope pos) (some (.Name y py)) WC.line X.env=pure true:=by rfl)
  (hf:X.fn y=true\/X.env.scope.names.lookup y=some .local:=by first|exact .inl U|exact .inr U|assumption):
  PS X (.Assign [.Name y py] (.ListComp elt [⟨tg,iter,ifs,0⟩] scope pos) WC) (Wz (F1 wi own fr g tc te) (CZ i)):=by
 intro pins s σ H D' I h;rw[exec_Assign_Name_used y py _ WC hsw];refine aa (rl (aa (aa ?_)));refine(eZ (C8 (use:=some (assign (.Name y py) X.env)) (PQ:=λ_ s'=>SP X pins D' .next s') own fr hc hi G1 Q1 dw hfr hg ht he hs I h λs6 H5 C D m I6 hn f q=> ?_) λ_ s' hq=>aq (aq hq));obtain⟨o,es,ep,ho,ZaH⟩:=id hn;have I7:Inv X (pins++[(C,o)]) σ H5 s6:=I6.iF λp hp=>by
  rcases a8.mp hp with old|z
  ·exact I6.pin p (aw _ old)
  ·have e:p=(C,o):=by simpa using z
   subst e;exact⟨ho,f.1,f.2.1,f.2.2.1,λv z=>by rw[ZaH.1] at z;cases z⟩
 refine eZ (cR (pos:=py) hN hy hx hf (pins++[(C,o)]) s6 σ H5 (.ref D) (.ref D) D'.nx I7 U q) λ_ s8 ⟨σ8,H8,I8,q8⟩=> ?_;have hC:=I8.pin (C,o) (aw _ (aw _ (by simp)));refine⟨m,hn.at' λo' e=>by rw[ho] at e;cases e;exact hC.1,λh' hs'=>⟨σ8,H8,I8.rG.turned (t':=s8.toks) (λb o hb e=>(hs'.2 b hb).trans e) hC.2.1 f.2.1 f.2.2.2.1 f.2.2.2.2.1 f.2.2.2.2.2,q8⟩⟩
theorem WN{te:TE}{D:Ends}{σ:L2.St}{H:Hp}(h:te σ H D.rt):ZH te D σ H:=h
theorem Te{r:List V->Hp->VK->Prop}{t:TA}{σ:L2.St}{H:Hp}{Q:VK}(h:t σ H λvs H1=>r vs H1 Q):tCB r t σ H Q:=h
theorem WQ{ta:TE}{σ:L2.St}{H:Hp}{Q:List V->Hp->Prop}(h:ta σ H λx H1=>Q [x] H1):Vn ta SG σ H Q:=h
theorem RC{z:Str}{own:List Str}{fr:List (Str×Nat)}{te:TE}{σ:L2.St}{H:Hp}{Q:VK}{i0 j:Nat}(f:Nat->V)(hv:σ[j]? =some (some (.str z)))(hz:z.length<=sizeLine)
  (hx:∀v,Ext (BR own fr σ) ((BR own fr σ).set i0 (some v)))(he:∀c H2 (Q2:VK),Q2 (f c) H2->te ((BR own fr σ).set i0 (some (.str ⟨#[c]⟩))) H2 Q2)(q:∀D,H D=none->Q (.ref D) (upd H D (.lst (z.cps.toList.map f)))):
  F1 (Zaz (yH j)) own fr (CZ i0) qX te σ H Q:=by
 refine⟨_,hv,z,U,λD hD=> ?_⟩;refine⟨λi m ys H2=>m=z.length-i/\i<=z.length/\ys=(z.cps.toList.take i).map f/\H2=upd H D (.lst ys),⟨z.length,by simp,bz _,by simp,rfl⟩, ?_⟩;rintro i m ys H2 ⟨rfl,hi,rfl,rfl⟩;refine⟨ay, ?_⟩;have hl:z.cps.toList.length=z.length:=by rw[bx];rfl
 by_cases nK:i<z.length
 ·refine .inr ⟨nK,λzs H'=>zs=(z.cps.toList.take (i+1)).map f/\H'=upd H D (.lst zs),λzs H' ⟨e1,e2⟩=>⟨z.length-(i+1),by omega,rfl,nK,e1,e2⟩,λx H' y=> ?_⟩;obtain⟨e,c,hc,ex⟩:=y;subst e ex;refine⟨hx _, ?_⟩;unfold qX
  dsimp only
  rw[bg rfl];refine he c _ _ ⟨ay, ?_, ?_,kB⟩
  ·rw[ao,dh];omega
  ·have e3:z.cps.toList[i]? =some c:=by rw[eC];exact hc
   rw[dG,e3,bN]
   rfl
 ·have e:i=z.length:=by omega
  subst e;refine .inl ⟨aE _, ?_⟩;rw[dg (by rw[hl];exact aE _)]
  exact q D hD
theorem gE:bootBuiltins "len"=some (.builtin "len"):=by decide+kernel
theorem RK:bootBuiltins "abs"=some (.builtin "abs"):=by decide+kernel
theorem KC:bootBuiltins "max"=some (.builtin "max"):=by decide+kernel
theorem ve:bootBuiltins "min"=some (.builtin "min"):=by decide+kernel
theorem RJ:bootBuiltins "all"=some (.builtin "all"):=by decide+kernel
theorem eg:bootBuiltins "isinstance"=some (.builtin "isinstance"):=by decide+kernel
theorem RI:bootBuiltins "int"=some (.type "int"):=by decide+kernel
theorem KA:bootBuiltins "str"=some (.type "str"):=by decide+kernel
theorem UW:bootBuiltins "bool"=some (.type "bool"):=by decide+kernel
theorem wX:bootBuiltins "list"=some (.type "list"):=by decide+kernel
theorem zx:bootBuiltins "dict"=some (.type "dict"):=by decide+kernel
theorem yB:bootBuiltins "reversed"=some (.type "reversed"):=by decide+kernel
structure fi (P:bo) (w:World) (K:au) (mg:Str->Option af) (base:Heap) (CX:Dn) (k:Nat) (x:Str) (ps:List Str) (sp:Sp):Prop where
 ex:∃(f:aj) (fd:bC),mg x=some (.ref f)/\keepIn K (.ref f)=true/\Binds K fd ps []/\dJ P w K mg base CX k f fd ps sp
section
variable {X:Cx} {CX:Dn} {k:Nat} {x:Str} {ps:List Str} {sp:Sp} {E:XK} {e:PySem.Expr} {es:List PySem.Expr} {t:TA} {p pos:Pos}
theorem cG(c:fi X.prog X.w X.K X.mg X.base CX k x ps sp)(hr:gF k X.A)(hg:Gl X x)(hx:Passes CX X E)(ha:PA X (e::es) t)(u7:(x==("__debug__":Str))=false:=by decide)
  (he:starEach (e::es) X.env=(false,eval e X.env)::starEach es X.env:=by rfl)(Bd:(backTo pos (starEach es X.env)).any (·.1)=false:=by rfl):PE X (.Call (.Name x p) (e::es) [] pos) (La sp [] E t):=by
 obtain⟨f,fd,hm,hk,hb,F⟩:=c.ex;exact TC F hr hg hm hk hb .nil hx ha u7 he Bd
theorem WZ(c:fi X.prog X.w X.K X.mg X.base CX k x ps sp)(hr:gF k X.A)(hg:Gl X x)(hx:Passes CX X E)(u7:(x==("__debug__":Str))=false:=by decide):PE X (.Call (.Name x p) [] [] pos) (La sp [] E SG):=by
 obtain⟨f,fd,hm,hk,hb,F⟩:=c.ex;exact PY F hr hg hm hk hb .nil hx u7
end
theorem sN:∀{ns:List Int} {B:Nat},PySem.W.WData.weightAll (ns.map PySem.W.WData.int)<=B->∀i∈ns,Builtin.Int.intBits i<=B
 |[],_,_,i,hi=>by simp at hi
 |n::ns,B,h,i,hi=>by
  have h:PySem.W.WData.weight (.int n)+1+PySem.W.WData.weightAll (ns.map PySem.W.WData.int)<=B:=h;have e:PySem.W.WData.weight (.int n)=Builtin.Int.intBits n:=rfl;rw[e] at h
  rcases aJ.mp hi with rfl|hi
  ·omega
  ·exact sN (by omega) i hi
theorem U1{l:PySem.W.OpenLaw}{n:Nat}{q:bo}{loose:List Str}{XP:(Str->Option af)->Heap->Prop}{YP:World->Heap->Prop}{d:DefRec}
  (hn:l.most=some n)(hdf:d.params.defaults=[])
  (call:∀(w:World) (s₀ s₁:ah) (mg mb:Str->Option af) (fa:aj) (a:aj) (vs:List af) (ns:List Int),
   PySem.W.Ground q loose [] XP w s₀ mg mb s₁.heap->YP w s₁.heap->mg d.name=some (.ref fa)->
   s₁.heap.get? a=some {cls:=.type "list",data:=.seq vs.toArray}->IntsAre vs ns->ns.length<=n->(∀i∈ns,Builtin.Int.intBits i<=1048576)->s₁.gens= #[]->
   codeAny (model l.prog w) callerA (.call (.ref fa) ⟨[.ref a],[]⟩) (λr s'=>r=.ok (.ret (.bool true))/\OldK s₁.heap s'.heap/\s'.os=s₁.os/\AllBare s'.gens) s₁):
  PySem.W.WalkO q loose XP YP l.row.toRowW d [] (λf vs=>PySem.call f vs):=by
 intro w s₀ s₁ mg mb G Y fa o pm cd doc dV kV ho ZeU ZeW hD Yb hg args vals as Uy Zc8 ZeG hwl ZgL;obtain rfl:dV=.none:=PySem.W.Dflts.none hD hdf;obtain rfl:kV=.none:=PySem.W.Dflts.noKw hD;obtain⟨a,vs,ns,rfl,rfl,X9,hints,hlen⟩:=Att.MI hn Uy hwl;have hb:∀i∈ns,Builtin.Int.intBits i<=1048576:=by
  have h1:PySem.W.WData.layableAll [PySem.W.WData.list (ns.map PySem.W.WData.int)]=true:=Zc8;have h2:PySem.W.WData.layable (PySem.W.WData.list (ns.map PySem.W.WData.int))=true:=by simpa [PySem.W.WData.layableAll] using h1
  have h3:PySem.W.WData.weight (PySem.W.WData.list (ns.map PySem.W.WData.int))<=2^20:=by
   unfold PySem.W.WData.layable at h2
   rw[cZ] at h2
   exact ba h2.2
  exact sN (show PySem.W.WData.weightAll (ns.map PySem.W.WData.int)<=1048576 from h3)
 refine PySem.W.enter_call (gA (call w s₀ s₁ mg mb fa a vs ns G Y Yb X9 hints hlen hb hg) λr s' hq=> ?_);obtain⟨rfl,h2,h3,h4⟩:=hq;exact⟨.inl ⟨.bool true,.bool true,[],U,λ_=>rfl,.bool true,Att.MT l _,λ_=>⟨List.Pairwise.nil,λ_ hm=>(nomatch hm)⟩⟩,h2,h3,h4⟩
def Pc(K:au):Sp:=λvs H Q _=>∃(a:aj) (ns:List Int),vs=[.ref a]/\cK K H a (ns.map V.int)/\ns.length<=63/\(∀i∈ns,Builtin.Int.intBits i<=1048576)/\∀H',Q (.bl true) H'
theorem Zx{l:PySem.W.OpenLaw}{k:Nat}{q:bo}{loose:List Str}{XP:(Str->Option af)->Heap->Prop}{YP:World->Heap->Prop}{d:DefRec}{K:Params->au}{x:Str}
  (hn:l.most=some 63)(hdf:d.params.defaults=[])(hr:gF k callerA)(hY:∀(w:World) (h:Heap),YP w h->(K w.params).In h)
  (F:∀(w:World) (mg:Str->Option af) (fa:aj) (h:Heap),(K w.params).In h->h.Ns mainGlobals mg->mg d.name=some (.ref fa)->
   ∃fd:bC,(∀(s:ah) (u:af),BindsTo s fd ⟨[u],[]⟩ [(x,u)])/\∀base:Heap,(K w.params).In base->base.Ns mainGlobals mg->dJ l.prog w (K w.params) mg base c8 k fa fd [x] (Pc (K w.params))):
  PySem.W.WalkO q loose XP YP l.row.toRowW d [] (λf vs=>PySem.call f vs):=by
 refine U1 hn hdf λw s₀ s₁ mg mb fa a vs ns G Y Yb X9 hints hlen hb hg=> ?_;have KX:=hY w _ Y;obtain⟨fd,hbd,hF⟩:=F w mg fa _ KX G.T.g Yb;exact QA KX G.T.g G.T.b G.T.builtins G.T.nolimit hg X9 hints (bD hlen (by decide)) hr hF hbd (λH hO hS=>⟨a,ns,U,hS,hlen,hb,λ_=>rfl⟩) λH e s' z=>z
end L3
namespace L3
open PySem PySem.Spec PyProof.Rows L2 PySem.Builtin PySem.Builtin.Str
section
variable {X:Cx}
theorem Ff:iH X (.type "int") (λxs H Q=>∃x n,xs=[.str x]/\PySem.intText? x=some n/\x.length<=640/\Q (.int n) H):=by
 intro pins s σ H xs us Q I r h;obtain⟨x,n,rfl,hn,hl,q⟩:=h;obtain⟨u,rfl,t,rfl⟩:=vals1 r;exact PySem.W.KIN.call_text hn hl ⟨.int n,H,I.tok _,⟨_,U⟩,q⟩
theorem MF{prog:bo}{w:World}{A:bK}{E:af->ah->Prop}{s:ah}{z y:Str}{t u:Tok}{Q:af->ah->Prop}(hy:(y.length==0)=false)
  (h:∀(l:List (Str×Tok)) (k:Nat),l.map (·.1)=Txt.split z y->Q (.ref s.heap.objs.size) {s with heap:=s.heap.push {cls:=.type "list",data:=.seq (strValues l).toArray},toks:=k})(hz:z.length+2<=sizeLine):
  wpAny (model prog w) A (call (.builtin "str.split") [.str z t,.str y u]) Q E s:=by
 have few:(partsBetween z (occurrences z y 0 z.length (z.length+1)) y.length).length<=sizeLine:=by
  have most:=StrLaws.occ_length_le z y 0 z.length (z.length+1);rw[length_partsBetween];omega
 cases Zk:(decide (z.length<y.length)||decide (strKind z<strKind y))
 ·cases Ls:(occurrences z y 0 z.length (z.length+1)).isEmpty
  ·refine call_meets eO (vv _ _ _) vA (uE _ _) (meets_str_split_sep z y t u Zk hy Ls (by omega) few) ?_;show wants Q E _ {s with toks:=_,heap:=s.heap.push {cls:=.type "list",data:=.seq (strsFrom s.toks (partsBetween z (occurrences z y 0 z.length (z.length+1)) y.length)).toArray}};rw[strsFrom_eq];exact h (numbered s.toks _) _ ((numbered_texts _ _).trans ((aX (Bh Zk)).trans (aX (Bh Ls))).symm)
  ·exact call_meets eO (vv _ _ _) vA (uE _ _) (meets_str_split_not_found z y t u Zk hy Ls) (h [(z,t)] s.toks ((aX (Bh Zk)).trans (bg Ls)).symm)
 ·exact call_meets eO (vv _ _ _) vA (uE _ _) (meets_str_split_cannot_occur z y t u Zk) (h [(z,t)] s.toks (bg Zk).symm)
theorem Cf:∀l:List (Str×Tok),Vals ((l.map (·.1)).map V.str) (strValues l)
 |[]=> .nil
 |p::l=> .cons ⟨p.2,rfl⟩ (Cf l)
theorem mK:MtR X "str.split" (λx vs H Q=>∃z c,x=.str z/\vs=[.str ⟨#[c]⟩]/\z.length+2<=sizeLine/\∀p,H p=none->Q (.ref p) (upd H p (.lst ((Txt.split z ⟨#[c]⟩).map V.str)))):=by
 intro pins s σ H x xs v us Q I rx r h;obtain⟨z,c,rfl,rfl,hz,q⟩:=h;obtain⟨t,rfl⟩:=rx;obtain⟨u,rfl,t2,rfl⟩:=vals1 r;refine MF (by rfl) (λl k e=> ?_) hz;have hl:(Txt.split z ⟨#[c]⟩).length<=z.length+2:=split_le z ⟨#[c]⟩;have hv:=Cf l;rw[e] at hv
 exact⟨.ref _,_,I.XA (t':=k) hv (by rw[ao];omega),U,q _ I.fresh⟩
theorem vN:∀{ys:List Str} {us:List af},Vals (ys.map V.str) us->StrsAre us ys
 |[],us,r=>by
  rw[i_] at r
  cases r;exact .nil
 |y::ys,us,r=>by
  rw[aT] at r
  cases r with
  |cons r1 r2=>
   obtain⟨t,e⟩:=r1;subst e;exact .cons y t (vN r2)
theorem tP:MtR X "str.join" (λx vs H Q=>∃z p ys,x=.str z/\vs=[.ref p]/\cK X.K H p (ys.map V.str)/\(ys.map (·.length)).sum+ys.length*z.length<=16777216/\Q (.str (Txt.join z ys)) H):=by
 intro pins s σ H x xs v us Q I rx r h;obtain⟨z,p,ys,rfl,rfl,hS,hk,q⟩:=h;obtain⟨t,rfl⟩:=rx;obtain⟨u,rfl,r2⟩:=vals1 r;cases r2;obtain⟨its,rv,pl,_⟩:=I.list hS;exact join_list pl.isList (by simpa using vN rv) hk λt' k=>⟨.str _,H,I.tok _,⟨_,U⟩,q⟩
abbrev TF:=L2.St->Hp->(Str->Hp->Prop)->Prop
def PF1(X:Cx)(e:PySem.Expr)(t:TF):Prop:=
 ∀(pins:List (aj×Obj)) (s:ah) (σ:L2.St) (H:Hp) (Q:Str->Hp->Prop),Inv X pins σ H s->t σ H Q->wpAny (model X.prog X.w) X.A (eval e X.env) (λu s'=>∃y tk H',u=.str y tk/\Inv X pins σ H' s'/\Q y H') X.xe s
def PFs(X:Cx)(es:List PySem.Expr)(t:Str->TF):Prop:=
 ∀(out:Str) (pins:List (aj×Obj)) (s:ah) (σ:L2.St) (H:Hp) (Q:Str->Hp->Prop),Inv X pins σ H s->t out σ H Q->wpAny (model X.prog X.w) X.A (joinParts out (evalEach es X.env)) (λu s'=>∃y tk H',u=.str y tk/\Inv X pins σ H' s'/\Q y H') X.xe s
theorem PR{x:Str}{k:Nat}{pos:Pos}:PF1 X (.Constant (.str x) k pos) (λ_ H Q=>Q x H):=λ_ _ _ H _ I h=>Calls.Constant_str ⟨x,_,H,rfl,I.tok _,h⟩
theorem PM{e:PySem.Expr}{te:TE}{pos:Pos}(he:PE X e te):PF1 X (.FormattedValue e (-1) none pos) (λσ H Q=>te σ H λv H1=>∃y,v=.str y/\y.length<=sizeLine/\Q y H1):=by
 intro pins s σ H Q I h;refine FormattedValue_plain (eZ (he pins s σ H _ I h) λv s1 ⟨x,H1,I1,r1,q1⟩=> ?_);obtain⟨y,rfl,hy,q⟩:=q1;obtain⟨t,rfl⟩:=r1;exact formatField_str (λt' tk=>⟨y,t',H1,U,I1.tok _,q⟩) hy
theorem PN:PFs X [] (λout _ H Q=>out.length<=sizeLine/\Q out H):=λout _ s _ H _ I h=>joinParts_nil ⟨out,_,H,rfl,I.tok _,h.2⟩ h.1
theorem y_{e:PySem.Expr}{es:List PySem.Expr}{t1:TF}{t2:Str->TF}(h1:PF1 X e t1)(h2:PFs X es t2):PFs X (e::es) (λout σ H Q=>t1 σ H λy H1=>(out++y).length<=sizeLine/\t2 (out++y) σ H1 Q):=by
 intro out pins s σ H Q I h;show wpAny (model X.prog X.w) X.A (joinParts out (eval e X.env::evalEach es X.env)) _ X.xe s;refine joinParts_cons (eZ (h1 pins s σ H _ I h) λv s1 hv=> ?_);obtain⟨y,tk,H1,rfl,I1,hz,q⟩:=hv;exact⟨hz,h2 (out++y) pins s1 σ H1 Q I1 q⟩
theorem Ln{v1 v2:PySem.Expr}{rest:List PySem.Expr}{pos:Pos}{t:Str->TF}(h:PFs X (v1::v2::rest) t):PE X (.JoinedStr (v1::v2::rest) pos) (λσ H Q=>t Str.empty σ H λy H1=>Q (.str y) H1):=by
 intro pins s σ H Q I q;refine JoinedStr_many (eZ (h Str.empty pins s σ H _ I q) λu s1 hu=> ?_);obtain⟨y,tk,H1,rfl,I1,q1⟩:=hu;exact⟨.str y,H1,I1,⟨tk,U⟩,q1⟩
end
end L3
namespace M1
open PySem.Builtin PySem.Builtin.Str PySem
def cs(x:Str):List Nat:=x.cps.toList
theorem ext{x y:Str}(h:cs x=cs y):x=y:=Str.ext' (IT.mp h)
theorem dH(x y:Str):cs (x++y)=cs x++cs y:=by
 show(x.cps++y.cps).toList=_;rw[Array.toList_append]
 rfl
theorem oB(c:Nat):cs ⟨#[c]⟩=[c]:=rfl
theorem kj(x:Str):x.length=(cs x).length:=by
 show x.cps.size=x.cps.toList.length;rw[bx]
def J(c:Nat):List (List Nat)->List Nat
 |[]=>[]
 |[p]=>p
 |p::q::r=>p++c::J c (q::r)
theorem qB(c:Nat):∀ps:List Str,cs (Str.join ⟨#[c]⟩ ps)=J c (ps.map cs)
 |[]=>rfl
 |[p]=>rfl
 |p::q::r=>by
  show cs (p++⟨#[c]⟩++Str.join ⟨#[c]⟩ (q::r))=_;rw[dH,dH,oB,qB c (q::r),dj]
  rfl
theorem L6{c:Nat}:∀{a b r s:List Nat},c∉a->c∉b->a++c::r=b++c::s->a=b/\r=s
 |[],[],_,_,_,_,e=>⟨rfl,(uH e).2⟩
 |[],y::b,_,_,_,hb,e=>absurd (by have:=(uH e).1;rw[this];exact aB) hb
 |x::a,[],_,_,ha,_,e=>absurd (by have:=(uH e).1;rw[<-this];exact aB) ha
 |x::a,y::b,r,s,ha,hb,e=>by
  obtain⟨e1,e2⟩:=uH e;obtain⟨e3,e4⟩:=L6 (λz=>ha (aF _ z)) (λz=>hb (aF _ z)) e2;exact⟨by rw[e1,e3],e4⟩
theorem Wa{c:Nat}:∀{ps qs:List (List Nat)},ps≠[]->qs≠[]->(∀p∈ps,c∉p)->(∀q∈qs,c∉q)->J c ps=J c qs->ps=qs
 |[],_,h,_,_,_,_=>absurd rfl h
 |_,[],_,h,_,_,_=>absurd rfl h
 |[p],[q],_,_,_,_,e=>by
  have e:p=q:=e;rw[e]
 |[p],q::q2::r,_,_,hp,_,e=>by
  have e:p=q++c::J c (q2::r):=e;exact absurd (by rw[e];simp) (hp p aB)
 |p::p2::r,[q],_,_,_,hq,e=>by
  have e:p++c::J c (p2::r)=q:=e;exact absurd (by rw[<-e];simp) (hq q aB)
 |p::p2::r,q::q2::s,_,_,hp,hq,e=>by
  have e:p++c::J c (p2::r)=q++c::J c (q2::s):=e;obtain⟨e1,e2⟩:=L6 (hp p aB) (hq q aB) e;have ih:=Wa (by simp) (by simp) (λz hz=>hp z (aF _ hz)) (λz hz=>hq z (aF _ hz)) e2;rw[e1,ih]
theorem Pb(x:Str)(c:Nat):Txt.split x ⟨#[c]⟩≠[]:=by
 intro e;have h:=Ml x ⟨#[c]⟩;unfold Txt.split at e
 split at e
 ·cases e
 ·split at e
  ·cases e
  ·rename_i h1 h2
   rw[StrLaws.partsBetween_eq] at e
   obtain⟨p,q,e'⟩:=StrLaws.partsFrom_ne x (⟨#[c]⟩:Str).length 0 (occurrences x ⟨#[c]⟩ 0 x.length (x.length+1));rw[e'] at e
   cases e
theorem vQ(x:Str)(c:Nat)(ps:List Str)(h0:ps≠[])(hf:∀p∈ps,c∉cs p)(e:cs x=J c (ps.map cs)):Txt.split x ⟨#[c]⟩=ps:=by
 have h1:J c ((Txt.split x ⟨#[c]⟩).map cs)=J c (ps.map cs):=by rw[<-qB,Ml,e]
 have h2:=Wa (c:=c) (ps:=(Txt.split x ⟨#[c]⟩).map cs) (qs:=ps.map cs) (by simpa using Pb x c) (by simpa using h0)
  (λp hp=>by obtain⟨q,hq,rfl⟩:=a5.mp hp;exact StrLaws.split_free x c q hq) (λp hp=>by obtain⟨q,hq,rfl⟩:=a5.mp hp;exact hf q hq) h1
 have h3:∀(a b:List Str),a.map cs=b.map cs->a=b:=by
  intro a
  induction a with
  |nil=>intro b e;cases b with|nil=>rfl|cons _ _=>cases e
  |cons x a ih=>
   intro b e;cases b with
   |nil=>cases e
   |cons y b=>
    obtain⟨e1,e2⟩:=uH e;rw[ext e1,ih b e2]
 exact h3 _ _ h2
def ix(n d:Nat):Option Int->Nat
 |none=>d
 |some i=>(max 0 (min (if i<0 then i+(n:Int) else i) (n:Int))).toNat
theorem VA{n d:Nat}(h:d<=n):∀o,ix n d o<=n
 |none=>h
 |some i=>by
  show(max 0 (min (if i<0 then i+(n:Int) else i) (n:Int))).toNat<=n;omega
theorem pick(L:List Nat)(lo:Nat):∀m:Nat,(List.range m).filterMap (λk=>L[lo+k]?)=(L.drop lo).take m
 |0=>by simp
 |m+1=>by
  rw[yk,List.filterMap_append,pick L lo m,dG,List.getElem?_drop];cases h:L[lo+m]? <;>simp[h]
theorem idx_eq(l u:Option Int)(n:Nat):strSliceIndices l u 1 n=(List.range (ix n n u-ix n 0 l)).map (ix n 0 l+ ·):=by
 have key:∀a b:Nat,sliceRange (a:Int) (b:Int) 1=(List.range (b-a)).map (a+ ·):=by
  intro a b;unfold sliceRange;simp only [show(1:Int)>0 by decide,Oq];have e1:(if(a:Int)<(b:Int) then((b:Int)-(a:Int)+1-1)/1 else 0).toNat=b-a:=by
   split
   ·rw[Int.ediv_one];omega
   ·omega
  rw[e1];refine jW λplace _=> ?_;omega
 have e1:∀(d:Nat) (o:Option Int),(match o with|none=>(d:Int)|some i=>max 0 (min (if i<0 then i+(n:Int) else i) (n:Int)))=((ix n d o:Nat):Int):=by
  intro d o;cases o with
  |none=>rfl
  |some i=>
   show max 0 (min (if i<0 then i+(n:Int) else i) (n:Int))=(((max 0 (min (if i<0 then i+(n:Int) else i) (n:Int))).toNat:Nat):Int);omega
 rw[<-key,<-e1 0 l,<-e1 n u];unfold strSliceIndices;simp only [show(1:Int)>0 by decide,Oq];cases l<;>cases u<;>rfl
theorem pf(x:Str)(l u:Option Int):cs (Txt.slice x l u)=((cs x).drop (ix x.length 0 l)).take (ix x.length x.length u-ix x.length 0 l):=by
 unfold Txt.slice;rw[idx_eq];have h1:=VA (n:=x.length) (d:=x.length) (aE _) u
 split
 ·rename_i h
  have h:ix x.length x.length u-ix x.length 0 l=x.length:=by simpa using h
  by_cases hx:x.length=0
  ·have e:cs x=[]:=List.length_eq_zero_iff.mp (by rw[<-kj];exact hx)
   rw[e];simp
  ·have e:ix x.length 0 l=0:=by omega
   rw[h,e,zI,kj,IQ]
 ·show(((List.range (ix x.length x.length u-ix x.length 0 l)).map (ix x.length 0 l+ ·)).filterMap (x.cps[·]?)).toArray.toList=_;rw[List.filterMap_map,<-pick];have e:((λa=>x.cps[a]?)∘λk=>ix x.length 0 l+k)=λk=>(cs x)[ix x.length 0 l+k]? :=by
   funext k
   show x.cps[ix x.length 0 l+k]? =(cs x)[ix x.length 0 l+k]?;unfold cs;rw[eC]
  rw[<-e]
theorem Jh(a:Str)(c:Nat):Txt.slice (a++⟨#[c]⟩) none (some (-1))=a:=by
 apply ext
 rw[pf,dH,oB];have hl:(a++⟨#[c]⟩:Str).length=(cs a).length+1:=by rw[kj,dH,oB];simp
 have e1:ix (a++⟨#[c]⟩:Str).length (a++⟨#[c]⟩:Str).length (some (-1))=(cs a).length:=by
  show(max 0 (min (if(-1:Int)<0 then-1+((a++⟨#[c]⟩:Str).length:Int) else-1) ((a++⟨#[c]⟩:Str).length:Int))).toNat=_;rw[hl];omega
 rw[e1];show(((cs a)++[c]).drop 0).take ((cs a).length-0)=_;simp
theorem Jg(a:Str)(c:Nat):Txt.slice (a++⟨#[c]⟩) (some (-1)) none=⟨#[c]⟩:=by
 apply ext
 rw[pf,dH,oB];have hl:(a++⟨#[c]⟩:Str).length=(cs a).length+1:=by rw[kj,dH,oB];simp
 have e1:ix (a++⟨#[c]⟩:Str).length 0 (some (-1))=(cs a).length:=by
  show(max 0 (min (if(-1:Int)<0 then-1+((a++⟨#[c]⟩:Str).length:Int) else-1) ((a++⟨#[c]⟩:Str).length:Int))).toNat=_;rw[hl];omega
 rw[e1];show(((cs a)++[c]).drop (cs a).length).take ((a++⟨#[c]⟩:Str).length-(cs a).length)=_;rw[hl];simp
def LL(y:Str)(c:Nat):Bool:= !(occurrences y ⟨#[c]⟩ 0 y.length 1).isEmpty
theorem Uw(y:Str)(c:Nat):LL y c=true↔c∈cs y:=by
 unfold LL;rw[StrLaws.found_iff]
 constructor
 ·rintro⟨i,h1,h2⟩;have:=(StrLaws.subAt_one y c i).mp ⟨h1,h2⟩;exact cI this
 ·intro h;obtain⟨i,hi⟩:=List.getElem?_of_mem h;exact⟨i,(StrLaws.subAt_one y c i).mpr hi⟩
end M1
namespace M2
open PySem M1
def num(n:Nat):Str:=Str.ofString (toString ((n:Nat):Int))
theorem E6(n:Nat):cs (num n)=(Nat.toDigits 10 n).map Char.toNat:=PySem.W.KIN.signs_num n
theorem fig:∀d:Nat,d<10->(Nat.digitChar d).toNat=48+d:=by decide
theorem tM{n:Nat}(h:n<10):cs (num n)=[48+n]:=by
 rw[E6,Nat.toDigits_of_lt_base h];show[(Nat.digitChar n).toNat]=_;rw[fig n h]
theorem As{n:Nat}(h:10<=n):cs (num n)=cs (num (n/10))++[48+n%10]:=by
 have hm:n%10<10:=xf n (by decide);have t:Nat.toDigits 10 (n/10)++Nat.toDigits 10 (n%10)=Nat.toDigits 10 (10*(n/10)+n%10):=Nat.toDigits_append_toDigits (by decide) (by omega) hm;rw[Nat.div_add_mod] at t
 rw[E6,E6,<-t,bN,Nat.toDigits_of_lt_base hm];show _++[(Nat.digitChar (n%10)).toNat]=_;rw[fig _ hm]
theorem JK(n:Nat):cs (num n)≠[]:=by
 by_cases h:n<10
 ·rw[tM h];simp
 ·rw[As (by omega)];simp
theorem qp(n:Nat):NumText.AllDigits (cs (num n)):=by
 induction n using Nat.strongRecOn with
 |_ n ih=>
  by_cases h:n<10
  ·rw[tM h];intro c hc;have e:c=48+n:=by simpa using hc
   omega
  ·rw[As (by omega)];intro c hc;rcases a8.mp hc with h1|h1
   ·exact ih (n/10) (by omega) c h1
   ·have e:c=48+n%10:=by simpa using h1
    have:=xf n (show 10>0 by decide);omega
theorem P_(n:Nat):(cs (num n)).head? =some 48->n=0:=by
 induction n using Nat.strongRecOn with
 |_ n ih=>
  intro e
  by_cases h:n<10
  ·rw[tM h] at e
   have e:48+n=48:=by simpa using e
   omega
  ·rw[As (by omega)] at e
   have e2:(cs (num (n/10))).head? =some 48:=by
    cases q:cs (num (n/10)) with
    |nil=>exact absurd q (JK _)
    |cons a r=>rw[q] at e;simpa using e
   have:=ih (n/10) (by omega) e2;omega
theorem TM(n:Nat):NumText.digitsVal (cs (num n))=n:=by rw[E6];exact PySem.W.KIN.val_back n
theorem ze{n k:Nat}(hk:0<k)(h:n<10^k):(num n).length<=k:=by
 refine PyProof.Rows.toString_length_le (by omega) hk ?_;have e:((10^k:Nat):Int)=(10:Int)^k:=by simp
 rw[<-e];omega
theorem num_reads{n:Nat}(h:(num n).length<=4300):intText? (num n)=some (n:Int):=by
 have e:=intText_digits (x:=num n) (qp n) (JK n) h;have v:=TM n;unfold cs at v
 rw[v] at e
 exact e
theorem P9:num 0=⟨#[48]⟩:=ext (tM (by decide))
end M2
namespace L3
open PySem PySem.Spec PyProof.Rows L2
theorem JW{k:Key}{u:af}(h:AD k u=true):RelV (kV k) u:=by
 rcases f7 h with ⟨i,t,rfl,rfl⟩|⟨x,t,rfl,rfl⟩
 ·exact⟨t,U⟩
 ·exact⟨t,U⟩
theorem Mh{kvs:List (Key×V)}{vs:List (Key×af)}(r:KV kvs vs):∀{i:Nat} {p:Key×V},kvs[i]? =some p->∃u,vs[i]? =some (p.1,u)/\RelV p.2 u:=by
 induction r with
 |nil=>intro i p e;simp at e
 |cons h _ ih=>
  intro i p e;cases i with
  |zero=>
   obtain rfl:=bR ((List.getElem?_cons_zero ..).symm.trans e);refine⟨_, ?_,h.2⟩;rw[List.getElem?_cons_zero,h.1]
  |succ i=>
   rw[List.getElem?_cons_succ] at e
   obtain⟨u,e1,e2⟩:=ih e;exact⟨u,by rw[List.getElem?_cons_succ];exact e1,e2⟩
section
variable {X:Cx} {pins:List (aj×Obj)} {σ:L2.St} {H:Hp} {s:ah} {a n:aj} {p q:HO}
theorem ID(I:L2.Inv X pins σ H s)(h:H a=some p)(h1:∀xs,p≠.tup xs)(h2:∀x,p≠.own x)(h3:∀t,p≠.Ot t)(hf:∀o u,X.H₀ a≠some (.pM o u))(ok:fB X.prog X.w H s.heap a q):L2.Inv X pins σ (upd H a q) s:=by
 have nn:∀b,H b=none->b≠a:=λb e z=>by subst z;rw[h] at e;cases e
 refine⟨I.ok,I.os,I.bare,⟨I.base.keep,I.base.slot,λb o e n hx=> ?_,I.base.there,λb xs e=> ?_,λb o u e=> ?_,λb ps e=> ?_⟩,I.loc,I.cell, ?_,λx c e=> ?_,λz hz=> ?_,λb u e=> ?_,I.len⟩
 ·rw[aY (nn b (I.base.free b o e n hx))];exact I.base.free b o e n hx
 ·have e2:=I.base.mZ b xs e;rw[aY (λz=>by subst z;rw[h] at e2;exact h1 xs (bR e2))]
  exact e2
 ·rw[aY (λz=>by subst z;exact hf o u e)]
  exact I.base.oA b o u e
 ·obtain⟨m,e2⟩:=I.base.rL b ps e;exact⟨m,by rw[aY (λz=>by subst z;rw[h] at e2;exact h3 _ (bR e2))];exact e2⟩
 ·rw[aY (nn _ I.free)];exact I.free
 ·rw[aY (nn _ (I.eL x c e))];exact I.eL x c e
 ·obtain⟨z1,z2,z3⟩:=I.pin z hz;exact⟨z1,by rw[aY (nn _ z2)];exact z2,z3⟩
 ·have ho:∀c x,H c=some (.own x)->upd H a q c=some (.own x):=λc x ec=>by
   rw[aY (λz=>by subst z;rw[h] at ec;exact h2 x (bR ec))]
   exact ec
  have ht:∀c xs,H c=some (.tup xs)->upd H a q c=some (.tup xs):=λc xs ec=>by
   rw[aY (λz=>by subst z;rw[h] at ec;exact h1 xs (bR ec))]
   exact ec
  by_cases hb:b=a
  ·subst hb;rw[ay] at e
   cases e;exact ok.vP (λ_ _ _ z=>z) (λc z=>ho c _ z) ht
  ·rw[aY hb] at e
   exact(I.dw b u e).vP (λ_ _ _ z=>z) (λc z=>ho c _ z) ht
theorem A6{kvs:List (Key×V)}(I:L2.Inv X pins σ H s)(h:H a=some (.dK kvs)):∃o,s.heap.get? a=some o/\L2.Inv X pins σ (upd H a (.pM o (.dK kvs))) s:=by
 obtain⟨z1,z2,vs,z3,o,es,ep,z4,z5⟩:=I.dw a _ h;refine⟨o,z4,ID I h (λ_ e=>nomatch e) (λ_ e=>nomatch e) (λ_ e=>nomatch e) (λo' u e=> ?_) ⟨z4,I.dw a _ h⟩⟩;have:=I.base.oA a o' u e;rw[h] at this
 cases this
theorem jO{o:Obj}{u:HO}(I:L2.Inv X pins σ H s)(h:H a=some (.pM o u))(hf:∀o u,X.H₀ a≠some (.pM o u)):L2.Inv X pins σ (upd H a u) s:=
 ID I h (λ_ e=>nomatch e) (λ_ e=>nomatch e) (λ_ e=>nomatch e) hf (I.dw a _ h).2
theorem Dm(I:L2.Inv X pins σ H s)(f:A8 X pins H n)(ok:fB X.prog X.w (upd H n q) s.heap n q):L2.Inv X pins σ (upd H n q) s:=by
 obtain⟨f0,f1,f2,f3,f4,f5⟩:=f;have ns:∀b u,H b=some u->b≠n:=λb u e z=>by subst z;rw[f0] at e;cases e
 refine⟨I.ok,I.os,I.bare,⟨I.base.keep,I.base.slot,λb o e m hx=> ?_,I.base.there,λb xs e=> ?_,λb o u e=> ?_,λb ps e=> ?_⟩,I.loc,I.cell, ?_,λx c e=> ?_,λz hz=> ?_,λb u e=> ?_,I.len⟩
 ·refine(aY ?_).trans (I.base.free b o e m hx);rintro rfl;rcases f3 with z|z
  ·exact hx z
  ·exact absurd (b4 (aW e) z) (dP _)
 ·have e2:=I.base.mZ b xs e;rw[aY (ns b _ e2)];exact e2
 ·have e2:=I.base.oA b o u e;rw[aY (ns b _ e2)];exact e2
 ·obtain⟨m,e2⟩:=I.base.rL b ps e;exact⟨m,by rw[aY (ns b _ e2)];exact e2⟩
 ·rw[aY (cY f1)];exact I.free
 ·rw[aY (f4 x c e)];exact I.eL x c e
 ·obtain⟨z1,z2,z3⟩:=I.pin z hz;exact⟨z1,by rw[aY (f5 z hz)];exact z2,z3⟩
 ·by_cases hb:b=n
  ·subst hb;rw[ay] at e
   cases e;exact ok
  ·rw[aY hb] at e
   exact(I.dw b u e).vP (λ_ _ _ z=>z) (λc z=>by rw[aY (ns c _ z)];exact z) λc xs z=>by rw[aY (ns c _ z)];exact z
end
theorem C5{P:bo}{w:World}{H:Hp}{h:Heap}{a:aj}{o:Obj}{kvs:List (Key×V)}(ok:sT P w H h)(e:H a=some (.pM o (.dK kvs))){es:Array DictEntry}{ep:Nat}(hd:o.data=.dict es ep):
  (a==sysModules)=false/\∃vs,KV kvs vs/\h.DictAt (eJ P w) a vs ep:=by
 obtain⟨ho,z1,z2,vs,z3,o',es',Rn,z4,z5,z6,z7⟩:=ok a _ e;rw[ho] at z4
 cases z4;rw[hd] at z6
 cases z6;exact⟨z2,vs,z3,o,es,ho,z5,hd,z7⟩
def Itk(a:aj)(o:Obj)(kvs:List (Key×V)):It:=
 ⟨λi H=>H a=some (.pM o (.dK kvs))/\i<kvs.length,λi H x H'=>H'=H/\∃kv,kvs[i]? =some kv/\x=kV kv.1,λi H=>H a=some (.pM o (.dK kvs))/\kvs.length<=i⟩
def Iti(a:aj)(o:Obj)(kvs:List (Key×V)):It:=
 ⟨λi H=>H a=some (.pM o (.dK kvs))/\i<kvs.length,λi H x H'=>∃kv p,kvs[i]? =some kv/\H p=none/\x=.ref p/\H'=upd H p (.tup [kV kv.1,kv.2]),λi H=>H a=some (.pM o (.dK kvs))/\kvs.length<=i⟩
theorem Mw{P:bo}{w:World}{K:au}{tg:PySem.Expr}(a it:aj){o:Obj}{kvs:List (Key×V)}{es:Array DictEntry}{ep:Nat}(hd:o.data=.dict es ep)(n:Nat)(hn:n=kvs.length):
  Turn P w K tg (Itk a o kvs) [it] it (λi h=>h.IsKeyIter it a i n ep) where
 mem:=by simp
 obj:=λi h st b hb=>by
  have e:b=it:=by simpa using hb
  subst e;obtain⟨o,e,c,d⟩:=st;exact⟨o,e,λv z=>by rw[d] at z;cases z⟩
 keep:=λi h h' st k=>st.at λo e=>k it (by simp) o e
 item:=by
  intro X hP hw hK hc i pins s σ H E I hf st hg;subst hP hw hK;obtain⟨hz,nK⟩:=hg;obtain⟨_,vs,rv,hm⟩:=C5 I.dw hz hd;obtain⟨kv,hx⟩:∃kv,kvs[i]? =some kv:=⟨kvs[i],by simp[nK]⟩
  obtain⟨u,hu,ru⟩:=Mh rv hx;obtain⟨f0,f1,f2,f3,f4,f5⟩:=hf it (by simp);have el:n=vs.length:=by rw[hn];exact cA rv
  rw[el] at st
  refine wpAny_pyNext_dict_item st hm hu λkey h' hk yI sb=> ?_;have I1:L2.Inv X pins σ H {s with heap:=h'}:=I.turned (t':=s.toks) (λb o hb e=>(sb.2 b hb).trans e) f0 f1 f3 f4 f5;obtain⟨ob,e,c,d⟩:=id yI;refine⟨key,U,CY (s:={s with heap:=h'}) e c d (by decide) ⟨kV kv.1,H,I1,JW hk,⟨U,kv,hx,U⟩, ?_,λb hb=>(hf b hb).1⟩⟩;show h'.IsKeyIter it a (i+1) n ep;rw[el];exact yI
 done:=by
  intro X hP hw hK hc i pins s σ H E I hf st hg;subst hP hw hK;obtain⟨hz,hle⟩:=hg;obtain⟨_,vs,rv,hm⟩:=C5 I.dw hz hd;have el:n=vs.length:=by rw[hn];exact cA rv
  rw[el] at st
  obtain⟨f0,f1,f2,f3,f4,f5⟩:=hf it (by simp);exact wpAny_pyNext_dict_end (I.ok.hd hc) st hm (ie (by omega)) λh' eb=>⟨U,I.turned (t':=s.toks) (λb o hb e=>eb b o hb e) f0 f1 f3 f4 f5⟩
 self:=λ_ _ _ _ _ st h=>wpAny_pyIter_keyiter st h
theorem IW{P:bo}{w:World}{K:au}{elts:List PySem.Expr}{x1:Nat}{pos:Pos}(a it:aj){o:Obj}{kvs:List (Key×V)}{es:Array DictEntry}{ep:Nat}(hd:o.data=.dict es ep)(n:Nat)(hn:n=kvs.length):
  Turn P w K (.Tuple elts x1 pos) (Iti a o kvs) [it] it (λi h=>∃ok ov,IsItemIter h it a i n ep ok ov) where
 mem:=by simp
 obj:=λi h st b hb=>by
  have e:b=it:=by simpa using hb
  subst e;obtain⟨ok,ov,e⟩:=st;exact⟨_,e,λv z=>by cases z⟩
 keep:=λi h h' ⟨ok,ov,e⟩ k=>⟨ok,ov,k it (by simp) _ e⟩
 item:=by
  intro X hP hw hK hc i pins s σ H E I hf st hg;subst hP hw hK;obtain⟨hz,nK⟩:=hg;obtain⟨_,vs,rv,hm⟩:=C5 I.dw hz hd;obtain⟨kv,hx⟩:∃kv,kvs[i]? =some kv:=⟨kvs[i],by simp[nK]⟩
  obtain⟨u,hu,ru⟩:=Mh rv hx;obtain⟨f0,f1,f2,f3,f4,f5⟩:=hf it (by simp);have el:n=vs.length:=by rw[hn];exact cA rv
  rw[el] at st
  obtain⟨ok,ov,st⟩:=st;refine wpAny_pyNext_items_item st hm hu λkey h' hk yI nt sz kp=> ?_;refine⟨_,U,wpAny_letOwnedTupleGo_items (s:={s with heap:=h'}) yI λh2 F2 Pm=> ?_⟩;have Xn:s.heap.objs.size≠it:=λz=>by
   exact absurd (aW st) (by rw[<-z];exact dP _)
  have I1:L2.Inv X pins σ H {s with heap:=h2,toks:=s.toks}:=I.turned (t':=s.toks) (λb o hb e=>(Pm.2 b hb).trans (kp b o hb e)) f0 f1 f3 f4 f5;have fn:=I.BS (H':=H) (aE _) (I.dw.fresh (aE _));have I2:=Dm (q:=.tup [kV kv.1,kv.2]) I1 fn ⟨by show 2<=sizeLine;rw[cJ];decide,[key,u],.cons (JW hk) (.cons ru .nil),{cls:=.type "tuple",data:=.seq #[key,u]},(Pm.2 _ Xn).trans nt,rfl,_,rfl⟩
  refine⟨.ref s.heap.objs.size,_,I2,U,⟨kv,_,hx,fn.1,U,U⟩,⟨key,u, ?_⟩,λb hb=> ?_⟩
  ·show IsItemIter h2 it a (i+1) n ep key u;rw[el];exact F2
  ·have e:b=it:=by simpa using hb
   subst e;rw[aY (cY Xn)];exact f0
 done:=by
  intro X hP hw hK hc i pins s σ H E I hf st hg;subst hP hw hK;obtain⟨hz,hle⟩:=hg;obtain⟨_,vs,rv,hm⟩:=C5 I.dw hz hd;have el:n=vs.length:=by rw[hn];exact cA rv
  rw[el] at st
  obtain⟨ok,ov,st⟩:=st;obtain⟨f0,f1,f2,f3,f4,f5⟩:=hf it (by simp);exact wpAny_pyNext_items_end (I.ok.hd hc) st hm (ie (by omega)) λh' eb=>⟨U,I.turned (t':=s.toks) (λb o hb e=>eb b o hb e) f0 f1 f3 f4 f5⟩
 self:=λ_ _ _ _ _ ⟨_,_,st⟩ h=>PySem.W.kcp_self st h
section
variable {X:Cx} {tg:PySem.Expr}
def ZaC(tl:TE):TI:=λσ H R=>tl σ H λx H1=>∃a kvs,x=.ref a/\H1 a=some (.dK kvs)/\∀o,R (Itk a o kvs) (upd H1 a (.pM o (.dK kvs)))
theorem Tq{l:PySem.Expr}{tl:TE}(hl:PE X l tl):PI X tg l (ZaC tl):=by
 intro pins s σ H R I h;refine eZ (hl pins s σ H _ I h) λv s1 ⟨x,H1,I1,r1,q1⟩=> ?_;obtain⟨a,kvs,e,hq,q⟩:=q1;subst e;cases r1;obtain⟨o,ho,I2⟩:=A6 I1 hq;obtain⟨z1,z2,vs0,z3,o',es,ep,z4,z5,z6,z7⟩:=I1.dw a _ hq;rw[ho] at z4
 cases z4;obtain⟨hs,vs,rv,hm⟩:=C5 I2.dw ay z6;have el:kvs.length=vs.length:=cA rv;refine wpAny_pyIter_dict hs hm ?_;refine⟨s1.heap.objs.size,[s1.heap.objs.size],_,_,_,U,I2.kept (t':=s1.toks) λb o e=>ai _ e,Mw a _ z6 vs.length el.symm,⟨_,aM _ U,U,U⟩,λb hb=> ?_,q o⟩;have e:b=s1.heap.objs.size:=by simpa using hb
 subst e;exact I2.BS (aE _) (I2.dw.fresh (aE _))
def ku(v a:aj):HO:=.ext λh=>h.IsItemsView v a
def O0(tl:TE):TE:=λσ H Q=>tl σ H λx H1=>∃a kvs,x=.ref a/\H1 a=some (.dK kvs)/\∀v,H1 v=none->Q (.ref v) (upd H1 v (ku v a))
theorem v_{o:PySem.Expr}{to:TE}{apos gf:Pos}(ho:PE X o to)
  (AK:attributeBase o "items" X.env (eval o X.env)=eval o X.env:=by rfl)(sx:(apos.endLine==gf.line)=true:=by rfl):PE X (.Call (.Attribute o "items" apos) [] [] gf) (O0 to):=by
 intro pins s σ H Q I h;refine wpAny_Call_method0_late AK sx (eZ (ho pins s σ H _ I h) λv s1 ⟨x,H1,I1,r1,a,kvs,e,ha,q1⟩=> ?_);subst e;cases r1;obtain⟨h1,h2⟩:=Dz (T:="dict") (x:=.ref a) I1 rfl (.inr (.inr (.inl ⟨rfl,.inl ⟨kvs,ha⟩⟩)));obtain⟨z1,z2,vs,z3,z4⟩:=I1.dw a _ ha;refine⟨"dict","dict.items",OH,F.slot_dict_items,F.type_dict_items,h1,h2,eY U (qT ?_)⟩;refine gB F.slot_dict_items h1 F.entry_dict_items (F.args_dict_items_1 _) (meets_dict_items (eJ X.prog X.w) a z2) ⟨⟨vs,z4⟩, ?_⟩
 refine⟨.ref _,_,I1.laid (a:=s1.heap.objs.size) (o:=ku s1.heap.objs.size a) (t':=s1.toks) (λb q hq=>ai _ hq) (aE _) ?_,U,q1 _ I1.fresh⟩;refine⟨⟨_,aM _ U,U,U⟩,⟨_,aM _ U⟩,λg1 g2 z k=> ?_⟩;obtain⟨ob,e1,e2⟩:=z;exact⟨ob,k _ e1,e2⟩
def QT(tl:TE):TI:=λσ H R=>tl σ H λx H1=>∃v a kvs,x=.ref v/\H1 v=some (ku v a)/\H1 a=some (.dK kvs)/\∀o,R (Iti a o kvs) (upd H1 a (.pM o (.dK kvs)))
theorem Ag{l:PySem.Expr}{tl:TE}{elts:List PySem.Expr}{x1:Nat}{pos:Pos}(hl:PE X l tl):PI X (.Tuple elts x1 pos) l (QT tl):=by
 intro pins s σ H R I h;refine eZ (hl pins s σ H _ I h) λv s1 ⟨x,H1,I1,r1,q1⟩=> ?_;obtain⟨v,a,kvs,e,hv,hq,q⟩:=q1;subst e;cases r1;have vw:s1.heap.IsItemsView v a:=(I1.dw v _ hv).1;obtain⟨o,ho,I2⟩:=A6 I1 hq;obtain⟨z1,z2,vs0,z3,o',es,ep,z4,z5,z6,z7⟩:=I1.dw a _ hq;rw[ho] at z4
 cases z4;obtain⟨hs,vs,rv,hm⟩:=C5 I2.dw ay z6;have el:kvs.length=vs.length:=cA rv;refine wpAny_pyIter_items vw hm ?_;refine⟨s1.heap.objs.size,[s1.heap.objs.size],_,_,_,U,I2.kept (t':=s1.toks) λb o e=>ai _ e,IW a _ z6 vs.length el.symm,⟨_,_,aM _ U⟩,λb hb=> ?_,q o⟩;have e:b=s1.heap.objs.size:=by simpa using hb
 subst e;exact I2.BS (aE _) (I2.dw.fresh (aE _))
def BZ(H₀:Hp)(a:aj)(H H':Hp):Prop:=(∀o u,H₀ a≠some (.pM o u))/\∃o u,H a=some (.pM o u)/\H'=upd H a u
def Vk(H₀:Hp)(a:aj)(t:TE):TE:=λσ H Q=>t σ H λv H1=>∃H2,BZ H₀ a H1 H2/\Q v H2
theorem Tv{e:PySem.Expr}{t:TE}(a:aj)(h:PE X e t):PE X e (Vk X.H₀ a t):=λpins s σ H Q I q=>
 eZ (h pins s σ H _ I q) λ_ _ ⟨v,_,I1,r1,H2,⟨hf,o,u,e1,e2⟩,q1⟩=>⟨v,H2,by rw[e2];exact jO I1 e1 hf,r1,q1⟩
def ZX(H₀:Hp)(a:aj)(t:TS):TS:=λD σ H=>t {nx:=λσ' H1=>∃H2,BZ H₀ a H1 H2/\D.nx σ' H2,rt:=λv H1=>∃H2,BZ H₀ a H1 H2/\D.rt v H2,bk:=λσ' H1=>∃H2,BZ H₀ a H1 H2/\D.bk σ' H2,ct:=λσ' H1=>∃H2,BZ H₀ a H1 H2/\D.ct σ' H2} σ H
theorem Lj{st:Stmt}{t:TS}(a:aj)(h:PS X st t):PS X st (ZX X.H₀ a t):=λpins s σ H D I q=>
 eZ (h pins s σ H _ I q) λf _ q1=>by
  cases f with
  |next=>obtain⟨σ7,H7,I7,H2,⟨hf,o,u,e1,e2⟩,q7⟩:=q1;exact⟨σ7,H2,by rw[e2];exact jO I7 e1 hf,q7⟩
  |cont=>obtain⟨σ7,H7,I7,H2,⟨hf,o,u,e1,e2⟩,q7⟩:=q1;exact⟨σ7,H2,by rw[e2];exact jO I7 e1 hf,q7⟩
  |brk=>obtain⟨σ7,H7,I7,H2,⟨hf,o,u,e1,e2⟩,q7⟩:=q1;exact⟨σ7,H2,by rw[e2];exact jO I7 e1 hf,q7⟩
  |ret v=>obtain⟨x7,σ7,H7,I7,r7,H2,⟨hf,o,u,e1,e2⟩,q7⟩:=q1;exact⟨x7,σ7,H2,by rw[e2];exact jO I7 e1 hf,r7,q7⟩
end
structure Zbj (n:Nat) (Pv:Nat->List V->Hp->Prop) (D:aj) (J:It) (own:List Str) (fr:List (Str×Nat)) (g:TG) (tc:TT) (te:TE) (σ:L2.St) (H:Hp) (Q:VK):Prop where
 hn:n<=sizeLine
 h0:Pv 0 [] (upd H D (.lst []))
 hlen:∀i ys H2,Pv i ys H2->ys.length<=i
 st:∀i ys zs H2 H3,H2 D=some (.lst zs)->(∀b u,b≠D->H2 b=some u->H3 b=some u)->Pv i ys H2->Pv i ys H3
 Zd:∀i ys H2,Pv i ys H2->i<n->J.go i H2
 CU:∀ys H2,Pv n ys H2->H2 D=some (.lst ys)->J.stop n H2/\Q (.ref D) H2
 LM:∀i x ys H2 H3,Pv i ys H2->H2 D=some (.lst ys)->i<n->J.Sy i H2 x H3->∀(RT:V->Hp->Prop) (RF:Hp->Prop),(∀v H6,H6 D=some (.lst ys)->Pv (i+1) (ys++[v]) H6->RT v H6)->(∀H5,H5 D=some (.lst ys)->Pv (i+1) ys H5->RF H5)->
   g x (BR own fr σ) H3 λσ3 H4=>Ext (BR own fr σ) σ3/\tc σ3 H4 λb H5=>if b=true then te σ3 H5 RT else RF H5
theorem Im{J:It}{own:List Str}{fr:List (Str×Nat)}{g:TG}{tc:TT}{te:TE}{σ:L2.St}{H:Hp}{Q:VK}(h:∀D,H D=none->∃n Pv,Zbj n Pv D J own fr g tc te σ H Q):IE J own fr g tc te σ H Q:=by
 intro D hD;obtain⟨n,Pv,hn,h0,hlen,st,Zd,CU,LM⟩:=h D hD;refine⟨λi m ys H2=>m=n-i/\i<=n/\H2 D=some (.lst ys)/\Pv i ys H2,⟨n,by simp,bz _,ay,h0⟩, ?_⟩;rintro i m ys H2 ⟨rfl,hi,d2,p2⟩;refine⟨d2, ?_⟩
 by_cases nK:i<n
 ·refine .inr ⟨Zd i ys H2 p2 nK,λzs H'=>H' D=some (.lst zs)/\Pv (i+1) zs H',λzs H' ⟨e1,e2⟩=>⟨n-(i+1),by omega,rfl,nK,e1,e2⟩,λx H' y=> ?_⟩;have l2:=hlen i ys H2 p2;exact LM i x ys H2 H' p2 d2 nK y _ _ (λv H6 e6 p6=>⟨e6,by omega,ay,st _ _ _ _ _ e6 (λb u nb e=>by rw[aY nb];exact e) p6⟩) λH5 e5 p5=>⟨e5,p5⟩
 ·have e:i=n:=by omega
  subst e;exact .inl (CU ys H2 p2 d2)
theorem wU{J:It}{own:List Str}{fr:List (Str×Nat)}{g:TG}{tc:TT}{te:TE}{σ:L2.St}{H:Hp}{Q:VK}(n:Nat)(out:Nat->List V)(hn:n<=sizeLine)(ho:∀i,(out i).length<=1)
  (Zd:∀i H2,bU H H2->i<n->J.go i H2)(CU:∀H2,bU H H2->J.stop n H2)
  (LM:∀i x H2 H3,bU H H2->i<n->J.Sy i H2 x H3->∀(RT:V->Hp->Prop) (RF:Hp->Prop),(∀v H6,out i=[v]->bU H2 H6->RT v H6)->(∀H5,out i=[]->bU H2 H5->RF H5)->
   g x (BR own fr σ) H3 λσ3 H4=>Ext (BR own fr σ) σ3/\tc σ3 H4 λb H5=>if b=true then te σ3 H5 RT else RF H5)
  (q:∀D H2,H D=none->bU H H2->H2 D=some (.lst ((List.range n).flatMap out))->Q (.ref D) H2):IE J own fr g tc te σ H Q:=by
 have len:∀i,((List.range i).flatMap out).length<=i:=by
  intro i
  induction i with
  |zero=>simp
  |succ i ih=>
   have h1:=ho i;rw[yk,List.flatMap_append,bb];simp only [fK,List.flatMap_nil,cE];omega
 have nxt:∀i,(List.range (i+1)).flatMap out=(List.range i).flatMap out++out i:=λi=>by
  rw[yk,List.flatMap_append];simp
 refine Im λD hD=>⟨n,λi ys H2=>ys=(List.range i).flatMap out/\bU H H2,hn,⟨U,λb u e=>by rw[aY (bI e hD)];exact e⟩,λi ys H2 p=>by rw[p.1];exact len i,λi ys zs H2 H3 _ k p=>⟨p.1,λb u e=>k b u (bI e hD) (p.2 b u e)⟩,
  λi ys H2 p lt=>Zd i H2 p.2 lt,λys H2 p d=>⟨CU H2 p.2,q D H2 hD p.2 (by rw[<-p.1];exact d)⟩,λi x ys H2 H3 p d lt y RT RF rt rf=> ?_⟩
 exact LM i x H2 H3 p.2 lt y RT RF (λv H6 e s=>rt v H6 (s _ _ d) ⟨by rw[nxt,e,p.1],p.2.trans s⟩) λH5 e s=>rf H5 (s _ _ d) ⟨by rw[nxt,e,cE,p.1],p.2.trans s⟩
theorem kN{α β:Type}(f:α->β):∀l:List α,l.flatMap (λa=>[f a])=l.map f
 |[]=>rfl
 |a::l=>by rw[fK,aT,kN f l];rfl
theorem Cy{α β:Type}(xs:List α)(f:α->β)(d:β):(List.range xs.length).map (λi=>((xs[i]?).map f).getD d)=xs.map f:=by
 apply nP
 ·simp
 ·intro i h1 h2;have h3:i<xs.length:=by simpa using h1
  simp[h3]
theorem qk{α β:Type}(f:α->List β):∀xs:List α,(List.range xs.length).flatMap (λi=>((xs[i]?).map f).getD [])=xs.flatMap f
 |[]=>rfl
 |x::xs=>by
  rw[aZ,lZ,fK,List.flatMap_map,fK,<-qk f xs]
  rfl
theorem AL{J:It}{n:Nat}{g:TG}{tb:TS}{D:Ends}{σ:L2.St}{H:Hp}(Pv:Nat->L2.St->Hp->Prop)(h0:Pv 0 σ H)(Zd:∀i σ H,i<n->Pv i σ H->J.go i H)(CU:∀σ H,Pv n σ H->J.stop n H/\D.nx σ H)
  (hs:∀i x σ H H',i<n->Pv i σ H->J.Sy i H x H'->g x σ H' λσ2 H2=>tb {D with nx:=Pv (i+1),ct:=Pv (i+1),bk:=D.nx} σ2 H2):
  ∃W:Nat->Nat->L2.St->Hp->Prop,(∃m,W 0 m σ H)/\∀i m σ H,W i m σ H->
   (J.stop i H/\D.nx σ H)\/(J.go i H/\∃N:L2.St->Hp->Prop,(∀σ' H',N σ' H'->∃m',m'<m/\W (i+1) m' σ' H')/\∀x H',J.Sy i H x H'->g x σ H' λσ2 H2=>tb {D with nx:=N,ct:=N,bk:=D.nx} σ2 H2):=by
 refine⟨λi m σ H=>m=n-i/\i<=n/\Pv i σ H,⟨n,by simp,bz _,h0⟩, ?_⟩;rintro i m σ H ⟨rfl,hi,p⟩
 by_cases nK:i<n
 ·exact .inr ⟨Zd i σ H nK p,Pv (i+1),λσ' H' p'=>⟨n-(i+1),by omega,rfl,nK,p'⟩,λx H' y=>hs i x σ H H' nK p y⟩
 ·have e:i=n:=by omega
  subst e;exact .inl (CU σ H p)
theorem Yu:bootBuiltins "any"=some (.builtin "any"):=by decide+kernel
theorem pJ:bootBuiltins "sorted"=some (.builtin "sorted"):=by decide+kernel
theorem RG:bootBuiltins "tuple"=some (.type "tuple"):=by decide+kernel
section
variable {X:Cx} {pins:List (aj×Obj)} {σ:L2.St} {H:Hp} {s:ah}
theorem Xi{h:Heap}{L:aj}{m m':Str->Option af}(a:h.Ns L m)(b:h.Ns L m'):m=m':=by
 obtain⟨o,es,ep,e1,e2,_,e3⟩:=a;obtain⟨o',es',Rn,f1,f2,_,f3⟩:=b;rw[e1] at f1
 cases f1;rw[e2] at f2
 cases f2;exact funext λx=>(e3 x).symm.trans (f3 x)
theorem A5{m:Str->Option af}{g:Heap}{tk:Nat}{more:List (aj×Obj)}(I:L2.Inv X pins σ H s)(hm:s.heap.Ns X.env.locals m)(F:Fr X.base X.env.locals g m)(N:News X.base X.env.locals g (more++zA X.base s.heap X.env.locals)):L2.Inv X pins σ H {s with heap:=g,toks:=tk}:=by
 have kp:∀b o,b≠X.env.locals->s.heap.get? b=some o->g.get? b=some o:=λb o nb e=>by
  cases hb:X.base.get? b with
  |some o'=>
   have e2:=I.bk b o' hb;rw[e] at e2
   cases e2;exact F.keep b o hb
  |none=>exact(N (b,o) (aw _ (yt nb hb e))).1
 have nt:∀b u,H b=some u->b≠X.env.locals:=λb u e z=>by rw[z,I.free] at e;cases e
 refine I.step (g':=s.gens) (d':=s.drawn) (ch:=[]) (λ_ z=>nomatch z) (λb o nb _ _ e _=>kp b o nb e) (λb o nb _ _ e _=>⟨o.slots,kp b o nb e⟩) (λ_ _ _ _ n=>n) (λb o _ e=> ?_) (λ_ _ e=>e) (λ_ _ _ e=>e) (λ_ ps e=>⟨#[],by rw[e];simp⟩)
  (λm' hm'=>by rw[Xi hm' hm];exact F.ns) (λb u e=>(I.dw b u e).vP (λc v hc z=>kp c v ?_ z) (λ_ z=>z) λ_ _ z=>z) I.bare
 ·by_cases nb:b=X.env.locals
  ·obtain⟨o',_,_,e',_⟩:=F.ns;exact⟨o',by rw[nb];exact e'⟩
  ·exact⟨o,kp b o nb e⟩
 ·rcases hc with rfl|hc
  ·exact nt _ _ e
  ·exact nt _ _ hc
end
section
variable {X:Cx}
theorem Kz(hc:X.calm=true):iH X (.builtin "any") (λxs H Q=>∃(p:aj) (bs:List Bool),xs=[.ref p]/\cK X.K H p (bs.map V.bl)/\Q (.bl (bs.any id)) H):=by
 intro pins s σ H xs us Q I r h;obtain⟨p,bs,rfl,hq,q⟩:=h;obtain⟨u,rfl,rx⟩:=vals1 r;cases rx;obtain⟨its,r',pl,hz⟩:=I.list hq;have hb:=uI r';have nK:p<s.heap.objs.size:=pl.lt;refine call_any_walk (fk pl.isList ?_);refine⟨s.heap.objs.size,[s.heap.objs.size,p],[s.heap.objs.size],its.toArray.size,_,_,λi=>(bs[i]?).getD false,U,Walks.list (A:=X.A.in1) (I.ok.hd hc) _ p (bc nK) its.toArray,
  ⟨⟨_,aM _ rfl,rfl,rfl⟩,pl.isList.push _⟩,λi v s' Q' E' hP hQ=> ?_,λh' tk hk=> ?_⟩
 ·obtain⟨bit,Yo,rfl⟩:=hb.get i v (by simpa using hP);simp only [Yo,Option.getD_some] at hQ
  exact dX hQ
 ·have e:((List.range its.toArray.size).any λi=>(bs[i]?).getD false)=bs.any id:=by
   rw[aL,hb.length];exact LSm.range_any bs
  rw[e];exact⟨.bl (bs.any id),H,I.kept (LSm.kept_iter hk),U,q⟩
def A7(ns:List Int)(M:Int):Prop:=M∈ns/\∀a∈ns,a<=M
def VX(ns:List Int)(M:Int):Prop:=M∈ns/\∀a∈ns,M<=a
theorem AS(hc:X.calm=true):iH X (.builtin "min") (λxs H Q=>∃(p:aj) (ns:List Int),xs=[.ref p]/\cK X.K H p (ns.map V.int)/\ns≠[]/\∀M,VX ns M->Q (.int M) H):=by
 intro pins s σ H xs us Q I r h;obtain⟨p,ns,rfl,hq,Zb,q⟩:=h;obtain⟨u,rfl,rx⟩:=vals1 r;cases rx;obtain⟨its,r',pl,hz⟩:=I.list hq;obtain⟨m,F⟩:=I.fr;exact min_list_N (I.ok.hd hc) F Gx pl.isList (intsAre_of r') (List.length_pos_iff.mpr Zb) λh' M t tk F' N' hm hle=>⟨.int M,H,A5 (more:=[]) I F.ns F' N',⟨t,U⟩,q M ⟨hm,hle⟩⟩
theorem qC:iH X (.type "dict") (λxs H Q=>∃a kvs,xs=[.ref a]/\Rd H a (.dK kvs)/\∀p,H p=none->Q (.ref p) (upd H p (.dK kvs))):=by
 intro pins s σ H xs us Q I r h;obtain⟨a,kvs,rfl,hq,q⟩:=h;obtain⟨u,rfl,rx⟩:=vals1 r;cases rx;exact Rx I hq λp s' hp I'=>⟨.ref p,_,I',U,q p hp⟩
theorem vR{prog:bo}{w:World}{A:bK}{E:af->ah->Prop}{s:ah}{a:aj}{vs:List af}{ss:List Str}{n:Nat}{Q:af->ah->Prop}(ho:s.heap.get? a=some (seqObj "list" vs.toArray n))(hS:StrsAre vs ss)(Kk:vs.length<64)
  (h:∀(out:Array af) (O_:List Str),StrsAre out.toList O_->O_.Perm ss->sortedS O_=true->Q .none {s with heap:=sortedHeap s.heap a vs out}):
  wpAny (model prog w) A (call (.builtin "list.sort") [.ref a]) Q E s:=by
 refine wpAny_call_entry slot_list_sort ⟨_,ho,U⟩ entry_list_sort (list_sort_treeK strKind_oneLt ho hS.keysOf (λv₁ v₂ rest e=>keyKind_strs (by rw[<-e];exact hS)) Kk λyI hp hs=>⟨_,U, ?_⟩) (args_list_sort _)
 obtain⟨to,z⟩:=sorted_out_str hS hp hs;exact h _ to z.1 z.2.1 z.2.2
theorem pN:∀{us:List af} {ys:List Str},StrsAre us ys->Vals (ys.map V.str) us
 |_,_,.nil=> .nil
 |_,_,.cons y t r=> .cons ⟨t,rfl⟩ (pN r)
end
def uD(a:aj)(kvs:List (Key×V))(H H2:Hp):Prop:=(∀b u,b≠a->H b=some u->H2 b=some u)/\∃o,H2 a=some (.pM o (.dK kvs))
theorem uD.rd{a:aj}{kvs:List (Key×V)}{H H2:Hp}(f:uD a kvs H H2):Rd H2 a (.dK kvs):=f.2.elim λo e=> .inr ⟨o,e⟩
theorem uD.rd2{a b:aj}{kvs ks:List (Key×V)}{H H2:Hp}(f:uD a kvs H H2)(ha:H a=some (.dK kvs))(hb:Rd H b (.dK ks)):Rd H2 b (.dK ks):=by
 by_cases e:b=a
 ·subst e;rcases hb with hb|⟨o,hb⟩
  ·rw[ha] at hb;cases hb;exact f.rd
  ·rw[ha] at hb;cases hb
 ·rcases hb with hb|⟨o,hb⟩
  ·exact .inl (f.1 b _ e hb)
  ·exact .inr ⟨o,f.1 b _ e hb⟩
theorem uD.ZD{H₀:Hp}{a:aj}{kvs:List (Key×V)}{H H2:Hp}(f:uD a kvs H H2)(ha:H a=some (.dK kvs))(hf:∀o u,H₀ a≠some (.pM o u)):BZ H₀ a H2 (upd H2 a (.dK kvs))/\bU H (upd H2 a (.dK kvs)):=by
 obtain⟨o,e⟩:=f.2;refine⟨⟨hf,o,_,e,U⟩,λb u h=> ?_⟩
 by_cases hb:b=a
 ·subst hb;rw[ha] at h
  cases h;exact ay
 ·rw[aY hb];exact f.1 b u hb h
theorem Ku{K:au}{H₀:Hp}{own:List Str}{fr:List (Str×Nat)}{te:TE}{σ:L2.St}{H:Hp}{Q:VK}{i0 i1 j:Nat}{a:aj}{kvs:List (Key×V)}(f:Key×V->V)(hv:σ[j]? =some (some (.ref a)))(ha:H a=some (.dK kvs))(hz:kvs.length<=sizeLine)(hf:∀o u,H₀ a≠some (.pM o u))
  (hx:∀v u,Ext (BR own fr σ) (((BR own fr σ).set i0 (some v)).set i1 (some u)))(he:∀kv∈kvs,∀H2 (Q2:VK),uD a kvs H H2->(∀H3,bU H2 H3->Q2 (f kv) H3)->te (((BR own fr σ).set i0 (some (kV kv.1))).set i1 (some kv.2)) H2 Q2)
  (q:∀D H2,bU H H2->H D=none->H2 D=some (.lst (kvs.map f))->Q (.ref D) H2):Vk H₀ a (F1 (QT (O0 (yH j))) own fr (Yi K 2 (Rb (CZ i0) (Rb (CZ i1) ZaV))) qX te) σ H Q:=by
 refine⟨_,hv,a,kvs,U,ha,λv hv0=>⟨v,a,kvs,U,ay, ?_,λo=> ?_⟩⟩
 ·rw[aY (bI ha hv0)];exact ha
 have hva:v≠a:=λe=>by rw[e,ha] at hv0;cases hv0
 have fs:∀{H2:Hp},bU (upd (upd H v (ku v a)) a (.pM o (.dK kvs))) H2->uD a kvs H H2:=λs=>⟨λb u n e=>s b u (by rw[aY n,aY (bI e hv0)];exact e),o,s _ _ ay⟩
 refine wU kvs.length (λi=>((kvs[i]?).map λkv=>[f kv]).getD []) hz (λi=>by cases kvs[i]? <;>simp) (λi H2 s lt=>⟨s _ _ ay,lt⟩) (λH2 s=>⟨s _ _ ay,aE _⟩) (λi x H2 H3 s lt y RT RF rt rf=> ?_) λD H2 hD s d=> ?_
 ·obtain⟨kv,p,e2,hp,e3,e4⟩:=y;subst e3 e4;have s3:bU H2 (upd H2 p (.tup [kV kv.1,kv.2])):=λb u e=>by rw[aY (bI e hp)];exact e
  refine⟨p,_,U,jU.of ay,U,_,_,U,_,_,U,U,hx _ _, ?_⟩;unfold qX;refine jH ?_;exact he kv (cI e2) _ RT (fs (s.trans s3)) λH4 s4=>rt _ H4 (by rw[e2];rfl) (s3.trans s4)
 ·have hDa:D≠a:=λe=>by rw[e,ay] at hD;cases hD
  have hDv:D≠v:=λe=>by rw[e,aY hva,ay] at hD;cases hD
  obtain⟨t1,t2⟩:=(fs s).ZD ha hf;refine⟨_,t1,q D _ t2 (by rw[aY hDa,aY hDv] at hD;exact hD) ?_⟩
  rw[aY hDa,d,qk (λkv:Key×V=>[f kv]) kvs,kN]
def yY(P:bo)(w:World)(A:bK)(s:ah)(y x:af)(k:Bool):Prop:=∀(E:af->ah->Prop) (Q:Bool->ah->Prop),Q k s->wpAny (model P w) A (eqBool y x) Q E s
def vo(P:bo)(w:World)(A:bK)(s:ah)(op:CmpOp)(y x:af)(k:Bool):Prop:=∀(E:af->ah->Prop) (Q:af->ah->Prop),Q (.bool k) s->wpAny (model P w) A (richCompare op y x) Q E s
theorem yY.refs{P:bo}{w:World}{A:bK}{s:ah}{l b:aj}{k:Bool}(n:l≠b)(h:vo P w A s .Eq (.ref l) (.ref b) k):yY P w A s (.ref l) (.ref b) k:=by
 intro E Q q;unfold eqBool;refine cy (cL (λz=>absurd (Value.ref.inj (eq_of_beq z)) n) λ_=>aa ?_);exact h E _ (dX q)
abbrev xO(d:Option aj)(t:Array af)(n:Nat)(sl:Array (Option af)):Obj:={cls:=.type "list",dict:=d,data:=.seq t n,slots:=sl}
abbrev MC(d:Option aj)(t:Array af)(n:Nat)(sl:Array (Option af)):Obj:={cls:=.type "tuple",dict:=d,data:=.seq t n,slots:=sl}
section
variable {P:bo} {w:World} (l b:aj) (xs ys:Array af) (n m:Nat) (d1 d2:Option aj) (s1 s2:Array (Option af)) (e:Nat->Bool)
theorem Rm(hz:xs.size=ys.size)(c:Int)(hc:c=2\/c=3)(k:Nat):∀i:Nat,xs.size-i=k->MeetsIn P w (Builtin.«list.__eq__.loop» ⟨[.ref l,.ref b,rawInt i,rawInt c],[]⟩)
  (λA R s=>s.heap.get? l=some (xO d1 xs n s1)/\s.heap.get? b=some (xO d2 ys m s2)/\(∀j (h1:j<xs.size) (h2:j<ys.size),yY P w A.in1 s xs[j] ys[j] (e j))/\
   R (.ok (.ret (.bool (if c=2 then((List.range xs.size).drop i).all e else !((List.range xs.size).drop i).all e)))) s):=by
 induction k with
 |zero=>
  intro i hk A R s h;obtain⟨hq,gs,dr,tk,Bc⟩:=s;obtain⟨u1,u2,ue,q⟩:=h;have v1:xs[((i:Nat):Int).toNat]? =none:=by simp;omega
  have v2:ys[((i:Nat):Int).toNat]? =none:=by simp;omega
  have v3:(List.range xs.size).drop i=[]:=by simp;omega
  rw[v3] at q
  rcases hc with rfl|rfl
  ·wp_walk using aG u1,aG u2
   rw[v1,v2]
   wp_walk using aG u1,aG u2
   show R (.ok (.ret (.bool (xs.size==ys.size)))) _;rw[hz,cX];exact q
  ·wp_walk using aG u1,aG u2
   rw[v1,v2]
   wp_walk using aG u1,aG u2
   show R (.ok (.ret (.bool (xs.size !=ys.size)))) _;rw[hz,uh];exact q
 |succ k ih=>
  intro i hk A R s h;obtain⟨hq,gs,dr,tk,Bc⟩:=s;obtain⟨u1,u2,ue,q⟩:=h;have t1:i<xs.size:=by omega
  have t2:i<ys.size:=by omega
  have v1:xs[((i:Nat):Int).toNat]? =some xs[i]:=by simp[t1]
  have v2:ys[((i:Nat):Int).toNat]? =some ys[i]:=by simp[t2]
  have v3:(List.range xs.size).drop i=i::(List.range xs.size).drop (i+1):=by simp[cB,t1]
  have v4:((i:Int)+1)=((i+1:Nat):Int):=by push_cast;rfl
  rw[v3,fG] at q
  rcases hc with rfl|rfl
  ·wp_walk using aG u1,aG u2
   rw[v1,v2];refine aa (ue i t1 t2 _ _ ?_);cases ei:e i with
   |true=>
    rw[ei,gR] at q
    wp_walk
    rw[v4];refine⟨de cQ _,cW gQ ?_⟩;rw[cP cQ _];exact ih (i+1) (by omega) A R _ ⟨u1,u2,ue,q⟩
   |false=>
    rw[ei,iP] at q
    wp_walk using aG u1,aG u2
    rw[v1,v2]
    wp_walk
    exact q
  ·wp_walk using aG u1,aG u2
   rw[v1,v2];refine aa (ue i t1 t2 _ _ ?_);cases ei:e i with
   |true=>
    rw[ei,gR] at q
    wp_walk
    rw[v4];refine⟨de cQ _,cW gQ ?_⟩;rw[cP cQ _];exact ih (i+1) (by omega) A R _ ⟨u1,u2,ue,q⟩
   |false=>
    rw[ei,iP] at q
    wp_walk using aG u1,aG u2
    rw[v1,v2]
    wp_walk
    exact q
theorem Yn(hz:xs.size=ys.size):MeetsIn P w (Builtin.«list.__eq__» ⟨[.ref l,.ref b],[]⟩) (λA R s=>s.heap.get? l=some (xO d1 xs n s1)/\s.heap.get? b=some (xO d2 ys m s2)/\
  (∀j (h1:j<xs.size) (h2:j<ys.size),yY P w A.in1 s xs[j] ys[j] (e j))/\R (.ok (.ret (.bool ((List.range xs.size).all e)))) s):=by
 intro A R s h;obtain⟨hq,gs,dr,tk,Bc⟩:=s;obtain⟨u1,u2,ue,q⟩:=h;have sub:=Bp;have v0:¬(xs.size !=ys.size)=true:=by simp[hz]
 wp_walk using aG u1,aG u2
 refine⟨de cQ _,cW gQ ?_⟩;rw[cP cQ _];exact Rm l b xs ys n m d1 d2 s1 s2 e hz 2 (.inl U) _ 0 U A R _ ⟨u1,u2,ue,by simpa using q⟩
theorem Xo(hz:xs.size=ys.size):MeetsIn P w (Builtin.«list.__ne__» ⟨[.ref l,.ref b],[]⟩) (λA R s=>s.heap.get? l=some (xO d1 xs n s1)/\s.heap.get? b=some (xO d2 ys m s2)/\
  (∀j (h1:j<xs.size) (h2:j<ys.size),yY P w A.in1 s xs[j] ys[j] (e j))/\R (.ok (.ret (.bool (!(List.range xs.size).all e)))) s):=by
 intro A R s h;obtain⟨hq,gs,dr,tk,Bc⟩:=s;obtain⟨u1,u2,ue,q⟩:=h;have sub:=Bp;have v0:¬(xs.size !=ys.size)=true:=by simp[hz]
 wp_walk using aG u1,aG u2
 refine⟨de cQ _,cW gQ ?_⟩;rw[cP cQ _];exact Rm l b xs ys n m d1 d2 s1 s2 e hz 3 (.inr U) _ 0 U A R _ ⟨u1,u2,ue,by simpa using q⟩
abbrev k8(xs ys:Array af)(e:Nat->Bool)(i:Nat):Bool:=((List.range (min xs.size ys.size)).drop i).all e&&xs.size==ys.size
theorem ZaX:MeetsIn P w (Builtin.«tuple.__eq__» ⟨[.ref l,.ref b],[]⟩) (λA R s=>s.heap.get? l=some (MC d1 xs n s1)/\s.heap.get? b=some (MC d2 ys m s2)/\
  (∀j (h1:j<xs.size) (h2:j<ys.size),yY P w A.in1 s xs[j] ys[j] (e j))/\R (.ok (.ret (.bool (k8 xs ys e 0)))) s):=
 .of_wp λA R s h=>by
  obtain⟨hq,gs,dr,tk,Bc⟩:=s;obtain⟨u1,u2,ue,q⟩:=h;have sub:=yE;have zl:(xs.toList.zip ys.toList).length=min xs.size ys.size:=by simp
  wp_walk using aG u1,aG u2,wpAny_forIn_list _ (λrest a s'=>a.1=none/\s'=⟨hq,gs,dr,tk,Bc⟩/\∃i,rest=(xs.toList.zip ys.toList).drop i/\
   R (.ok (.ret (.bool (k8 xs ys e i)))) ⟨hq,gs,dr,tk,Bc⟩) _
  case turn=>
   rintro⟨y,x⟩ rest a s' ⟨ha,rfl,i,zr,zq⟩;have lt:i<(xs.toList.zip ys.toList).length:=vC λz=>by rw[dW z] at zr;cases zr
   have lm:i<min xs.size ys.size:=zl▸lt;have l1:i<xs.size:=by omega
   have l2:i<ys.size:=by omega
   rw[cB lt] at zr
   injection zr with Vi FP
   obtain rfl:y=xs[i]:=by simpa using dc Prod.fst Vi
   obtain rfl:x=ys[i]:=by simpa using dc Prod.snd Vi
   have zd:(List.range (min xs.size ys.size)).drop i=i::(List.range (min xs.size ys.size)).drop (i+1):=by simp[cB,lm]
   unfold k8 at zq
   rw[zd,fG] at zq
   refine aa (ue i l1 l2 _ _ ?_);cases ei:e i with
   |true=>
    rw[ei,gR] at zq
    wp_walk
    exact⟨U,U,i+1,FP,zq⟩
   |false=>
    rw[ei,iP,iP] at zq
    wp_walk
    exact⟨_,U,zq⟩
  case fin=>
   rintro⟨a1,a2⟩ s' ⟨ha,rfl,i,zr,zq⟩;simp only at ha
   subst ha;have ge:min xs.size ys.size<=i:=fX λz=>by rw[cB (zl▸z:i<(xs.toList.zip ys.toList).length)] at zr;cases zr
   unfold k8 at zq
   rw[dW (by simpa using ge)] at zq
   wp_walk
   exact⟨_,U,by simpa [Builtin.Tuple.tupleCompareSizes] using zq⟩
  case h=>exact⟨U,U,0,U,q⟩
theorem Zao:MeetsIn P w (Builtin.«tuple.__ne__» ⟨[.ref l,.ref b],[]⟩) (λA R s=>s.heap.get? l=some (MC d1 xs n s1)/\s.heap.get? b=some (MC d2 ys m s2)/\
  (∀j (h1:j<xs.size) (h2:j<ys.size),yY P w A.in1 s xs[j] ys[j] (e j))/\R (.ok (.ret (.bool (!k8 xs ys e 0)))) s):=
 .of_wp λA R s h=>by
  obtain⟨hq,gs,dr,tk,Bc⟩:=s;obtain⟨u1,u2,ue,q⟩:=h;have sub:=yE;have zl:(xs.toList.zip ys.toList).length=min xs.size ys.size:=by simp
  wp_walk using aG u1,aG u2,wpAny_forIn_list _ (λrest a s'=>a.1=none/\s'=⟨hq,gs,dr,tk,Bc⟩/\∃i,rest=(xs.toList.zip ys.toList).drop i/\
   R (.ok (.ret (.bool (!k8 xs ys e i)))) ⟨hq,gs,dr,tk,Bc⟩) _
  case turn=>
   rintro⟨y,x⟩ rest a s' ⟨ha,rfl,i,zr,zq⟩;have lt:i<(xs.toList.zip ys.toList).length:=vC λz=>by rw[dW z] at zr;cases zr
   have lm:i<min xs.size ys.size:=zl▸lt;have l1:i<xs.size:=by omega
   have l2:i<ys.size:=by omega
   rw[cB lt] at zr
   injection zr with Vi FP
   obtain rfl:y=xs[i]:=by simpa using dc Prod.fst Vi
   obtain rfl:x=ys[i]:=by simpa using dc Prod.snd Vi
   have zd:(List.range (min xs.size ys.size)).drop i=i::(List.range (min xs.size ys.size)).drop (i+1):=by simp[cB,lm]
   unfold k8 at zq
   rw[zd,fG] at zq
   refine aa (ue i l1 l2 _ _ ?_);cases ei:e i with
   |true=>
    rw[ei,gR] at zq
    wp_walk
    exact⟨U,U,i+1,FP,zq⟩
   |false=>
    rw[ei,iP,iP] at zq
    wp_walk
    exact⟨_,U,zq⟩
  case fin=>
   rintro⟨a1,a2⟩ s' ⟨ha,rfl,i,zr,zq⟩;simp only at ha
   subst ha;have ge:min xs.size ys.size<=i:=fX λz=>by rw[cB (zl▸z:i<(xs.toList.zip ys.toList).length)] at zr;cases zr
   unfold k8 at zq
   rw[dW (by simpa using ge)] at zq
   wp_walk
   exact⟨_,U,by simpa [Builtin.Tuple.tupleCompareSizes,bne] using zq⟩
  case h=>exact⟨U,U,0,U,q⟩
end
theorem lW{c:Bool}{Q E:af->ah->Prop}{s:ah}(q:Q (.bool c) s):wants (λv s'=>v≠.notImplemented/\Q v s') E (.ok (.ret (.bool c))) s:=⟨(λz=>nomatch z),q⟩
section
variable {P:bo} {w:World} {A:bK} {s:ah} {l b:aj} {xs ys:Array af} {e:Nat->Bool}
theorem D5(hl:s.heap.IsList l xs)(hb:s.heap.IsList b ys)(hz:xs.size=ys.size)(hu:A.units<cLine)(he:∀j (h1:j<xs.size) (h2:j<ys.size),yY P w A.in1 s xs[j] ys[j] (e j)):vo P w A s .Eq (.ref l) (.ref b) ((List.range xs.size).all e)/\vo P w A s .NotEq (.ref l) (.ref b) (!(List.range xs.size).all e):=by
 obtain⟨⟨c1,d1,t1,s1⟩,o1,k1,n,e1⟩:=id hl;obtain⟨⟨c2,d2,t2,s2⟩,o2,k2,m,e2⟩:=id hb;simp only at k1 e1 k2 e2
 subst k1 e1 k2 e2;exact⟨λE Q q=>fO hl.typeIs hb.typeIs F.slot_list_eq (gB F.slot_list_eq hl.typeIs F.entry_list_eq (F.args_list_eq_2 _ _) (Yn l b xs ys n m d1 d2 s1 s2 e hz) ⟨o1,o2,he,lW q⟩) hu,
  λE Q q=>fO hl.typeIs hb.typeIs F.slot_list_ne (gB F.slot_list_ne hl.typeIs F.entry_list_ne (F.args_list_ne_2 _ _) (Xo l b xs ys n m d1 d2 s1 s2 e hz) ⟨o1,o2,he,lW q⟩) hu⟩
theorem Cw(hl:s.heap.IsList l xs)(hb:s.heap.IsList b ys)(hz:xs.size≠ys.size)(hu:A.units<cLine):vo P w A s .Eq (.ref l) (.ref b) false/\vo P w A s .NotEq (.ref l) (.ref b) true:=
 ⟨λE Q q=>SeqAt.RcAt.lists_lengths hl hb (by simpa using hz) hu P w E Q q,λE Q q=>SeqAt.RcNeAt.lists_lengths hl hb (by simpa using hz) hu P w E Q q⟩
theorem Zad(hl:s.heap.IsTuple l xs)(hb:s.heap.IsTuple b ys)(hu:A.units<cLine)(he:∀j (h1:j<xs.size) (h2:j<ys.size),yY P w A.in1 s xs[j] ys[j] (e j)):vo P w A s .Eq (.ref l) (.ref b) (k8 xs ys e 0)/\vo P w A s .NotEq (.ref l) (.ref b) (!k8 xs ys e 0):=by
 obtain⟨⟨c1,d1,t1,s1⟩,o1,k1,n,e1⟩:=id hl;obtain⟨⟨c2,d2,t2,s2⟩,o2,k2,m,e2⟩:=id hb;simp only at k1 e1 k2 e2
 subst k1 e1 k2 e2;exact⟨λE Q q=>fO hl.typeIs hb.typeIs F.slot_tuple_eq (gB F.slot_tuple_eq hl.typeIs F.entry_tuple_eq (F.args_tuple_eq_2 _ _) (ZaX l b xs ys n m d1 d2 s1 s2 e) ⟨o1,o2,he,lW q⟩) hu,
  λE Q q=>fO hl.typeIs hb.typeIs F.slot_tuple_ne (gB F.slot_tuple_ne hl.typeIs F.entry_tuple_ne (F.args_tuple_ne_2 _ _) (Zao l b xs ys n m d1 d2 s1 s2 e) ⟨o1,o2,he,lW q⟩) hu⟩
def OC(a b:List (Key×V)):Bool:=a.length==b.length&&a.all λkv=>match l9 b kv.1 with|some u=>IJ kv.2 u|none=>false
theorem LO{kb:List (Key×V)}{vb:List (Key×af)}(rb:KV kb vb)(fb:∀kv∈kb,ig kv.2=true){ka:List (Key×V)}{va:List (Key×af)}(ra:KV ka va)(fa:∀kv∈ka,ig kv.2=true):
  PySem.W.KeqHits A s vb va (ka.all λkv=>match l9 kb kv.1 with|some u=>IJ kv.2 u|none=>false):=by
 induction ra with
 |nil=>exact .nil
 | @cons p q ps qs h t ih=>
  obtain⟨k,v⟩:=p;obtain⟨k',u⟩:=q;obtain⟨e1,e2⟩:=h;have e1:k=k':=e1;subst e1;have e2:RelV v u:=e2;have fr:=ih λkv hm=>fa kv (aF _ hm);have fv:ig v=true:=fa (k,v) (aB ..);have rv:=KV.val rb k;rw[fG];cases hv:l9 kb k with
  |none=>
   rw[hv] at rv
   exact .miss (qK.none_of rv)
  |some y=>
   rw[hv] at rv
   cases hw:valueAt vb k with
   |none=>rw[hw] at rv;exact rv.elim
   |some u'=>
    rw[hw] at rv
    have fy:ig y=true:=by
     unfold l9 at hv
     cases hf:kb.find? (λkv=>decide (kv.1=k)) with
     |none=>rw[hf] at hv;exact nomatch hv
     |some p=>rw[hf] at hv;cases hv;exact fb p (List.mem_of_find?_eq_some hf)
    exact .hit hw (Kr e2 rv fv fy) fr
theorem WR{ka kb:List (Key×V)}{va vb:List (Key×af)}(ha:(l==sysModules)=false)(hb:(b==sysModules)=false)(da:s.heap.DictOf (eJ P w) l va)(db:s.heap.DictOf (eJ P w) b vb)(ra:KV ka va)(rb:KV kb vb)
  (fa:∀kv∈ka,ig kv.2=true)(fb:∀kv∈kb,ig kv.2=true)(hu:A.units<cLine):vo P w A s .Eq (.ref l) (.ref b) (OC ka kb)/\vo P w A s .NotEq (.ref l) (.ref b) (!OC ka kb):=by
 have e1:ka.length=va.length:=cA ra;have e2:kb.length=vb.length:=cA rb;unfold OC;rw[e1,e2];exact⟨λE Q q=>keq_eq ha hb da db hu (λ_=>LO rb fb ra fa) q,λE Q q=>keq_ne ha hb da db hu (λ_=>LO rb fb ra fa) q⟩
end
inductive Dt where
 |v (x:V)|lst (ds:List Dt)|tup (ds:List Dt)|C6 (kvs:List (Key×V))
inductive Rep (K:au) (H:Hp):Dt->V->Prop where
 |flat {x:V} (f:ig x=true):Rep K H (.v x) x
 |lst {a:aj} {ds:List Dt} {xs:List V} (h:cK K H a xs) (r:Paired (Rep K H) ds xs):Rep K H (.lst ds) (.ref a)
 |tup {a:aj} {ds:List Dt} {xs:List V} (h:jU K H a xs) (r:Paired (Rep K H) ds xs):Rep K H (.tup ds) (.ref a)
 |C6 {a:aj} {kvs:List (Key×V)} (h:Rd H a (.dK kvs)) (f:∀kv∈kvs,ig kv.2=true):Rep K H (.C6 kvs) (.ref a)
abbrev IA(K:au)(H:Hp)(ds:List Dt)(xs:List V):Prop:=Paired (Rep K H) ds xs
def gX:Nat->Dt->Dt->Bool
 |_,.v x,.v y=>IJ x y
 |n+1,.lst a,.lst b=>a.length==b.length&&(a.zip b).all λp=>gX n p.1 p.2
 |n+1,.tup a,.tup b=>(a.zip b).all (λp=>gX n p.1 p.2)&&a.length==b.length
 |_+1,.C6 a,.C6 b=>OC a b
 |_,_,_=>false
def kM:Nat->Dt->Dt->Bool
 |_,.v _,.v _=>true
 |n+1,.lst a,.lst b=>(a.zip b).all λp=>kM n p.1 p.2
 |n+1,.tup a,.tup b=>(a.zip b).all λp=>kM n p.1 p.2
 |_+1,.C6 _,.C6 _=>true
 |_,_,_=>false
theorem sC{x:V}(f:ig x=true):IJ x x=true:=by
 cases x with
 |fR=>rfl
 |bl b=>exact cX b
 |int i=>exact cX i
 |str z=>exact cX z
 |_=>exact absurd (show false=true from f) bj
theorem Rz{kvs:List (Key×V)}(nd:(kvs.map (·.1)).Nodup)(f:∀kv∈kvs,ig kv.2=true):OC kvs kvs=true:=by
 unfold OC;rw[cX,gR,eP];intro kv hm;have e:l9 kvs kv.1=some kv.2:=by
  clear f
  induction kvs with
  |nil=>cases hm
  |cons p r ih=>
   rw[aT,cD] at nd
   rcases aJ.mp hm with rfl|more
   ·exact o_ U
   ·rw[rF (λz=>nd.1 (by rw[z];exact a5.mpr ⟨kv,more,U⟩))]
    exact ih nd.2 more
 rw[e];exact sC (f kv hm)
theorem WO{H:Hp}{a:aj}{k1 k2:List (Key×V)}(h1:Rd H a (.dK k1))(h2:Rd H a (.dK k2)):k1=k2:=by
 rcases h1 with h1|⟨o1,h1⟩<;>rcases h2 with h2|⟨o2,h2⟩<;>(rw[h1] at h2;cases h2;try rfl)
section
variable {X:Cx} {pins:List (aj×Obj)} {σ:L2.St} {H:Hp} {s:ah}
theorem Px{a:aj}{kvs:List (Key×V)}(I:L2.Inv X pins σ H s)(h:Rd H a (.dK kvs)):(kvs.map (·.1)).Nodup:=by
 obtain⟨_,_,vs,rel,dd⟩:=rg I.dw h;rw[KV.keys rel];obtain⟨ep,Yg⟩:=dd.dictAt;exact Yg.nodup
theorem Pw(I:L2.Inv X pins σ H s):∀(n:Nat) (d e:Dt) (x:V),Rep X.K H d x->Rep X.K H e x->kM n d e=true->gX n d e=true:=by
 have all2:∀n,(∀(d e:Dt) (x:V),Rep X.K H d x->Rep X.K H e x->kM n d e=true->gX n d e=true)->∀{ds es:List Dt} {xs:List V},IA X.K H ds xs->IA X.K H es xs->((ds.zip es).all λp=>kM n p.1 p.2)=true->
   ds.length=es.length/\((ds.zip es).all λp=>gX n p.1 p.2)=true:=by
  intro n ih ds es xs r1
  induction r1 generalizing es with
  |nil=>intro r2 _;cases r2;exact⟨U,U⟩
  |cons h1 t1 ih2=>
   intro r2 lk;cases r2 with
   |cons h2 t2=>
    rw[eF,fG,cZ] at lk
    obtain⟨z1,z2⟩:=ih2 t2 lk.2;refine⟨by simp[z1], ?_⟩;rw[eF,fG,cZ];exact⟨ih _ _ _ h1 h2 lk.1,z2⟩
 intro n
 induction n with
 |zero=>
  intro d e x h1 h2 lk;cases h1 with
  |flat f=>
   cases h2 with
   |flat f2=>exact sC f
   |_=>cases f
  |_=>cases h2<;>cases lk
 |succ n ih=>
  intro d e x h1 h2 lk;cases h1 with
  |flat f=>
   cases h2 with
   |flat f2=>exact sC f
   |_=>cases f
  |lst q1 r1=>
   cases h2 with
   |lst q2 r2=>
    cases I.Az q1 q2;obtain⟨z1,z2⟩:=all2 n ih r1 r2 lk;show(_==_&&_)=true;rw[z1,cX,gR];exact z2
   |_=>cases lk
  |tup q1 r1=>
   cases h2 with
   |tup q2 r2=>
    cases I.My q1 q2;obtain⟨z1,z2⟩:=all2 n ih r1 r2 lk;show(_&&_==_)=true;rw[z1,cX,Bool.and_true];exact z2
   |_=>cases lk
  |C6 q1 f1=>
   cases h2 with
   |C6 q2 f2=>
    cases WO q1 q2;exact Rz (Px I q1) f1
   |_=>cases lk
theorem y3{n:Nat}{f:Nat->Dt->Dt->Bool}:∀(ds es:List Dt),((ds.zip es).all λp=>f n p.1 p.2)=(List.range (min ds.length es.length)).all λj=>f n (ds.getD j (.v .fR)) (es.getD j (.v .fR))
 |[],es=>by simp
 |_::_,[]=>by simp
 |d::ds,e::es=>by
  rw[eF,fG,y3 ds es,aZ,aZ,Nat.succ_min_succ,lZ,fG,List.all_map]
  rfl
theorem y9{K:au}:∀{ds:List Dt} {xs:List V} {us:List af} (_:IA K H ds xs) (_:Vals xs us) (j:Nat) (h:j<us.length),∃x,Rep K H (ds.getD j (.v .fR)) x/\RelV x us[j]
 |_,_,_,.nil,.nil,j,h=>absurd h (eI _)
 |_,_,_,.cons r _,.cons v _,0,_=>⟨_,r,v⟩
 |_,_,_,.cons _ t,.cons _ vt,j+1,h=>by
  obtain⟨x,a,b⟩:=y9 t vt j (by simpa using h);exact⟨x,a,b⟩
theorem vV(I:L2.Inv X pins σ H s):∀(n:Nat) (d e:Dt) (x y:V) (u v:af) (A:bK),Rep X.K H d x->Rep X.K H e y->RelV x u->RelV y v->kM n d e=true->A.units+n<cLine->
  yY X.prog X.w A s u v (gX n d e)/\(ig x=false->vo X.prog X.w A s .Eq u v (gX n d e)/\vo X.prog X.w A s .NotEq u v (!gX n d e)):=by
 have Ri:∀{x y:V} {u v:af} {A:bK},ig x=true->ig y=true->RelV x u->RelV y v->yY X.prog X.w A s u v (IJ x y):=λfx fy rx ry E Q q=>Kr rx ry fx fy X.prog X.w E Q q;have refl:∀{n:Nat} {d e:Dt} {a b:aj} {A:bK},Rep X.K H d (.ref a)->Rep X.K H e (.ref b)->kM n d e=true->(vo X.prog X.w A s .Eq (.ref a) (.ref b) (gX n d e)/\vo X.prog X.w A s .NotEq (.ref a) (.ref b) (!gX n d e))->
   yY X.prog X.w A s (.ref a) (.ref b) (gX n d e)/\(ig (.ref a)=false->vo X.prog X.w A s .Eq (.ref a) (.ref b) (gX n d e)/\vo X.prog X.w A s .NotEq (.ref a) (.ref b) (!gX n d e)):=λ{n d e a b A} h1 h2 lk rc=>by
  refine⟨?_,λ_=>rc⟩
  by_cases hab:a=b
  ·subst hab;rw[Pw I n d e _ h1 h2 lk];exact λE Q q=>Ca _ X.prog X.w E Q q
  ·exact yY.refs hab rc.1
 have item:∀n,(∀(d e:Dt) (x y:V) (u v:af) (A:bK),Rep X.K H d x->Rep X.K H e y->RelV x u->RelV y v->kM n d e=true->A.units+n<cLine->
   yY X.prog X.w A s u v (gX n d e)/\(ig x=false->vo X.prog X.w A s .Eq u v (gX n d e)/\vo X.prog X.w A s .NotEq u v (!gX n d e)))->∀{A:bK} {ds es:List Dt} {xs ys:List V} {us vs:List af},IA X.K H ds xs->IA X.K H es ys->Vals xs us->Vals ys vs->
   ((ds.zip es).all λp=>kM n p.1 p.2)=true->A.units+(n+1)<cLine->∀j (h1:j<us.toArray.size) (h2:j<vs.toArray.size),yY X.prog X.w A.in1 s us.toArray[j] vs.toArray[j] (gX n (ds.getD j (.v .fR)) (es.getD j (.v .fR))):=by
  intro n ih A ds es xs ys us vs r1 r2 v1 v2 lk hu j h1 h2;have l1:j<us.length:=by simpa using h1
  have l2:j<vs.length:=by simpa using h2
  obtain⟨x,a1,b1⟩:=y9 r1 v1 j l1;obtain⟨y,a2,b2⟩:=y9 r2 v2 j l2;have e1:=cA r1;have e2:=cA r2;have e3:=v1.length;have e4:=v2.length;rw[y3 (f:=kM),eP] at lk
  have lkj:=lk j (g7.mpr (by omega));have:=(ih _ _ x y us[j] vs[j] A.in1 a1 a2 b1 b2 lkj (by show A.units+1+n<cLine;omega)).1
  simpa using this
 intro n
 induction n with
 |zero=>
  intro d e x y u v A h1 h2 rx ry lk hu;cases h1 with
  |flat f=>
   cases h2 with
   |flat f2=>exact⟨Ri f f2 rx ry,λz=>by rw[f] at z;cases z⟩
   |_=>cases lk
  |_=>cases h2<;>cases lk
 |succ n ih=>
  intro d e x y u v A h1 h2 rx ry lk hu;have XY:A.units<cLine:=by omega
  cases h1 with
  |flat f=>
   cases h2 with
   |flat f2=>exact⟨Ri f f2 rx ry,λz=>by rw[f] at z;cases z⟩
   |_=>cases lk
  | @lst a ds xs q1 r1=>
   cases h2 with
   | @lst b es ys q2 r2=>
    cases rx;cases ry;refine refl (.lst q1 r1) (.lst q2 r2) lk ?_;obtain⟨us,v1,p1,_⟩:=I.list q1;obtain⟨vs,v2,p2,_⟩:=I.list q2;have e1:=cA r1;have e2:=cA r2;have e3:=v1.length;have e4:=v2.length
    by_cases hz:us.length=vs.length
    ·have rc:=D5 (P:=X.prog) (w:=X.w) (A:=A) (e:=λj=>gX n (ds.getD j (.v .fR)) (es.getD j (.v .fR))) p1.isList p2.isList (by simpa using hz) XY (item n ih r1 r2 v1 v2 lk hu);have ee:gX (n+1) (.lst ds) (.lst es)=(List.range us.toArray.size).all λj=>gX n (ds.getD j (.v .fR)) (es.getD j (.v .fR)):=by
      show(ds.length==es.length&&((ds.zip es).all λp=>gX n p.1 p.2))=_;have el:ds.length=es.length:=by omega
      have eu:us.toArray.size=es.length:=by rw[aL];omega
      rw[y3 (f:=gX),el,cX,gR,Nat.min_self,eu]
     rw[ee];exact rc
    ·have ee:gX (n+1) (.lst ds) (.lst es)=false:=by
      show(ds.length==es.length&&((ds.zip es).all λp=>gX n p.1 p.2))=false;have el:(ds.length==es.length)=false:=fQ.mpr (by omega);rw[el,iP]
     rw[ee];exact Cw p1.isList p2.isList (by simpa using hz) XY
   |_=>cases lk
  | @tup a ds xs q1 r1=>
   cases h2 with
   | @tup b es ys q2 r2=>
    cases rx;cases ry;refine refl (.tup q1 r1) (.tup q2 r2) lk ?_;obtain⟨us,v1,p1,_⟩:=I.tuple q1;obtain⟨vs,v2,p2,_⟩:=I.tuple q2;have e1:=cA r1;have e2:=cA r2;have e3:=v1.length;have e4:=v2.length;have rc:=Zad (P:=X.prog) (w:=X.w) (A:=A) (e:=λj=>gX n (ds.getD j (.v .fR)) (es.getD j (.v .fR))) (show s.heap.IsTuple a us.toArray from p1) (show s.heap.IsTuple b vs.toArray from p2) XY (item n ih r1 r2 v1 v2 lk hu)
    have ee:gX (n+1) (.tup ds) (.tup es)=k8 us.toArray vs.toArray (λj=>gX n (ds.getD j (.v .fR)) (es.getD j (.v .fR))) 0:=by
     show(((ds.zip es).all λp=>gX n p.1 p.2)&&ds.length==es.length)=_;unfold k8;rw[y3 (f:=gX),zI,aL,aL,show us.length=ds.length by omega,show vs.length=es.length by omega]
    rw[ee];exact rc
   |_=>cases lk
  | @C6 a ka q1 f1=>
   cases h2 with
   | @C6 b kb q2 f2=>
    cases rx;cases ry;refine refl (.C6 q1 f1) (.C6 q2 f2) lk ?_;obtain⟨_,z1,va,r1,dd1⟩:=rg I.dw q1;obtain⟨_,z2,vb,r2,dd2⟩:=rg I.dw q2;exact WR z1 z2 dd1 dd2 r1 r2 f1 f2 XY
   |_=>cases lk
end
section
variable {X:Cx}
def ZcA(K:au)(neg:Bool):R2:=λx y H Q=>∃n d e,n<=30/\ig x=false/\Rep K H d x/\Rep K H e y/\kM n d e=true/\Q (.bl (if neg then !gX n d e else gX n d e)) H
theorem P1(hu:X.A.units+30<cLine):vp X (compareOp .NotEq) (ZcA X.K true):=by
 intro pins s σ H x y v u Q I rx ry h;obtain⟨n,d,e,hn,fx,r1,r2,lk,q⟩:=h;exact((vV I n d e x y v u X.A r1 r2 rx ry lk (by omega)).2 fx).2 _ _ ⟨.bl _,H,I,U,q⟩
theorem Kf{A:bK}{k:Nat}(hr:gF k A):A.units+30<cLine:=rC (Nat.add_le_add_left (by decide:30<=64) _) hr.units
end
end L3
namespace M3
open PySem PySem.Spec PyProof.Rows L2 L3
abbrev Tb:=List (Str×Int)
def kk(c:Tb):List (Key×V):=c.map λp=>(Sum.inr p.1,V.int p.2)
def lk(c:Tb)(k:Str):Option Int:=(c.find? λp=>decide (p.1=k)).map (·.2)
def t9(c:Tb)(k:Str)(v:Int):Tb:=if(c.any λp=>decide (p.1=k))=true then c.map (λp=>if p.1=k then(p.1,v) else p) else c++[(k,v)]
theorem eT(c:Tb):(kk c).length=c.length:=by unfold kk;rw[ao]
theorem Dy(c:Tb)(k:Str):l9 (kk c) (Sum.inr k)=(lk c k).map V.int:=by
 induction c with
 |nil=>rfl
 |cons p r ih=>
  by_cases e:p.1=k
  ·have h1:lk (p::r) k=some p.2:=by simp[lk,cp,e]
   rw[h1];exact o_ (p:=(Sum.inr p.1,V.int p.2)) (by rw[e])
  ·have h1:lk (p::r) k=lk r k:=by simp[lk,cp,e]
   rw[h1,<-ih];exact rF (p:=(Sum.inr p.1,V.int p.2)) (λh=>e (Sum.inr.inj h))
theorem Yx(c:Tb)(k:Str):((kk c).any λkv=>decide (kv.1=Sum.inr k))=c.any λp=>decide (p.1=k):=by
 unfold kk;rw[List.any_map]
 congr 1
 funext p
 show decide ((Sum.inr p.1:Key)=Sum.inr k)=decide (p.1=k);exact QG p.1 k
theorem QF(c:Tb)(k:Str)(v:Int):putK (kk c) (Sum.inr k) (.int v)=kk (t9 c k v):=by
 unfold putK t9;rw[Yx];cases c.any λp=>decide (p.1=k) with
 |true=>
  rw[bg rfl,bg rfl];unfold kk;rw[cM,cM]
  apply jW
  intro p _;show(if(Sum.inr p.1:Key)=Sum.inr k then((Sum.inr p.1:Key),V.int v) else(Sum.inr p.1,V.int p.2))=(Sum.inr (if p.1=k then(p.1,v) else p).1,V.int (if p.1=k then(p.1,v) else p).2)
  by_cases e:p.1=k
  ·rw[bg (by rw[e]),bg e]
  ·rw[aX (λh=>e (Sum.inr.inj h)),aX e]
 |false=>
  rw[aX bj,aX bj];unfold kk;rw[bN]
  rfl
theorem LG(c:Tb):∀kv∈kk c,ig kv.2=true:=by
 intro kv h;unfold kk at h
 obtain⟨p,_,rfl⟩:=a5.mp h
 rfl
theorem Jt(c:Tb)(k:Str)(v:Int):(t9 c k v).length<=c.length+1:=by
 unfold t9
 split
 ·rw[ao];omega
 ·rw[bb];exact aE _
theorem kG{c:Tb}(nd:(c.map (·.1)).Nodup){p:Str×Int}(h:p∈c):lk c p.1=some p.2:=by
 induction c with
 |nil=>cases h
 |cons q r ih=>
  rw[aT,cD] at nd
  rcases aJ.mp h with rfl|more
  ·simp[lk,cp]
  ·have e:¬q.1=p.1:=λz=>nd.1 (by rw[z];exact a5.mpr ⟨p,more,U⟩)
   have h1:lk (q::r) p.1=lk r p.1:=by simp[lk,cp,e]
   rw[h1];exact ih nd.2 more
def below(a b:Tb):Bool:=a.all λp=>match lk b p.1 with|some u=>decide (p.2<=u)|none=>false
end M3
namespace M3
open PySem L2 L3
theorem MQ{c:Tb}{k:Str}{v:Int}(nd:(c.map (·.1)).Nodup):((t9 c k v).map (·.1)).Nodup:=by
 unfold t9
 split
 ·rw[cM];have e:((λp:Str×Int=>p.1)∘λp=>if p.1=k then(p.1,v) else p)=λp=>p.1:=by
   funext p
   show(if p.1=k then(p.1,v) else p).1=p.1
   split<;>rfl
  rw[e];exact nd
 ·rename_i h
  rw[bN];refine Lx nd λm=>h ?_;obtain⟨p,hp,e⟩:=a5.mp m;exact eB.mpr ⟨p,hp,bf e⟩
end M3
namespace L3
open PySem PySem.Spec PyProof.Rows L2
theorem Tt{X:Cx}{K:au}{es:List PySem.Expr}{k:Nat}{t:VS}{pos:Pos}(n:Nat)(hK:X.K=K)(hc:X.calm=true)(h:PGs X es t)(hn:(assignEach es X.env).length=n)(XZ:(assignEach es X.env).findIdx? (·.1)=none):PG X (.Tuple es k pos) (Yi K n t):=by
 subst hK;exact ql hc h hn XZ
structure KU (P:bo) (w:World) (K:au) (mg:Str->Option af) (base:Heap) (CX:Dn) (k:Nat) (x:Str) (C:aj) (ps:List Str) (sp:Sp):Prop where
 ex:∃(f:aj) (fd:bC),mg x=some (.ref C)/\Mk K C f/\Binds K fd ps []/\dJ P w K mg base CX k f fd ps sp
structure YB (K:au) (mg:Str->Option af) (x:Str) (C:aj):Prop where
 at_:mg x=some (.ref C)
 makes:makesIn K C=true
 init:PySem.W.findIn K (.ref C) "__init__"=some (some (.builtin "object.__init__"))
 kp:keepIn K (.ref C)=true
structure Sa (P:bo) (w:World) (K:au) (mg:Str->Option af) (base:Heap) (CX:Dn) (k:Nat) (m:Str) (ps:List Str) (sp:aj->Sp) (Zo:aj->Prop):Prop where
 ex:∀C,Zo C->IM K C/\∃(f:aj) (fd:bC),Meth K C m f/\Binds K fd ps []/\dJ P w K mg base CX k f fd ps (sp C)
theorem P8{P:bo}{w:World}{H:Hp}{h:Heap}{a:aj}{o:HO}(x:fB P w H h a o):∃ob,h.get? a=some ob:=by
 cases o with
 |lst xs=>obtain⟨_,_,_,_,e⟩:=x;exact⟨_,e⟩
 |tup xs=>obtain⟨_,_,_,ob,e,_⟩:=x;exact⟨ob,e⟩
 |dK kvs=>obtain⟨_,_,_,_,o,_,_,e,_⟩:=x;exact⟨o,e⟩
 |dT kvs=>obtain⟨_,_,_,_,o,_,_,e,_⟩:=x;exact⟨o,e⟩
 |set S n=>obtain⟨o,_,_,_,e,_⟩:=x;exact⟨o,e⟩
 |ins C dx fs=>obtain⟨_,_,_,e,_⟩:=x;exact⟨_,e⟩
 |own y=>exact x
 |xd fs=>obtain⟨_,⟨o,_,_,e,_⟩,_⟩:=x;exact⟨o,e⟩
 |rng lo hi=>obtain⟨_,_,_,e⟩:=x;exact⟨_,e⟩
 |pM ob u=>exact⟨ob,x.1⟩
 |Ot ps=>exact⟨_,x⟩
 |met f y=>exact⟨_,x⟩
 |ext φ=>exact x.2.1
section
variable {X:Cx} {pins:List (aj×Obj)} {σ:L2.St} {H:Hp} {s:ah} {n:aj} {q:HO}
theorem mT{σ₁:L2.St}{H₁:Hp}{s':ah}(I0:L2.Inv X pins σ₁ H₁ s)(I:L2.Inv X pins σ H s')(f0:H n=none)(hn:s.heap.get? n=none)(ok:fB X.prog X.w (upd H n q) s'.heap n q):L2.Inv X pins σ (upd H n q) s':=by
 have ns:∀b u,H b=some u->b≠n:=λb u e z=>by subst z;rw[f0] at e;cases e
 have nh:∀b o,s.heap.get? b=some o->b≠n:=λb o e z=>by subst z;rw[hn] at e;cases e
 have nL:X.env.locals≠n:=by
  obtain⟨m,⟨o,_,_,e,_⟩,_⟩:=I0.loc;exact nh _ o e
 refine⟨I.ok,I.os,I.bare,⟨I.base.keep,I.base.slot,λb o e m hx=> ?_,I.base.there,λb xs e=> ?_,λb o u e=> ?_,λb ps e=> ?_⟩,I.loc,I.cell, ?_,λx c e=> ?_,λz hz=> ?_,λb u e=> ?_,I.len⟩
 ·refine(aY ?_).trans (I.base.free b o e m hx);obtain⟨o',z⟩:=I0.base.there b o e hx;exact nh b o' z
 ·rw[aY (ns b _ (I.base.mZ b xs e))];exact I.base.mZ b xs e
 ·rw[aY (ns b _ (I.base.oA b o u e))];exact I.base.oA b o u e
 ·obtain⟨m,e2⟩:=I.base.rL b ps e;exact⟨m,by rw[aY (ns b _ e2)];exact e2⟩
 ·rw[aY nL];exact I.free
 ·obtain⟨v,o,z,_⟩:=I0.cell x c e;rw[aY (nh c o z)];exact I.eL x c e
 ·obtain⟨z1,z2,z3⟩:=I.pin z hz;exact⟨z1,by rw[aY (nh z.1 z.2 (I0.pin z hz).1)];exact z2,z3⟩
 ·by_cases hb:b=n
  ·subst hb;rw[ay] at e
   cases e;exact ok
  ·rw[aY hb] at e
   exact(I.dw b u e).vP (λ_ _ _ z=>z) (λc z=>by rw[aY (ns c _ z)];exact z) λc xs z=>by rw[aY (ns c _ z)];exact z
theorem KN{s':ah}(I0:L2.Inv X pins σ H s)(I:L2.Inv X pins σ H s')(hn:s.heap.get? n=none)(ok:fB X.prog X.w (upd H n q) s'.heap n q):L2.Inv X pins σ (upd H n q) s':=by
 refine mT I0 I ?_ hn ok;cases e:H n with
 |none=>rfl
 |some u=>
  obtain⟨ob,z⟩:=P8 (I0.dw n u e);rw[hn] at z
  cases z
end
section
variable {X:Cx} {CX:Dn} {k:Nat} {x m:Str} {C:aj} {ps:List Str} {sp:Sp} {sf:aj->Sp} {Zo:aj->Prop} {E:XK} {e o:PySem.Expr} {es:List PySem.Expr} {ta:TE} {t:TA} {p pos apos:Pos}
theorem Jw(c:KU X.prog X.w X.K X.mg X.base CX k x C ps sp)(hr:gF (k+1) X.A)(hg:Gl X x)(hx:Passes CX X E)(ha:PA X (e::es) t)(u7:(x==("__debug__":Str))=false:=by decide)
  (he:starEach (e::es) X.env=(false,eval e X.env)::starEach es X.env:=by rfl)(Bd:(backTo pos (starEach es X.env)).any (·.1)=false:=by rfl):PE X (.Call (.Name x p) (e::es) [] pos) (Vm C sp [] E t):=by
 obtain⟨f,fd,hm,M,hb,F⟩:=c.ex;exact Tz M F hr hg hm hb .nil hx ha u7 he Bd
def ZQ(C:aj):TE:=λ_ H Q=>∀x dx,H x=none->H dx=none->dx≠x->Q (.ref x) (upd (upd H dx (.own x)) x (.ins C dx []))
theorem Tw(c:YB X.K X.mg x C)(hg:Gl X x)(u7:(x==("__debug__":Str))=false:=by decide):PE X (.Call (.Name x p) [] [] pos) (ZQ C):=by
 intro pins s σ H Q I h;refine cU (jw I hg c.at_ ?_ u7);obtain⟨mm,F⟩:=I.fr;refine callWith_K0 I.q5 c.kp (PySem.W.call_cls0 F I.ok.mod.Vz Gx c.makes c.init λy dy g F' N' hl nK=> ?_);have I1:L2.Inv X pins σ H {s with heap:=g,toks:=s.toks}:=A5 (more:=[(y,instObj C dy),(dy,dictOf [] 0)]) I F.ns F' N';have gy:=N' (y,instObj C dy) (aB ..);have gd:=N' (dy,dictOf [] 0) (aF _ (aB ..));have fresh:∀z:aj,dy<=z->z≠X.env.locals->X.base.get? z=none->s.heap.get? z=none:=λz hz nl nb=>by
  cases e:s.heap.get? z with
  |none=>rfl
  |some ob=>exact absurd (hl (z,ob) (yt nl nb e)) (xc.mpr hz)
 have fd:=fresh dy (aE _) gd.2.1 gd.2.2;have fy:=fresh y (i9 nK) gy.2.1 gy.2.2;have I2:=KN (q:=.own y) I I1 fd ⟨_,gd.1⟩;have nH:∀z,s.heap.get? z=none->H z=none:=λz e=>by
  cases q:H z with
  |none=>rfl
  |some u=>obtain⟨ob,w⟩:=P8 (I.dw z u q);rw[e] at w;cases w
 have ne:dy≠y:=bc nK;have I3:L2.Inv X pins σ (upd (upd H dy (.own y)) y (.ins C dy [])) {s with heap:=g,toks:=s.toks}:=by
  have e3:g.Ns dy (λ_=>none):=⟨_, #[],_,gd.1,rfl,(λe he=>absurd he (by simp)),λ_=>rfl⟩
  have f0:upd H dy (.own y) y=none:=(aY (cY ne)).trans (nH y fy);have ok:fB X.prog X.w (upd (upd H dy (.own y)) y (.ins C dy [])) g y (.ins C dy []):=⟨by rw[aY ne,ay],bz _,ne,gy.1,λ_=>none,OG e3,λ_=>True.intro,λz hz=>absurd rfl hz⟩
  have ns:∀b u,upd H dy (.own y) b=some u->b≠y:=λb u e z=>by subst z;rw[f0] at e;cases e
  have nh:∀b o,s.heap.get? b=some o->b≠y:=λb o e z=>by subst z;rw[fy] at e;cases e
  refine⟨I2.ok,I2.os,I2.bare,⟨I2.base.keep,I2.base.slot,λb o e m hx=> ?_,I2.base.there,λb xs e=> ?_,λb o u e=> ?_,λb ps e=> ?_⟩,I2.loc,I2.cell, ?_,λx c e=> ?_,λz hz=> ?_,λb u e=> ?_,I2.len⟩
  ·refine(aY ?_).trans (I2.base.free b o e m hx);obtain⟨o',z⟩:=I.base.there b o e hx;exact nh b o' z
  ·rw[aY (ns b _ (I2.base.mZ b xs e))];exact I2.base.mZ b xs e
  ·rw[aY (ns b _ (I2.base.oA b o u e))];exact I2.base.oA b o u e
  ·obtain⟨m,e2⟩:=I2.base.rL b ps e;exact⟨m,by rw[aY (ns b _ e2)];exact e2⟩
  ·rw[aY (cY gy.2.1)];exact I2.free
  ·obtain⟨v,o,z,_⟩:=I.cell x c e;rw[aY (nh c o z)];exact I2.eL x c e
  ·obtain⟨z1,z2,z3⟩:=I2.pin z hz;exact⟨z1,by rw[aY (nh z.1 z.2 (I.pin z hz).1)];exact z2,z3⟩
  ·by_cases hb:b=y
   ·subst hb;rw[ay] at e
    cases e;exact ok
   ·rw[aY hb] at e
    exact(I2.dw b u e).vP (λ_ _ _ z=>z) (λc z=>by rw[aY (ns c _ z)];exact z) λc xs z=>by rw[aY (ns c _ z)];exact z
 exact⟨.ref y,_,I3,U,h y dy (nH y fy) (nH dy fd) ne⟩
def Ww(Zo:aj->Prop)(m:Str)(sf:aj->Sp)(E:XK)(ta:TE)(t:TA):TE:=λσ H Q=>ta σ H λx H1=>∃a C dx fs,x=.ref a/\H1 a=some (.ins C dx fs)/\Zo C/\fs.lookup m=none/\t σ H1 λvs H2=>sf C (x::vs) H2 Q E
theorem xD{pl:Sem Bool}(he:PE X o ta)(d:Sa X.prog X.w X.K X.mg X.base CX k m ps sf Zo)(hr:gF k X.A)(hx:Passes CX X E)(ha:PA X (e::es) t)
  (XZ:starEach (e::es) X.env=(false,eval e X.env)::starEach es X.env:=by rfl)(Bd:(backTo pos (starEach es X.env)).any (·.1)=false:=by rfl)
  (ht:eval (.Call (.Attribute o m apos) (e::es) [] pos) X.env=(do
   let ov<-eval o X.env
   standAt apos.atName
   let (f,first)<-holding [ov] (getMethod ov m pl)
   callWith pos f first (backTo pos (starEach (e::es) X.env)) (backToKw pos (keywordEach [] X.env))):=by rfl):PE X (.Call (.Attribute o m apos) (e::es) [] pos) (Ww Zo m sf E ta t):=by
 intro pins s σ H Q I h;refine PySem.W.methodCall_KW (pl:=pl) (eZ (he pins s σ H _ I h) λu s1 ⟨x,H1,I1,rx,a,C,dx,fs,ex,ea,fam,l,q⟩=> ?_) ht;subst ex;obtain rfl:u=Value.ref a:=rx;obtain⟨c,f,fd,hm,hb,F⟩:=d.ex C fam;refine Kl I1 ea c hm l ?_;refine callWith_K (first:=[.ref a]) (h₀:=X.base) I.ok.mod.Vz hm.kp (eZ (ha pos pins s1 σ H1 _ I1 q) λus s2 ⟨vs,H2,I2,r,q2⟩=>⟨I2.q5, ?_⟩) XZ Bd;exact Jq (us:=.ref a::us) (vs:=.ref a::vs) F hr hb .nil hx I2 (.cons U r) (by rw[cE];exact q2)
def WU(K:au):R2:=λx y H Q=>∃a b xs,x=.ref a/\y=.ref b/\cK K H a xs/\cK K H b []/\Q (.bl (decide (xs=[]))) H
theorem Gp(hu:X.A.units+30<cLine):vp X (compareOp .Eq) (WU X.K):=by
 intro pins s σ H x y v u Q I rx ry h;obtain⟨a,b,xs,rfl,rfl,h1,h2,q⟩:=h;cases rx;cases ry;obtain⟨us,v1,p1,_⟩:=I.list h1;obtain⟨vs,v2,p2,_⟩:=I.list h2;have e1:=v1.length;have e2:=v2.length;have XY:X.A.units<cLine:=by omega
 cases xs with
 |nil=>
  have el:us.toArray.size=vs.toArray.size:=by rw[aL,aL,<-e1,<-e2]
  have z:us.toArray.size=0:=by rw[aL,<-e1];rfl
  refine(D5 (P:=X.prog) (w:=X.w) (e:=λ_=>true) p1.isList p2.isList el XY λj h1 _=>absurd h1 (by omega)).1 _ _ ⟨.bl _,H,I, ?_,q⟩;rw[z]
  rfl
 |cons y r=>exact(Cw (P:=X.prog) (w:=X.w) p1.isList p2.isList (by rw[aL,aL,<-e1,<-e2];exact vB _) XY).1 _ _ ⟨.bl _,H,I,U,q⟩
end
theorem tR{P:bo}{w:World}{K:au}{mg:Str->Option af}{base:Heap}{CX:Dn}{k:Nat}{f:aj}{fd:bC}{ps:List Str}{sp:Sp}(h:∀vs H Q E,¬sp vs H Q E):dJ P w K mg base CX k f fd ps sp:=
 ⟨λvs H Q E z=>(h vs H Q E z).elim,λ_ _ _ H _ _ vs Q E _ _ _ _ z=>(h vs H Q E z).elim⟩
structure Zm (K:au) (C:aj):Prop where
 cl:IM K C
 ha:PySem.W.findIn K (.ref C) "__class__"=some (some (.builtin "object.__class__"))
 hn:PySem.W.specialIn K (.builtin "object.__class__") "__get__"=some (some (.builtin "getset_descriptor.__get__"))
 htk:PySem.W.takesIn K (.builtin "object.__class__")=some true
 hm:PySem.W.mroIn K C (.type "object")=some true
theorem Zm.of{K:au}{C a dx:aj}{H:Hp}{fs:List (Str×V)}(t:Zm K C)(e:H a=some (.ins C dx fs)):pL K H (.ref a) (.ref C):=.ins e t.cl t.ha t.hn t.htk t.hm
theorem jT{c A B:Prop} [Decidable c](hc:¬c)(h:B):if decide c=true then A else B:=by
 rw[bJ hc];exact ic h
theorem ZdN{α:Type}{P:List α->Prop}(h:P []):∀us:List α,us.length=0->P us
 |[],_=>h
theorem all1{α:Type}{P:List α->Prop}(h:∀a,P [a]):∀us:List α,us.length=1->P us
 |[a],_=>h a
theorem all2{α:Type}{P:List α->Prop}(h:∀a b,P [a,b]):∀us:List α,us.length=2->P us
 |[a,b],_=>h a b
theorem Fv{α:Type}{P:List α->Prop}(h:∀a b c,P [a,b,c]):∀us:List α,us.length=3->P us
 |[a,b,c],_=>h a b c
theorem Za8{α:Type}{P:List α->Prop}(h:∀a b c d,P [a,b,c,d]):∀us:List α,us.length=4->P us
 |[a,b,c,d],_=>h a b c d
theorem Pp:typeLookup (.type "list_reverseiterator") "__len__"=pure none:=by rw[typeLookup_type,Dr];kernel_rfl
theorem S_:typeLookup (.type "list_reverseiterator") "__length_hint__"=pure (some (.builtin "list_reverseiterator.__length_hint__")):=by rw[typeLookup_type,Dr];kernel_rfl
theorem S3:isSubtype (.type "list_reverseiterator") (.type "list_reverseiterator")=pure true:=by rw[isSubtype_type];kernel_rfl
section
variable {prog:bo} {w:World} {A:bK} {E:af->ah->Prop} {s:ah} {it l S:aj} {items:Array af}
theorem SY{i:Int}{Q:Bool->ah->Prop}(x:s.heap.IsRevIter it l i)(q:Q false s):wpAny (model prog w) A (Builtin.List.listLengthHint (.ref it)) Q E s:=by
 have ty:=x.typeIs
 delta Builtin.List.listLengthHint
 refine aa (wpAny_specialOf ty Pp (show wpAny _ A (specialOf _ (Str.ofString "__length_hint__")>>=_) _ _ s from aa (wpAny_specialOf ty S_ ?_)));generalize hid:"list_reverseiterator.__length_hint__"=d
 wp_delta
 rw[show splitId d=some ("list_reverseiterator","__length_hint__") by subst hid;decide+kernel]
 subst hid;exact aa (jf ty S3 (aq q))
theorem Ta{R:Result->ah->Prop}{c:Nat}{res:af}(hh:A.handled=none)(x:s.heap.IsRevIter it l ((items.size:Int)-1))(hl:s.heap.IsList l items)(hn:items.size<=sizeLine)(n1:S≠it)(n2:S≠l)(n3:l≠it)
  (hS:s.heap.get? S=some {cls:=.type "list",data:=.seq #[] c})
  (r:∀h' tk out c',(∀b o,b≠S->b≠it->s.heap.get? b=some o->h'.get? b=some o)->h'.get? S=some {cls:=.type "list",data:=.seq out c'}->ItemsOf (λi v=>items[items.size-1-i]? =some v) out items.size->R (.ok (.ret res)) {s with heap:=h',toks:=tk}):
  wpAny (model prog w) A.in1 (Builtin.List.listExtendWith (.ref S) (.ref it) res) (λfin s'=>match fin with| .done f=>R (.ok f) s'| .again c'=>c'.quiet=true/\codeAny (model prog w) A c' R s') (λe s'=>R (.error e) s') s:=by
 have W:=(Walks.listRev (prog:=prog) (w:=w) (A:=A.in1) hh it l n3 items).toS;have off:Builtin.List.listSameRef (.ref S) (.ref it)=false:=by simp[Builtin.List.listSameRef,n1]
 have st0:0<=items.size/\s.heap.IsRevIter it l ((items.size:Int)-1-((0:Nat):Int))/\s.heap.IsList l items:=⟨bz _,by simpa using x,hl⟩
 delta Builtin.List.listExtendWith
 refine aa (wpAny_typeOf x.typeIs ?_);rw[aX (by rw[off];decide)]
 refine aa (wpAny_pyIter_revIter x (aa (cy (SY x ?_))));rw[aX (by decide)];refine aq ⟨de F.plain_extend_loop _,codeAny_extend_loopS W hn S (by simp[n1,n2]) res _ 0 s #[] c U (bz _) st0 hS (ItemsOf.nil _) λs' out c' mv e1 e2=> ?_⟩;rw[mv.eq_with];exact r _ _ out c' (λb o b1 b2 e=>mv.heap b o (by simp[b1,b2]) e) e1 e2
theorem S4{Q:af->ah->Prop}(hh:A.handled=none)(x:s.heap.IsRevIter it l ((items.size:Int)-1))(hl:s.heap.IsList l items)(hn:items.size<=sizeLine)(n3:l≠it)
  (q:∀h' tk out c',(∀b o,b≠it->s.heap.get? b=some o->h'.get? b=some o)->h'.get? s.heap.objs.size=some {cls:=.type "list",data:=.seq out c'}->ItemsOf (λi v=>items[items.size-1-i]? =some v) out items.size->Q (.ref s.heap.objs.size) {s with heap:=h',toks:=tk}):wpAny (model prog w) A (call (.type "list") [.ref it]) Q E s:=by
 generalize hD:s.heap.objs.size=D at q
 have off:∀b o,s.heap.get? b=some o->D≠b:=λb o e z=>by
  have y:=aW e;rw[hD,z] at y
  exact dP b y
 obtain⟨ox,ex,_⟩:=id x;obtain⟨ol,el,_⟩:=id hl;have e0:(s.heap.push {cls:=.type "list",data:=.seq #[]}).get? D=some {cls:=.type "list",data:=.seq #[]}:=by subst hD;exact aM _ U
 have e1:=f_ (Obj.mapSeq λ_=>(#[]:Array af)) e0 rfl;have up:∀b o,s.heap.get? b=some o->((s.heap.push {cls:=.type "list",data:=.seq #[]}).update D (Obj.mapSeq λ_=>(#[]:Array af))).get? b=some o:=λb o e=>(eW _ _ (off b o e)).trans (ai _ e);refine callType_codes (Q₁:=λu s1=>u=.ref D/\s1={s with heap:=s.heap.push {cls:=.type "list",data:=.seq #[]}}) F.called_list (F.typeCall_list_1 _) F.entry_list_init (code_list_new _ ⟨dc Value.ref hD,U⟩) ?_
 rintro _ _ ⟨rfl,rfl⟩;refine⟨⟨_,e0,U⟩,F.args_list_init_2 _ _, ?_⟩;show wpAny _ _ ((seqItems? (.ref D)>>=_)>>=λ(old:Array af)=>updateSeq D (λ_=> #[])>>=λ_=>letGo old.toList.reverse>>=λ_=>Builtin.List.listExtendWith (.ref D) (.ref it) .none) _ _ _;refine aa (aa (wpAny_seqItems e0 U (aq (aa (wpAny_updateSeq e0 U (aa (rn ?_)))))));exact Ta (A:=A.in1) hh (x.at λo e=>up _ o e) (hl.at λo e=>up _ o e) hn (off _ _ ex) (off _ _ el) n3 e1 λh' tk out c' k z1 z2=>⟨U,q h' tk out c' (λb o b1 e=>k b o (cY (off b o e)) b1 (up b o e)) z1 z2⟩
end
section
variable {X:Cx} {e:PySem.Expr} {te:TE} {p p2 pos Zag:Pos}
theorem Pu{ys:List V}{us:List af}{out:Array af}(r:Vals ys us)(h:ItemsOf (λi v=>us.toArray[us.toArray.size-1-i]? =some v) out us.toArray.size):Vals ys.reverse out.toList:=by
 have e:out.toList=us.reverse:=by
  refine List.ext_getElem? λi=> ?_
  by_cases hi:i<us.length
  ·have z:i<out.toList.length:=by rw[bx,h.1,aL];exact hi
   have y:=h.2 i _ (by rw[<-eC,aK z]);rw[aK z,List.getElem?_reverse hi,<-y];simp
  ·rw[ie (by rw[bx,h.1,aL];omega),ie (by rw[Bm];omega)]
 rw[e];exact r.reverse
def OZ(te:TE)(K:au):TE:=λσ H Q=>te σ H λv H1=>∃a ys,v=.ref a/\cK K H1 a ys/\∀l,H1 l=none->Q (.ref l) (upd H1 l (.lst ys.reverse))
theorem Jx(hc:X.calm=true)(g1:Gl X "list")(z1:X.mg "list"=none)(g2:Gl X "reversed")(z2:X.mg "reversed"=none)(ha:PE X e te)
  (s1:starEach [e] X.env=(false,eval e X.env)::starEach [] X.env:=by rfl):PE X (.Call (.Name "list" p) [.Call (.Name "reversed" p2) [e] [] Zag] [] pos) (OZ te X.K):=by
 intro pins s σ H Q I h;refine cU (lA I g1 z1 wX ?_);refine PyProof.Rows.callWith_type1 ?_ U U;show wpAny _ _ (spliced ((false,eval (.Call (.Name "reversed" p2) [e] [] Zag) X.env)::[])) _ _ s;refine gm (cU (lA I g2 z2 yB ?_));refine PyProof.Rows.callWith_type1 ?_ s1 U;rw[s1];show wpAny _ _ (spliced ((false,eval e X.env)::[])) _ _ s;refine gm (eZ (ha pins s σ H _ I h) λu s' ⟨x,H1,I1,r1,a,ys,ex,hq,q⟩=>jS ?_)
 subst ex;cases r1;obtain⟨us,r,pl,hz⟩:=I1.list hq;have hlen:=r.length;have hl:=pl.isList;refine call_reversed_list hl (jS ?_);have hl1:=hl.at λo e=>ai (revObj a ((us.toArray.size:Int)-1)) e
 have na:a≠s'.heap.objs.size:=by obtain⟨o,e,_⟩:=hl;exact bc (aW e)
 refine S4 (I1.ok.hd hc) ⟨_,aM _ U,U,U⟩ hl1 (by simp only [aL];omega) na λh' tk out c k e1 e2=> ?_
 have kp:∀b o,s'.heap.get? b=some o->h'.get? b=some o:=λb o e=>k b o (bc (aW e)) (ai _ e);refine⟨.ref _,_,I1.laid (o:=.lst ys.reverse) (t':=tk) kp (by show s'.heap.objs.size<=(s'.heap.push _).objs.size;rw[fE];omega) ⟨by rw[Bm];exact hz,out.toList,c,Pu r e2,e1⟩,U,q _ (I1.dw.fresh (by rw[fE];omega))⟩
theorem PD{body:List Stmt}{h0:ExceptHandler}{hs:List ExceptHandler}{t:TS}(h:Fz X.Vu body t):PS X (.Try body (h0::hs) [] [] pos) t:=by
 intro pins s σ H D I hq;refine wpAny_Try_except (cF (h pins s σ H D (I.tZ _) hq) (λf s1 z=> ?_) λ_ _ z=>z.elim);have z:=z.l_;cases f with
 |next=>exact iJ z
 |brk=>exact z
 |cont=>exact z
 |ret u=>exact z
end
end L3
namespace L3
open PySem PySem.Spec PyProof.Rows L2 PySem.W PySem.Calls
section
variable {X:Cx}
end
def AM(o:Obj):Option af:=match o.data with
 | .fields vs=>vs[2]?
 |_=>none
def ChL(h:Heap):List (aj×Obj)->af->Prop
 |[],v=>v=.none
 |(a,o)::r,v=>v=.ref a/\h.get? a=some o/\∃x,AM o=some x/\ChL h r x
def Chn(H:Hp)(h:Heap)(v:af):Prop:=∃l,ChL h l v/\∀p∈l,H p.1=none
def Kd{α:Type}:Sem α->Prop
 | .pure _=>True
 | .raise _=>True
 | .unsupported _=>True
 | .finish _=>True
 | .rule _ k=>Kd (k ())
 | .at _ k=>Kd (k ())
 | .point _ k=>Kd (k ())
 | .load _ _ k=>∀o,Kd (k o)
 | .loadIfAlive _ k=>∀o,Kd (k o)
 | .update _ _ f k=>(∀o,(f o).dict=o.dict/\AM (f o)=AM o/\(f o).isFreed=o.isFreed)/\Kd (k ())
 | .alloc _ k=>∀a,Kd (k a)
 | .fresh k=>∀t,Kd (k t)
 | .ask k=>∀t,Kd (k t)
 | .stack k=>∀l,Kd (k l)
 |_=>False
def DK(h h':Heap):Prop:=∀b o,h.get? b=some o->∃o',h'.get? b=some o'/\o'.dict=o.dict/\AM o'=AM o
theorem DK.trans{h1 h2 h3:Heap}(x:DK h1 h2)(y:DK h2 h3):DK h1 h3:=λb o e=>
 let ⟨o1,e1,d1⟩:=x b o e
 let ⟨o2,e2,d2⟩:=y b o1 e1
 ⟨o2,e2,d2.1.trans d1.1,d2.2.trans d1.2⟩
theorem DK.upd{h:Heap}{a:aj}{f:Obj->Obj}(hf:∀o,(f o).dict=o.dict/\AM (f o)=AM o/\(f o).isFreed=o.isFreed):DK h (h.update a f):=λb o e=>by
 by_cases q:a=b
 ·subst q;exact⟨f o,f_ f e ((hf o).2.2.trans (Heap.get?_some_iff.mp e).2),(hf o).1,(hf o).2.1⟩
 ·exact⟨o,(eW h f q).trans e,U,U⟩
theorem Kd.wp{α:Type}{M:Model}{Γ:PySem.Ctx}{Q:α->Pos->ah->Prop}{E:af->Pos->ah->Prop}{h0:Heap}(t:Sem α):∀(p:Pos) (s:ah),Kd t->DK h0 s.heap->Sem.wp M Γ t Q E p s->
  Sem.wp M Γ t (λa p' s'=>Q a p' s'/\DK h0 s'.heap) (λe p' s'=>E e p' s'/\DK h0 s'.heap) p s:=by
 induction t with
 |pure a=>exact λp s _ d w=>⟨w,d⟩
 |raise e=>exact λp s _ d w=>⟨w,d⟩
 |unsupported|finish=>exact λp s _ _ w=>w
 |rule _ k ih|point _ k ih=>exact λp s c d w=>ih () p s c d w
 |«at» p' k ih=>exact λp s c d w=>ih () p' s c d w
 |load a _ k ih=>exact λp s c d ⟨o,ho,w⟩=>⟨o,ho,ih o p s (c o) d w⟩
 |loadIfAlive a k ih=>exact λp s c d w=>ih _ p s (c _) d w
 |update a _ f k ih=>exact λp s c d ⟨ha,w⟩=>⟨ha,ih () p _ c.2 (d.trans (DK.upd c.1)) w⟩
 |alloc o k ih=>exact λp s c d w=>ih _ p _ (c _) (d.trans λb o' e=>⟨o',ai o e,U,U⟩) w
 |fresh k ih=>exact λp s c d w=>ih _ p _ (c _) d w
 |ask k ih=>exact λp s c d w=>ih _ p s (c _) d w
 |stack k ih=>exact λp s c d w=>ih _ p s (c _) d w
 |_=>exact λp s c=>c.elim
theorem Kd.any{α:Type}{M:Model}{A:bK}{Q:α->ah->Prop}{E:af->ah->Prop}{s:ah}{t:Sem α}(c:Kd t)(h:wpAny M A t Q E s):wpAny M A t (λa s'=>Q a s'/\DK s.heap s'.heap) (λe s'=>E e s'/\DK s.heap s'.heap) s:=
 λΓ p hΓ=>Kd.wp t p s c (λ_ o e=>⟨o,e,rfl,rfl⟩) (h Γ p hΓ)
theorem Kd.bind{α β:Type}{k:α->Sem β}(t:Sem α):Kd t->(∀a,Kd (k a))->Kd (t>>=k):=by
 show Kd t->(∀a,Kd (k a))->Kd (Sem.bind t k)
 induction t with
 |pure a=>exact λ_ z=>z a
 |raise|unsupported|finish=>exact λ_ _=>trivial
 |rule _ k ih|point _ k ih|«at» _ k ih=>exact λc z=>ih () c z
 |load _ _ k ih|loadIfAlive _ k ih|alloc _ k ih|fresh k ih|ask k ih|stack k ih=>exact λc z o=>ih o (c o) z
 |update _ _ f k ih=>exact λc z=>⟨c.1,ih () c.2 z⟩
 |_=>exact λc=>c.elim
theorem EG{α:Type}{a:aj}{k:Obj->Sem α}(h:∀o,Kd (k o)):Kd (load a>>=k):=Kd.bind _ (λ_=>trivial) h
theorem wJ(v:af)(i:Nat):Kd (field v i):=by
 unfold field fieldsOf;refine Kd.bind _ ?_ λx=>by split<;>exact trivial
 cases v<;>first|exact trivial|(refine EG λo=> ?_;split<;>exact trivial)
theorem XS{i:Nat}(x:af)(hi:i≠2)(o:Obj):(Obj.mapFields (·.setIfInBounds i x) o).dict=o.dict/\AM (Obj.mapFields (·.setIfInBounds i x) o)=AM o/\(Obj.mapFields (·.setIfInBounds i x) o).isFreed=o.isFreed:=by
 obtain⟨c,d,y,l⟩:=o;cases y with
 |fields vs=>exact⟨U,Array.getElem?_setIfInBounds_ne hi,U⟩
 |_=>exact⟨U,U,U⟩
theorem JX(v:af){i:Nat}(hi:i≠2)(x:af):Kd (setField v i x):=by
 unfold setField updateField;cases v<;>first|exact trivial|skip
 refine EG λo=> ?_
 split
 ·split
  ·exact⟨XS _ hi,trivial⟩
  ·exact trivial
 ·exact trivial
theorem xR(e:af)(f:Option aj):Kd (setFlight e f):=by
 unfold setFlight;refine Kd.bind _ (wJ _ _) λtb=> ?_
 split
 ·exact JX _ (by decide) _
 ·exact trivial
theorem QM(a b c d e:af)(l:List af):Kd (EntryCells.newEntry a b c d e l):=by
 unfold EntryCells.newEntry newFields newObj newObjAsIs
 dsimp only
 generalize [a,b,c,d,e]++_=vs
 split
 ·exact trivial
 ·exact λ_=>trivial
theorem NA(env:Env)(outer:List Env):Kd (behindIsImport env outer):=by
 unfold behindIsImport
 split
 ·exact trivial
 ·split
  ·exact trivial
  ·exact Kd.bind _ (wJ _ _) λ_=>trivial
theorem Uo(env:Env)(b:Bool):∀outer:List Env,Kd (keptBack env b outer)
 |[]=>by
  show Kd (if(env.scope.isGenerator||env.scope.isCoroutine)=true then pure Value.none else _)
  split
  ·exact trivial
  ·exact λ_=>trivial
 |_::_=>trivial
theorem GV:∀l:List Env,Kd (readyFrames l)
 |[]=>trivial
 |env::outer=>by
  unfold readyFrames
  split
  ·refine EG λo=> ?_
   split
   ·exact trivial
   ·exact Kd.bind _ (NA _ _) λ_=>Kd.bind _ (Uo _ _ _) λ_=>⟨λo=>⟨U,U,by obtain⟨c,d,x,l⟩:=o;cases x<;>rfl⟩,GV outer⟩
  ·exact trivial
theorem QL(env:Env):Kd (PySem.frameOf env):=by
 unfold PySem.frameOf;refine Kd.bind _ (λ_=>trivial) λl=> ?_;refine Kd.bind _ ?_ λx=>by split<;>exact trivial
 cases l.dropWhile (·.frame !=env.frame) with
 |nil=>exact trivial
 |cons a r=>exact Kd.bind _ (GV _) λ_=>trivial
theorem QK(f:aj)(b:Bool):Kd (entryPlaceOf f b):=by
 unfold entryPlaceOf;refine Kd.bind _ (λ_=>trivial) λl=> ?_
 split<;>exact trivial
theorem LI(e:af)(env:Env):Kd (noteFrame e env):=by
 unfold noteFrame;have rest:∀(f:aj) (head:af),Kd (do let a<-PySem.frameOf env;let pl<-entryPlaceOf f (head !=.none);let b<-EntryCells.newEntry head a .none (rawInt f) .none pl;setField e 1 b):=λf head=>
  Kd.bind _ (QL _) λ_=>Kd.bind _ (QK _ _) λ_=>Kd.bind _ (QM _ _ _ _ _ _) λ_=>JX _ (by decide) _
 split
 ·refine Kd.bind _ (wJ _ _) λhead=> ?_
  dsimp only
  split
  ·refine Kd.bind _ (wJ _ _) λx=> ?_
   split
   ·exact trivial
   ·exact Kd.bind _ (JX _ (by decide) _) λ_=>rest _ _
  ·exact rest _ _
 ·exact trivial
theorem JY(env:Env)(e:af):Kd (leaving env e):=Kd.bind _ (LI _ _) λ_=>xR _ _
structure Kp (fs:List aj) (H H':Hp) (h h' B:Heap):Prop where
 keep:∀b o,h.get? b=some o->H b=none->b∉fs->B.get? b=some o/\H' b=none
 slot:∀b o,h.get? b=some o->H b=none->b∈fs->(∃sl,h'.get? b=some {o with slots:=sl})/\H' b=none
 there:∀b o,h.get? b=some o->b∉fs->∃o',B.get? b=some o'
 mZ:∀b xs,H b=some (.tup xs)->H' b=some (.tup xs)
 oA:∀b o u,H b=some (.pM o u)->H' b=some (.pM o u)
 rL:∀b ps,H b=some (.Ot ps)->∃more,H' b=some (.Ot (ps++more))
def yh(P:bo)(w:World):Dn:=λouter H s E ev s'=>∃(e D:aj) (a0:af) (H':Hp) (B:Heap),ev=.ref e/\s'.os=s.os/\AllBare s'.gens/\Heap.FlyingW B outer e (.ref D) a0 s'.heap/\
 Kp (yV outer) H H' s.heap s'.heap B/\sT P w H' B/\∃d cx,(∃ob,s'.heap.get? e=some ob/\ob.dict=d/\AM ob=some cx)/\Chn H' B cx/\E (.ref D) d H'
section
variable {P:bo} {w:World} {K:Frag} {mg:Str->Option af} {base:Heap} {N:List Str} {qual:Str} {scope:Scope} {f:aj} {dQ:af} {A:bK} {outer:List Env} {s₀:ah} {H₀:Hp} {E:XK}
end
theorem okX{P:bo}{w:World}{K:Frag}{mg:Str->Option af}{base:Heap}{x qual:Str}{st:Stmt}{f:aj}{fd:bC}{N ps:List Str}{k:Nat}{sp:Sp}(F:je K x qual st f fd)(S:b_ N ps (bG st))(len:∀vs H Q E,sp vs H Q E->vs.length=ps.length)
  (G2:∀(dQ:af) (A:bK) (outer:List Env) (s:ah) (H:Hp) (vs:List V) (Q:VK) (E:XK),gF k (A.deeper (envOfC qual (bG st) s.heap.objs.size f dQ))->sp vs H Q E->
   ∃t,Fz (gp (yh P w) P w K mg base N qual (bG st) f dQ A outer s H E) (lT st) t/\t {nx:=λ_ H'=>Q .fR H',rt:=Q} (start N vs) H):dJ P w K mg base (yh P w) (k+1) f fd ps sp:=by
 obtain⟨oc,od,kV,doc,pm,an,dQ,ct,Ov,rfl,lk,LP⟩:=F.ex;exact VH lk LP S len λA outer s H vs Q E hr VB=>G2 dQ A outer s H vs Q E hr VB
section
variable {P:bo} {w:World} {K:Frag} {mg:Str->Option af} {base:Heap} {N:List Str} {qual:Str} {scope:Scope} {f:aj} {dQ:af} {A:bK} {outer:List Env} {s₀:ah} {H₀:Hp} {E:XK} {CX:Dn}
theorem Kj{pins:List (aj×Obj)}{σ:L2.St}{H H':Hp}{s s':ah}{B h5:Heap}(I:L2.Inv (gp CX P w K mg base N qual scope f dQ A outer s₀ H₀ E) pins σ H s)(os:s'.os=s.os)(bare:AllBare s'.gens)(kp:Kp (yV (gp CX P w K mg base N qual scope f dQ A outer s₀ H₀ E).stack) H H' s.heap s'.heap B)(dw:sT P w H' B)(st:B.StaysIn h5)(sm:s'.heap.UpToSlots h5){tk:Nat}:
  L2.Inv (gp CX P w K mg base N qual scope f dQ A outer s₀ H₀ E) pins σ H' {s' with heap:=h5,toks:=tk}:=by
 have dat:∀b∈yV (gp CX P w K mg base N qual scope f dQ A outer s₀ H₀ E).stack,∀o,s.heap.get? b=some o->∀vs,o.data≠.fields vs:=λb hb o eb=>by
  obtain⟨_,o2,e2,hd⟩:=I.stack.mem hb;rw[eb] at e2
  cases e2;exact hd
 have slots:∀b o,s.heap.get? b=some o->H b=none->b∈yV (gp CX P w K mg base N qual scope f dQ A outer s₀ H₀ E).stack->∃sl,h5.get? b=some {o with slots:=sl}:=λb o eb nb hb=>by
  obtain⟨⟨sl,e1⟩,_⟩:=kp.slot b o eb nb hb;obtain⟨sl2,e2⟩:=sm b _ e1 (dat b hb o eb);exact⟨sl2,e2⟩
 refine I.VN (s':={s' with heap:=h5,toks:=tk}) (ch:=[]) os ⟨λb o eb nb hb _=>st _ _ (kp.keep b o eb nb hb).1,λb o eb nb hb _=>slots b o eb nb hb,λb o eb nb _=> ?_,λb o eb _=> ?_,kp.mZ,kp.oA,kp.rL⟩ (dw.kept st) bare λb hb=>nomatch hb
 ·by_cases hb:b∈yV (gp CX P w K mg base N qual scope f dQ A outer s₀ H₀ E).stack
  ·exact(kp.slot b o eb nb hb).2
  ·exact(kp.keep b o eb nb hb).2
 ·by_cases hb:b∈yV (gp CX P w K mg base N qual scope f dQ A outer s₀ H₀ E).stack
  ·obtain⟨sl,e1⟩:=slots b o eb (I.y6 b hb) hb;exact⟨_,e1⟩
  ·obtain⟨o',e1⟩:=kp.there b o eb hb;exact⟨o',st _ _ e1⟩
theorem land{pins:List (aj×Obj)}{σ:L2.St}{H:Hp}{s s':ah}{ev:af}{E':XK}{Q:Unit->ah->Prop}{EE:af->ah->Prop}(I:L2.Inv (gp CX P w K mg base N qual scope f dQ A outer s₀ H₀ E) pins σ H s)(hcx:yh P w (gp CX P w K mg base N qual scope f dQ A outer s₀ H₀ E).stack H s E' ev s')
  (k:∀(e D:aj) (a0:af) (H':Hp) (B h':Heap) (d:Option aj),ev=.ref e->(∀(h5:Heap) (tk:Nat),B.StaysIn h5->h'.UpToSlots h5->L2.Inv (gp CX P w K mg base N qual scope f dQ A outer s₀ H₀ E) pins σ H' {s' with heap:=h5,toks:=tk})->Heap.FlyingW B (gp CX P w K mg base N qual scope f dQ A outer s₀ H₀ E).stack e (.ref D) a0 h'->sT P w H' B->s.heap.get? e=none->(∃ob cx,h'.get? e=some ob/\ob.dict=d/\AM ob=some cx/\Chn H' B cx)->E' (.ref D) d H'->Q () {s' with heap:=h'}):
  wpAny (model P w) (gp CX P w K mg base N qual scope f dQ A outer s₀ H₀ E).A (noteFrame ev (gp CX P w K mg base N qual scope f dQ A outer s₀ H₀ E).env) (λ_ s2=>wpAny (model P w) (gp CX P w K mg base N qual scope f dQ A outer s₀ H₀ E).A (setFlight ev none) Q EE s2) EE s':=by
 obtain⟨e,D,a0,H',B,rfl,os,bare,fl,kp,dw,d,cx,⟨ob,eb,db,fb⟩,ch,q⟩:=hcx;have fresh:s.heap.get? e=none:=by
  cases z:s.heap.get? e with
  |none=>rfl
  |some o=>
   by_cases hb:e∈yV (gp CX P w K mg base N qual scope f dQ A outer s₀ H₀ E).stack
   ·obtain⟨_,o2,e2,hd⟩:=fl.2.2.1.mem hb;obtain⟨oe,vs,e3,_,e4,_⟩:=fl.first;rw[e2] at e3
    cases e3;exact absurd e4 (hd vs)
   ·obtain⟨o',e1⟩:=kp.there e o z hb;have n:=fl.2.1;rw[e1] at n
    cases n
 refine cF (Kd.any (LI _ _) (wpAny_looks_onW (Q:=λ_ s2=>∃h4,s2={s' with heap:=h4}/\Heap.HeldW B (gp CX P w K mg base N qual scope f dQ A outer s₀ H₀ E).stack e (.ref D) a0 _ h4/\s'.heap.UpToSlots h4) I.ok.frames U fl λh4 held sm4=>⟨h4,U,held,sm4⟩)) (λ_ s2 z=> ?_) λ_ _ z=>z.1;obtain⟨⟨h4,rfl,held,sm4⟩,dk4⟩:=z;refine cF (Kd.any (xR _ _) (wpAny_landsW (Q:=λ_ s3=>∃h5,s3={s' with heap:=h5}/\Heap.FlyingW B (gp CX P w K mg base N qual scope f dQ A outer s₀ H₀ E).stack e (.ref D) a0 h5/\h4.UpToSlots h5) held λh5 fl5 sm5=>⟨h5,U,fl5,sm5⟩)) (λ_ s3 z=> ?_) λ_ _ z=>z.1
 obtain⟨⟨h5,rfl,fl5,sm5⟩,dk5⟩:=z;obtain⟨ob4,eb4,db4,fb4⟩:=dk4 e ob eb;obtain⟨ob5,eb5,db5,fb5⟩:=dk5 e ob4 eb4;exact k e D a0 H' B h5 d U (λh6 tk st ZU=>Kj I os bare kp dw st ((sm4.trans sm5).trans ZU)) fl5 dw fresh ⟨ob5,cx,eb5,(db5.trans db4).trans db,(fb5.trans fb4).trans fb,ch⟩ q
end
section
variable {X:Cx} {pins:List (aj×Obj)} {σ:L2.St} {H:Hp} {s:ah}
abbrev sy(X:Cx)(e:af)(E:af->ah->Prop):Cx:={X with A:=X.A.mark (some e),calm:=false,xe:=E}
theorem UB{e:af}{E:af->ah->Prop}(o:X.Ok):(sy X e E).Ok:=⟨o.mod,o.kind,o.glob,o.blt,o.above,o.inj,o.has,o.Zl,(λz=>nomatch z),o.frames,o.ZT,o.exf,o.bs,o.OD,o.Ng,o.Rj,o.uf,o.Sm⟩
theorem EV{e:af}{E:af->ah->Prop}(I:L2.Inv X pins σ H s):L2.Inv (sy X e E) pins σ H s:=⟨UB I.ok,I.os,I.bare,I.base,I.loc,I.cell,I.free,I.eL,I.pin,I.dw,I.len⟩
theorem wL{e:af}{E:af->ah->Prop}(o:X.Ok)(I:L2.Inv (sy X e E) pins σ H s):L2.Inv X pins σ H s:=⟨o,I.os,I.bare,I.base,I.loc,I.cell,I.free,I.eL,I.pin,I.dw,I.len⟩
theorem Yt{M:Model}{h:Heap}{e:aj}{c:af}(x:∃ob,h.get? e=some ob/\ob.cls=c):Looks M h (typeOf (.ref e)) c:=by
 obtain⟨ob,e1,rfl⟩:=x;exact(Looks.ld e1).andThen .now
end
theorem tO{X:Cx}{pins:List (aj×Obj)}{σ:L2.St}{H:Hp}{s:ah}{M:Model}{A:bK}{E:af->ah->Prop}{i:Nat}{x:Str}{pos:Pos}{Q:Unit->ah->Prop}(I:L2.Inv X pins σ H s)(hN:X.N.Nodup)(hi:X.N[i]? =some x)(hk:X.env.scope.names.lookup x=some .local)
  (h:∀s',L2.Inv X pins (σ.set i none) H s'->Q () s'):wpAny M A (do bindName X.env x .none;unbindBehindTheSuite X.env x pos) Q E s:=by
 obtain⟨m,hn,hl⟩:=id I.loc;refine wpAny_nameGoes_keeps hk hn (by rw[I.ok.kind];rfl) λh' v hn' sb=>h _ ?_
 have same:∀b,b≠X.env.locals->h'.get? b=s.heap.get? b:=λb n=>sb.2 b n;have old:∀b o,X.s₀.heap.get? b=some o->h'.get? b=s.heap.get? b:=λb o e=>same b (bc (b4 (aW e) I.ok.above));refine⟨I.ok,I.os,I.bare,⟨?k, ?sl,I.base.free, ?th,I.base.mZ,I.base.oA,I.base.rL⟩,⟨_,hn', ?lc⟩, ?ce,I.free,I.eL, ?pn, ?ho,by simpa using I.len⟩
 case k=>exact λb o e n f y=>(old b o e).trans (I.base.keep b o e n f y)
 case sl=>exact λb o e n f y=>(I.base.slot b o e n f y).elim λz q=>⟨z,(old b o e).trans q⟩
 case th=>exact λb o e y=>(I.base.there b o e y).elim λz q=>⟨z,(old b o e).trans q⟩
 case pn=>exact λp hp=>let ⟨e,n,ne,r⟩:=I.pin p hp;⟨(same p.1 ne).trans e,n,ne,r⟩
 case ce=>exact λy c e=>(I.cell y c e).elim λz q=>⟨z,q.sameBut sb (I.UQ y c e)⟩
 case ho=>
  refine λb o e=>(I.dw b o e).vP (λc u hc q=>(same c λz=> ?_).trans q) (λ_ q=>q) λ_ _ q=>q;have fr:=I.free;rcases hc with rfl|hc
  ·rw[z,fr] at e;cases e
  ·rw[z,fr] at hc;cases hc
 case lc=>
  intro j y v' e1 e2 e3;have ji:j≠i:=λz=>by
   subst z;have lt:j<σ.length:=by rw[I.len];exact(bT.mp hi).1
   rw[List.getElem?_set_self lt] at e2
   cases e2
  rw[List.getElem?_set_ne (cY ji)] at e2
  obtain⟨u,r,q⟩:=hl j y v' e1 e2 e3;refine⟨u,r,q.imp (λ⟨k1,k2⟩=>⟨k1, ?_⟩) λ⟨k1,c,k2,k3⟩=>⟨k1,c,k2,k3.sameBut sb (I.UQ y c k2)⟩⟩;have yx:y≠x:=λz=>ji (Au hN e1 (z▸hi));simp[yx,k2]
def Ro(D:Ends)(i:Nat):Ends:={nx:=λσ H=>D.nx (σ.set i none) H,bk:=λσ H=>D.bk (σ.set i none) H,ct:=λσ H=>D.ct (σ.set i none) H,rt:=D.rt}
def XO(e D:aj)(d:Option aj):HO:=.ext λh=>∃ob,h.get? e=some ob/\ob.cls=.ref D/\ob.dict=d/\notCls ob=true
theorem Zw{P:bo}{w:World}{H:Hp}{B h:Heap}{l:List Env}{e D:aj}{a0:af}{d:Option aj}(fl:Heap.FlyingW B l e (.ref D) a0 h)(dk:∃ob,h.get? e=some ob/\ob.dict=d):fB P w H h e (XO e D d):=by
 obtain⟨oe,vs,e1,e2,e3,_⟩:=fl.first;obtain⟨ob,e4,e5⟩:=dk;rw[e1] at e4
 cases e4;refine⟨⟨oe,e1,e2,e5, ?_⟩,⟨oe,e1⟩,λh1 h2 ⟨o,q1,q2⟩ z=>⟨o,z o q1,q2⟩⟩;unfold notCls;rw[e3]
theorem RE{X:Cx}{pins:List (aj×Obj)}{σ σ₁:L2.St}{H H₁:Hp}{s s₁:ah}{B h:Heap}{l:List Env}{e C D:aj}{a0:af}{d:Option aj}{cn n:Str}{np Kg:Pos}{b0:Stmt}{yn:List Stmt}{rest:List ExceptHandler}{i:Nat}{ts:TS}{D':Ends}{EE:af->ah->Prop}
  (ok:X.Ok)(again:∀(h5:Heap) (tk:Nat),B.StaysIn h5->h.UpToSlots h5->L2.Inv X pins σ H {s with heap:=h5,toks:=tk})(fl:Heap.FlyingW B l e (.ref D) a0 h)(I₁:L2.Inv X pins σ₁ H₁ s₁)(new:s₁.heap.get? e=none)(free:H e=none)(dk:∃ob,h.get? e=some ob/\ob.dict=d)(hg:Gl X cn)(hm:X.mg cn=some (.ref C))(hx:exmOne X.K (.ref D) (.ref C)=some true)
  (hN:X.N.Nodup)(hi:X.N[i]? =some n)(hk:X.env.scope.names.lookup n=some .local)(hs:Fz (sy X (.ref e) λ_ _=>False) (b0::yn) ts)(q:ts (Ro D' i) (σ.set i (some (.ref e))) (upd H e (XO e D d)))(u7:(cn==("__debug__":Str))=false:=by decide):
  wpAny (model X.prog X.w) X.A (handleBy (.ref e) X.env (.ExceptHandler (some (.Name cn np)) (some n) (b0::yn) Kg::rest)) (SP X pins D') EE {s with heap:=h}:=by
 have I0:=again h s.toks fl.1 (λ_ o z _=>⟨o.slots,z⟩);refine wpAny_handleBy_cons (codeAny_handlers_test (jw (EV (e:=.ref e) (E:=λ_ _=>False) I0) hg hm ?_ u7)) (λz=>nomatch z);refine exm_one I0.q5 (Yt fl.there) hx _ _ _ _ (λ_ _ z=>z) ?_;refine codeAny_handlers_suite_as (cF (Kd.any (xR _ _) (lands_againW (Q:=λ_ s2=>∃h6,s2={s with heap:=h6}/\Heap.FlyingW B l e (.ref D) a0 h6/\h.UpToSlots h6) fl λh6 fl6 ZU=>⟨h6,U,fl6,ZU⟩)) (λ_ s2 z=> ?_) λ_ _ z=>z.1)
 obtain⟨⟨h6,rfl,fl6,ZU⟩,dk6⟩:=z;obtain⟨ob,e1,e2⟩:=dk;obtain⟨ob6,e3,e4,_⟩:=dk6 e ob e1;have I6:=mT (q:=XO e D d) I₁ (again h6 s.toks fl6.1 ZU) free new (Zw fl6 ⟨ob6,e3,e4.trans e2⟩);refine vO I6 hN hi (.inl hk) (v:=.ref e) U (λs2 I2=> ?_) (.inr hk);refine cF (hs pins s2 _ _ _ (EV I2) q) (λf s3 z=> ?_) λ_ _ z=>z.elim;cases f with
 |next=>obtain⟨σ2,H2,I3,q3⟩:=z;exact tO (wL ok I3) hN hi hk λs4 I4=>⟨_,H2,I4,q3⟩
 |brk=>obtain⟨σ2,H2,I3,q3⟩:=z;exact tO (wL ok I3) hN hi hk λs4 I4=>⟨_,H2,I4,q3⟩
 |cont=>obtain⟨σ2,H2,I3,q3⟩:=z;exact tO (wL ok I3) hN hi hk λs4 I4=>⟨_,H2,I4,q3⟩
 |ret u=>obtain⟨v,σ2,H2,I3,r,q3⟩:=z;exact tO (wL ok I3) hN hi hk λs4 I4=>⟨v,_,H2,I4,r,q3⟩
theorem CC{P:bo}{w:World}{H:Hp}{h:Heap}{a:aj}:∀{o:HO},fB P w H h a o->∃ob,h.get? a=some ob
 | .lst _,⟨_,_,_,_,e⟩=>⟨_,e⟩
 | .tup _,⟨_,_,_,p⟩=>p.elim λob q=>⟨ob,q.1⟩
 | .dK _,⟨_,_,_,_,ob,_,_,e,_⟩=>⟨ob,e⟩
 | .dT _,⟨_,_,_,_,ob,_,_,e,_⟩=>⟨ob,e⟩
 | .set _ _,⟨ob,_,_,_,e,_⟩=>⟨ob,e⟩
 | .ins _ _ _,⟨_,_,_,e,_⟩=>⟨_,e⟩
 | .own _,x=>x
 | .xd _,⟨_,⟨ob,_,_,e,_⟩,_⟩=>⟨ob,e⟩
 | .met _ _,e=>⟨_,e⟩
 | .rng _ _,⟨_,_,_,e⟩=>⟨_,e⟩
 | .pM _ _,⟨e,_⟩=>⟨_,e⟩
 | .Ot _,e=>⟨_,e⟩
 | .ext _,⟨_,e,_⟩=>e
theorem apart{P:bo}{w:World}{H:Hp}{B h:Heap}{l:List Env}{e:aj}{c a0:af}(dw:sT P w H B)(fl:Heap.FlyingW B l e c a0 h):H e=none:=by
 cases q:H e with
 |none=>rfl
 |some o=>
  obtain⟨ob,z⟩:=CC (dw e o q);have n:=fl.2.1;rw[z] at n
  cases n
section
variable {P:bo} {w:World} {K:Frag} {mg:Str->Option af} {base:Heap} {N:List Str} {qual:Str} {scope:Scope} {f:aj} {dQ:af} {A:bK} {outer:List Env} {s₀:ah} {H₀:Hp} {E:XK} {CX:Dn}
def F0(K:Frag)(C:aj)(iy i:Nat)(sp:Sp)(t:TA)(ts:TS):TS:=λD σ H=>t σ H λvs H1=>sp vs H1 (λv H2=>D.nx (σ.set iy (some v)) H2) (λc d H2=>∀e,H2 e=none->∃B,c=.ref B/\exmOne K (.ref B) (.ref C)=some true/\ts (Ro D i) (σ.set i (some (.ref e))) (upd H2 e (XO e B d)))
theorem OX{X:Cx}(eX:X=gp CX P w K mg base N qual scope f dQ A outer s₀ H₀ E){C:aj}{iy i k:Nat}{fn cn n y:Str}{ps:List Str}{sp:Sp}{t:TA}{ts:TS}{p py np gf apos Kg pos:Pos}{e1:PySem.Expr}{es:List PySem.Expr}{b0:Stmt}{yn:List Stmt}{rest:List ExceptHandler}{EE:af->ah->Prop}
  (c:fi P w K mg base (yh P w) k fn ps sp)(hr:gF k X.A)(hgf:Gl X fn)(ha:PA X.Vu (e1::es) t)(hN:X.N.Nodup)(hiy:X.N[iy]? =some y)(hy:X.env.scope.names.lookup y=some .local)(hgc:Gl X cn)(hm:mg cn=some (.ref C))(hi:X.N[i]? =some n)(hk:X.env.scope.names.lookup n=some .local)
  (hs:∀e,Fz (sy X e λ_ _=>False) (b0::yn) ts)(hsw:swapsWith (.Call (.Name fn p) (e1::es) [] gf) (some (.Name y py)) apos.line X.env=pure false:=by rfl)(hd1:(fn==("__debug__":Str))=false:=by decide)(hd2:(cn==("__debug__":Str))=false:=by decide)
  (he:starEach (e1::es) X.env=(false,eval e1 X.env)::starEach es X.env:=by rfl)(Bd:(backTo gf (starEach es X.env)).any (·.1)=false:=by rfl){pins:List (aj×Obj)}{s:ah}{σ:L2.St}{H:Hp}{D:Ends}(I:L2.Inv X pins σ H s)(h:F0 K C iy i sp t ts D σ H):
  wpAny (model X.prog X.w) X.A (exec (.Try [.Assign [.Name y py] (.Call (.Name fn p) (e1::es) [] gf) apos] (.ExceptHandler (some (.Name cn np)) (some n) (b0::yn) Kg::rest) [] [] pos) X.env) (SP X pins D) EE s:=by
 subst eX;obtain⟨g,fd,Yb,hkp,hb,F⟩:=c.ex;refine wpAny_Try_except (wpAny_execs_cons ?_);refine wpAny_Assign_Name (cU (jw I hgf Yb ?_ hd1)) hsw;refine callWith_K (h₀:=base) I.ok.mod.Vz hkp (cF (ha gf pins s σ H _ (I.tZ _) h) (λus s1 z=> ?_) λ_ _ z=>z.elim) he Bd;obtain⟨vs,H1,I1,r1,q1⟩:=z;have I1:=I1.l_;refine⟨I1.q5, ?_⟩;have hl:us.length=ps.length:=by rw[<-r1.length];exact F.len _ _ _ _ q1
 have bd:=hb s1 us I1.q5 (by rw[cE];exact hl)
 rw[cE] at bd
 refine gU (gA (F.run _ _ s1 H1 ⟨us,[]⟩ us vs _ _ hr I1.NV bd r1 q1) λr s2 z=> ?_);cases r with
 |ok fl=>
  cases fl with
  |ret u=>
   obtain⟨v,H2,I2,r2,q2⟩:=I1.after z;exact vO I2 hN hiy (.inl hy) r2 (λs3 I3=>iJ (iJ ⟨_,H2,I3,q2⟩)) (.inr hy)
  |next=>exact False.elim z
  |brk=>exact False.elim z
  |cont=>exact False.elim z
 |error ev=>
  dsimp only [CR] at z
  refine land (P:=P) (w:=w) I1 z λe D2 a0 H2 B h2 d ee again fl dw new ⟨ob,_,k1,k2,_⟩ q2=> ?_;subst ee;obtain⟨B2,eb,mt,q3⟩:=q2 e (apart dw fl);cases eb;exact RE I.ok again fl I1 new (apart dw fl) ⟨ob,k1,k2⟩ hgc hm mt hN hi hk (hs _) q3 hd2
theorem Gk{X:Cx}(eX:X=(gp CX P w K mg base N qual scope f dQ A outer s₀ H₀ E).Vu){C:aj}{iy i k:Nat}{fn cn n y:Str}{ps:List Str}{sp:Sp}{t:TA}{ts:TS}{p py np gf apos Kg pos:Pos}{e1:PySem.Expr}{es:List PySem.Expr}{b0:Stmt}{yn:List Stmt}{rest:List ExceptHandler}
  (c:fi P w K mg base (yh P w) k fn ps sp)(hr:gF k X.A)(hgf:Gl X fn)(ha:PA X.Vu (e1::es) t)(hN:X.N.Nodup)(hiy:X.N[iy]? =some y)(hy:X.env.scope.names.lookup y=some .local)(hgc:Gl X cn)(hm:mg cn=some (.ref C))(hi:X.N[i]? =some n)(hk:X.env.scope.names.lookup n=some .local)
  (hs:∀e,Fz (sy X e λ_ _=>False) (b0::yn) ts)(hsw:swapsWith (.Call (.Name fn p) (e1::es) [] gf) (some (.Name y py)) apos.line X.env=pure false:=by rfl)(hd1:(fn==("__debug__":Str))=false:=by decide)(hd2:(cn==("__debug__":Str))=false:=by decide)
  (he:starEach (e1::es) X.env=(false,eval e1 X.env)::starEach es X.env:=by rfl)(Bd:(backTo gf (starEach es X.env)).any (·.1)=false:=by rfl):
  PS X (.Try [.Assign [.Name y py] (.Call (.Name fn p) (e1::es) [] gf) apos] (.ExceptHandler (some (.Name cn np)) (some n) (b0::yn) Kg::rest) [] [] pos) (F0 K C iy i sp t ts):=by
 subst eX;intro pins s σ H D I h;refine cF (OX U c hr hgf ha hN hiy hy hgc hm hi hk hs hsw hd1 hd2 he Bd (EE:=λ_ _=>False) I.l_ h) (λfl s2 z=> ?_) λ_ _ z=>z.elim;cases fl with
 |next=>obtain⟨σ2,H2,I3,q3⟩:=z;exact⟨σ2,H2,I3.tZ _,q3⟩
 |brk=>obtain⟨σ2,H2,I3,q3⟩:=z;exact⟨σ2,H2,I3.tZ _,q3⟩
 |cont=>obtain⟨σ2,H2,I3,q3⟩:=z;exact⟨σ2,H2,I3.tZ _,q3⟩
 |ret u=>obtain⟨v,σ2,H2,I3,r,q3⟩:=z;exact⟨v,σ2,H2,I3.tZ _,r,q3⟩
end
structure jA (K:Frag) (D:aj):Prop where
 ck:(kitCls K (.ref D) (.ref D)).isSome=true
 ga:findIn K (.ref D) "__getattribute__"=some (some (.builtin "BaseException.__getattribute__"))
 gt:findIn K (.ref D) "__getattr__"=some none
 cs:findIn K (.ref D) "__class__"=some (some (.builtin "object.__class__"))
 gg:specialIn K (.builtin "object.__class__") "__get__"=some (some (.builtin "getset_descriptor.__get__"))
 tk:takesIn K (.builtin "object.__class__")=some true
 mo:mroIn K D (.type "object")=some true
 mb:subIn K (.ref D) (.type "BaseException")=some true
theorem jA.cl{K:Frag}{D:aj}(Z:jA K D):∃c d cd sl,K.lookup D=some ⟨c,d,.cls cd,sl⟩:=by
 have z:=Z.ck;simp only [kitCls] at z
 split at z
 ·rename_i q
  have q:=(oY.mp q).1;unfold clsIn at q
  split at q
  ·rename_i h
   exact⟨_,_,_,_,h⟩
  ·cases q
 ·cases z
theorem jA.find{K:Frag}{D:aj}(Z:jA K D)(od:Option Obj):findObj K D od "__class__"=some (.bind (.builtin "getset_descriptor.__get__") (.builtin "object.__class__")):=by
 obtain⟨c,d,cd,sl,h⟩:=Z.cl;have hc:clsIn K D=some cd:=by unfold clsIn;rw[h]
 simp[findObj,hc,Z.cs,Z.gg,Z.tk]
section
variable {prog:bo} {w:World} {A:bK} {E:af->ah->Prop} {s:ah} {K:Frag} {x D:aj} {ox:Obj} {od:Option Obj}
theorem NT{tk:Tok}{Q:Fin->ah->Prop}(Z:jA K D)(X:K.In s.heap)(I:InstAt s.heap x ox D od)(hq:Q (.done (.ret (.ref D))) s):wpAny (model prog w) A (Builtin.«object.__getattribute__» ⟨[.ref x,.str "__class__" tk],[]⟩) Q E s:=by
 obtain⟨h,g,d,t,os⟩:=s;refine aa (aq ?_);refine aa (aq ?_);refine aa (I.type.at ?_);refine aa ((looks_find X I (Z.find od)).at ?_);exact aa (cy (gU (class_get X I Z.mo (aq hq))))
theorem RO:builtinKind "BaseException.__getattribute__"=some .slot:=by decide+kernel
theorem Og:splitId "BaseException.__getattribute__"=some ("BaseException","__getattribute__"):=by decide+kernel
theorem C4{M:Model}{nm:af}{Q:Unit->ah->Prop}(Z:jA K D)(X:K.In s.heap)(I:InstAt s.heap x ox D od)(hq:Q () s):wpAny M A (checkBuiltinCall "BaseException.__getattribute__" ⟨[.ref x,nm],[]⟩) Q E s:=by
 have l0:Looks M s.heap (typeOf (.ref x)) (.ref D):=I.type;have l1:Looks M s.heap (isSubtype (.ref D) (.type "BaseException")) true:=looks_subIn X Z.mb;have l2:Looks M s.heap (isInstance (.ref x) (.type "BaseException")) true:=l0.andThen l1;exact @check_slot M A E s "BaseException.__getattribute__" "BaseException" "__getattribute__" (.ref x) [nm] [] Q RO Og l2 (PySem.F.args_bexc_ga _ _) hq
theorem UG{tk:Tok}{fill:Bool}{Q:af->ah->Prop}(Z:jA K D)(X:K.In s.heap)(I:InstAt s.heap x ox D od)(hq:Q (.ref D) s):wpAny (model prog w) A (getAttrByItsOwn (.ref x) (.str "__class__" tk) (.ref D) (.builtin "BaseException.__getattribute__") fill false) Q E s:=by
 obtain⟨h,g,d,t,os⟩:=s;have hook:Looks (model prog w) h (hookBefore (.ref D)) none:=looks_findIn X Z.gt;refine aa (hook.at (aa (jQ (cy ?_))));have called:wpAny (model prog w) A (call (.builtin "BaseException.__getattribute__") [.ref x,.str "__class__" tk]) (λv s'=>wpAny (model prog w) A (handedOut v) Q E s') (λ_ _=>False) ⟨h,g,d,t,os⟩:=
  gU (fH lF.ga.plain entry_bexc_ga (C4 (s:=⟨h,g,d,t,os⟩) Z X I (NT (s:=⟨h,g,d,t,os⟩) Z X I (handed_on rfl hq))))
 exact aa (kI (lF.ga.bind (.ref x)) (cF called (λ_ _ z=>z) λ_ _ z=>z.elim))
theorem NU{Q:Option af->ah->Prop}(Z:jA K D)(X:K.In s.heap)(I:InstAt s.heap x ox D od)(hq:Q (some (.ref D)) {s with toks:=s.toks+1}):wpAny (model prog w) A (getAttr? (.ref x) "__class__") Q E s:=by
 obtain⟨h,g,d,t,os⟩:=s;have its:Looks (model prog w) h (typeLookup (.ref D) "__getattribute__") (some (.builtin "BaseException.__getattribute__")):=looks_findIn X Z.ga;have by_:wpAny (model prog w) A (getAttrBy (.ref x) (.str "__class__" t) false) (λv s'=>v=.ref D/\s'=⟨h,g,d,t+1,os⟩) (λ_ _=>False) ⟨h,g,d,t+1,os⟩:=
  cy (aa (I.type.at (aa (its.at (UG (s:=⟨h,g,d,t+1,os⟩) Z X I ⟨rfl,rfl⟩)))))
 refine aa (wpAny_mkText (aa (jQ (cF by_ (λv s' z=> ?_) λ_ _ z=>z.elim))));obtain⟨rfl,rfl⟩:=z;exact aq hq
theorem GR(Z:jA K D):KitX K (.ref x) (.ref D) (λh=>∃ox od,InstAt h x ox D od) where
 ty:=λ_ _ _ ⟨_,_,I⟩=>I.type
 it:=λ_ _ X _=>by
  obtain⟨v,e⟩:=uF.mp Z.ck;exact(kit_cls X e).2.1
 ne:=λ_ _ _ _ _ _ X tup=>by
  obtain⟨c,d,cd,sl,e⟩:=Z.cl;refine fQ.mpr λsame=> ?_;cases same;cases(X _ _ e).symm.trans tup
 ca:=λX ⟨_,_,I⟩ k=>NU Z X I k
end
section
variable {X:Cx} {pins:List (aj×Obj)} {σ:L2.St} {H:Hp} {s:ah}
def OS:List V->Option (List af)
 |[]=>some []
 |y::ys=>(OR y).bind λc=>(OS ys).map (c:: ·)
theorem zQ:∀{ys:List V} {us cs:List af},Vals ys us->OS ys=some cs->us=cs
 |[],_,_,.nil,h=>by cases h;rfl
 |y::ys,_,cs,.cons r1 r2,h=>by
  obtain⟨c,e1,h⟩:=Option.bind_eq_some_iff.mp h;obtain⟨cs',e2,rfl⟩:=Option.map_eq_some_iff.mp h;rw[zQ r2 e2]
  congr 1
  cases y with
  |ty n=>cases e1;exact r1
  |ref a=>cases e1;exact r1
  |_=>cases e1
end
section
variable {X:Cx}
end
def strKeys(es:Array DictEntry):Bool:=es.toList.all λe=>match e.key with
 | .str _ _=>true
 |_=>false
theorem zf{K:Frag}{N:aj}{c:af}{d:Option aj}{es:Array DictEntry}{ep:Nat}{sl:Array (Option af)}(h:K.lookup N=some ⟨c,d,.dict es ep,sl⟩)(e:strKeys es=true):nsOkIn K N=true:=by
 unfold nsOkIn;rw[h];show es.all _=true;rw[<-Array.all_toList];exact e
theorem BW:bootBuiltins "ValueError"=some (.type "ValueError"):=by decide+kernel
end L3
namespace M1
open PySem.Builtin PySem.Builtin.Str PySem
end M1
namespace L3
open PySem PySem.W PyProof.Rows
structure Ord (ans:Nat->Nat->Bool):Prop where
 Ft:∀i j,ans i j=true->ans j i=false
 tr:∀i j k,ans j i=false->ans k j=false->ans k i=false
theorem Ord.uZ{ans:Nat->Nat->Bool}(o:Ord ans)(i:Nat):ans i i=false:=by
 cases e:ans i i with
 |false=>rfl
 |true=>exact e.symm.trans (o.Ft i i e)
def UR(n:Nat)(ans:Nat->Nat->Bool)(i j:Nat)(C:Bool->ah->Prop)(s:ah):Prop:=i<n/\j<n/\C (ans i j) s
abbrev Comes(n:Nat)(ans:Nat->Nat->Bool){α:Type}(s:ah)(t:KasT α)(P:α->Prop):Prop:=t.kasWp (UR n ans) (λa _=>P a) s
def at_(p:Array Nat)(i:Nat):Nat:=p.getD i 0
def kr(ans:Nat->Nat->Bool)(p:Array Nat)(k:Nat):Prop:=∀i j,i<=j->j<k->ans (at_ p j) (at_ p i)=false
def sU(ans:Nat->Nat->Bool)(p:Array Nat)(k:Nat):Prop:=∀i j,i<=j->j<k->ans (at_ p i) (at_ p j)=false
structure Pl (n:Nat) (p:Array Nat):Prop where
 size:p.size=n
 perm:p.Perm (List.toArray (List.range n))
theorem Pl.lt{n:Nat}{p:Array Nat}(h:Pl n p){i:Nat}(hi:i<n):at_ p i<n:=by
 have hi':i<p.size:=by rw[h.size];exact hi
 have e:at_ p i=p[i]:=by simp[at_,Array.getD,hi']
 have m:p[i]∈List.range n:=by
  have:=(g9.mp h.perm).mem_iff (a:=p[i])
  simpa using this.mp (by simp)
 rw[e];exact g7.mp m
theorem vf(x:Array Nat)(k:Nat):at_ x k=(x[k]?).getD 0:=by
 by_cases hk:k<x.size<;>simp[at_,Array.getD,hk]
theorem sQ{p:Array Nat}{i j:Nat}(hj:j<=p.size)(k:Nat):at_ (kas_rev p i j) k=if i<=k/\k<j then at_ p (i+j-1-k) else at_ p k:=by
 rw[vf,kas_rev,getElem?_mirror_all hj k,vf,vf]
 split<;>rfl
theorem RS{p:Array Nat}{src d:Nat}(hs:src<p.size)(hd:d<=src)(k:Nat):at_ (bubble p src d) k=if k=src-d then at_ p src else if src-d<k/\k<=src then at_ p (k-1) else at_ p k:=by
 rw[vf,getElem?_bubble hs d hd k,vf,vf,vf]
 split
 ·rfl
 ·split<;>rfl
theorem Pl.rev{n:Nat}{p:Array Nat}(h:Pl n p)(i j:Nat):Pl n (kas_rev p i j):=⟨(mirror_size _ _ _ _).trans h.size,(mirror_perm _ _ _ _).trans h.perm⟩
theorem Pl.bub{n:Nat}{p:Array Nat}(h:Pl n p)(i j:Nat):Pl n (bubble p i j):=⟨(bubble_size _ _ _).trans h.size,(bubble_perm _ _ _).trans h.perm⟩
section
variable {n:Nat} {ans:Nat->Nat->Bool} {s:ah}
theorem mM{α β:Type}{t:KasT α}{f:α->KasT β}{P:β->Prop}(h:Comes n ans s t λa=>Comes n ans s (f a) P):Comes n ans s (t.bind f) P:=by
 have st:∀(t:KasT α) (s0:ah),t.kasWp (UR n ans) (λa _=>Comes n ans s (f a) P) s0->s0=s->t.kasWp (UR n ans) (λa s'=>(f a).kasWp (UR n ans) (λa _=>P a) s') s0:=by
  intro t
  induction t with
  |ret a=>intro s0 h e;subst e;exact h
  |ask i j k ih=>intro s0 ⟨a,b,h⟩ e;exact⟨a,b,ih _ s0 h e⟩
 show(t.bind f).kasWp _ _ _;rw[KasT.kasWp_bind];exact st t s h U
theorem gP{α:Type}{P P':α->Prop}(hp:∀a,P a->P' a):∀{t:KasT α},Comes n ans s t P->Comes n ans s t P'
 | .ret a,h=>hp a h
 | .ask i j k,⟨a,b,h⟩=>⟨a,b,gP hp (t:=k _) h⟩
theorem Io{α:Type}{cmp:Nat->Nat->(Bool->ah->Prop)->ah->Prop}{P:α->Prop}{Q:α->ah->Prop}(I:ah->Prop)(hc:∀i j (C:Bool->ah->Prop) s,i<n->j<n->I s->(∀s',I s'->C (ans i j) s')->cmp i j C s)(hq:∀a s',P a->I s'->Q a s'):
  ∀(t:KasT α) (s0 s1:ah),Comes n ans s0 t P->I s1->t.kasWp cmp Q s1
 | .ret a,s0,s1,h,i1=>hq a s1 h i1
 | .ask i j k,s0,s1,⟨a,b,h⟩,i1=>hc i j _ s1 a b i1 λs' i'=>Io I hc hq (k _) s0 s' h i'
theorem sh(o:Ord ans){p:Array Nat}(hp:Pl n p){k:Nat}(hk:k<n)(hs:kr ans p k):∀(f l r:Nat),l<=r->r<=k->r-l<=f->(∀i,i<l->ans (at_ p k) (at_ p i)=false)->(∀i,r<=i->i<k->ans (at_ p k) (at_ p i)=true)->
  Comes n ans s (kas_place p k f l r) λx=>x<=k/\(∀i,i<x->ans (at_ p k) (at_ p i)=false)/\∀i,x<=i->i<k->ans (at_ p k) (at_ p i)=true
 |0,l,r,h1,h2,h3,lo,hi=>by
  have e:l=r:=by omega
  subst e;exact⟨h2,lo,hi⟩
 |f+1,l,r,h1,h2,h3,lo,hi=>by
  unfold kas_place
  by_cases g:l≥r
  ·rw[bg g];have e:l=r:=by omega
   subst e;exact⟨h2,lo,hi⟩
  ·rw[aX g];refine⟨hp.lt hk,hp.lt (by omega), ?_⟩;cases e:ans (p.getD k 0) (p.getD ((l+r)/2) 0) with
   |true=>
    (dsimp only;rw[bg rfl])
    refine sh o hp hk hs f l ((l+r)/2) (by omega) (by omega) (by omega) lo λi a b=> ?_;cases e2:ans (at_ p k) (at_ p i) with
    |true=>rfl
    |false=>
     have:=o.tr (at_ p ((l+r)/2)) (at_ p i) (at_ p k) (hs _ _ a b) e2;rw[show ans (at_ p k) (at_ p ((l+r)/2))=true from e] at this
     exact this.symm
   |false=>
    (dsimp only;rw[aX (by simp)])
    exact sh o hp hk hs f ((l+r)/2+1) r (by omega) h2 (by omega) (λi a=>o.tr (at_ p i) (at_ p ((l+r)/2)) (at_ p k) (hs _ _ (by omega) (by omega)) e) hi
theorem Di(o:Ord ans):∀(f:Nat) (p:Array Nat) (k:Nat),Pl n p->k+f=n->kr ans p k->Comes n ans s (kas_bin f p k) λq=>Pl n q/\kr ans q n
 |0,p,k,hp,e,hs=>by
  have e:k=n:=by omega
  subst e;exact⟨hp,hs⟩
 |f+1,p,k,hp,e,hs=>by
  have hk:k<n:=by omega
  unfold kas_bin;refine mM (gP (λl ⟨a,lo,hi⟩=> ?_) (sh o hp hk hs k 0 k (by omega) (by omega) (by omega) (λi z=>by omega) λi z1 z2=>by omega));refine Di o f _ (k+1) (hp.bub _ _) (by omega) λi j Ki hj=> ?_;have hks:k<p.size:=by rw[hp.size];exact hk
  rw[RS hks (by omega),RS hks (by omega),show k-(k-l)=l by omega]
  repeat' split
  all_goals first
   |(exfalso;omega)
   |exact o.uZ _
   |exact lo _ (by omega)
   |exact o.Ft _ _ (hi _ (by omega) (by omega))
   |exact hs _ _ (by omega) (by omega)
theorem x5(o:Ord ans){p:Array Nat}(hp:Pl n p):∀(f m:Nat),1<=m->m+f<=n->kr ans p m->Comes n ans s (kas_asc p f m) λx=>m<=x/\x<=m+f/\kr ans p x/\(x<m+f->ans (at_ p x) (at_ p (x-1))=true)
 |0,m,h1,h2,hs=>⟨aE _,aE _,hs,λz=>absurd z (dP _)⟩
 |f+1,m,h1,h2,hs=>by
  unfold kas_asc;refine⟨hp.lt (by omega),hp.lt (by omega), ?_⟩;cases e:ans (p.getD m 0) (p.getD (m-1) 0) with
  |true=>(dsimp only;rw[bg rfl]);exact⟨aE _,by omega,hs,λ_=>e⟩
  |false=>
   (dsimp only;rw[aX (by simp)])
   refine gP (λx ⟨a,b,c,d⟩=>⟨by omega,by omega,c,λz=>d (by omega)⟩) (x5 o hp f (m+1) (by omega) (by omega) λi j Ki hj=> ?_)
   by_cases q:j<m
   ·exact hs i j Ki q
   ·have ej:j=m:=by omega
    subst ej
    by_cases q2:i=j
    ·subst q2;exact o.uZ _
    ·exact o.tr (at_ p i) (at_ p (j-1)) (at_ p j) (hs _ _ (by omega) (by omega)) e
theorem AN(o:Ord ans){p q:Array Nat}{m:Nat}(h:sU ans p m)(e:∀k,k<m->ans (at_ p k) (at_ q k)=false/\ans (at_ q k) (at_ p k)=false):sU ans q m:=λi j Ki hj=>
 o.tr (at_ q j) (at_ p i) (at_ q i) (o.tr (at_ q j) (at_ p j) (at_ p i) (e j hj).1 (h i j Ki hj)) (e i (by omega)).2
def Tail(ans:Nat->Nat->Bool)(p:Array Nat)(m q:Nat):Prop:=∀k,m-(q+1)<=k->k<m->ans (at_ p k) (at_ p (m-1))=false/\ans (at_ p (m-1)) (at_ p k)=false
theorem FZ(o:Ord ans){p:Array Nat}{m q:Nat}(hm:m<=p.size)(hq:q+1<=m)(t:Tail ans p m q):∀k,k<m->ans (at_ p k) (at_ (kas_rev p (m-(q+1)) m) k)=false/\ans (at_ (kas_rev p (m-(q+1)) m) k) (at_ p k)=false:=λk hk=>by
 rw[sQ hm]
 split
 ·rename_i h
  have a:=t k h.1 h.2;have b:=t (m-(q+1)+m-1-k) (by omega) (by omega);exact⟨o.tr _ _ _ b.2 a.1,o.tr _ _ _ a.2 b.1⟩
 ·exact⟨o.uZ _,o.uZ _⟩
theorem qA(o:Ord ans):∀(f:Nat) (p:Array Nat) (m q:Nat),Pl n p->1<=m->m+f<=n->q+1<=m->sU ans p m->Tail ans p m q->Comes n ans s (kas_desc f p m q) λr=>Pl n r.1/\1<=r.2.1/\r.2.1<=m+f/\r.2.2+1<=r.2.1/\sU ans r.1 r.2.1/\Tail ans r.1 r.2.1 r.2.2
 |0,p,m,q,hp,h1,h2,hq,hf,ht=>⟨hp,h1,aE _,hq,hf,ht⟩
 |f+1,p,m,q,hp,h1,h2,hq,hf,ht=>by
  unfold kas_desc;refine⟨hp.lt (by omega),hp.lt (by omega), ?_⟩;have more:∀(p':Array Nat),sU ans p' m->ans (at_ p' (m-1)) (at_ p' m)=false->sU ans p' (m+1):=λp' hf' l i j Ki hj=>by
   by_cases z:j<m
   ·exact hf' i j Ki z
   ·have ej:j=m:=by omega
    subst ej
    by_cases z2:i=j
    ·subst z2;exact o.uZ _
    ·exact o.tr (at_ p' j) (at_ p' (j-1)) (at_ p' i) l (hf' _ _ (by omega) (by omega))
  cases e:ans (p.getD m 0) (p.getD (m-1) 0) with
  |true=>
   (dsimp only;rw[bg rfl])
   have one:∀p':Array Nat,Tail ans p' (m+1) 0:=λp' k a b=>by
    have ek:k=m:=by omega
    subst ek;exact⟨o.uZ _,o.uZ _⟩
   by_cases z:q>0
   ·rw[bg z];have al:=FZ o (by rw[hp.size];omega) hq ht
    have f':=AN o hf al;refine gP (λr ⟨a,b,c,d⟩=>⟨a,b,by omega,d⟩) (qA o f _ (m+1) 0 (hp.rev _ _) (by omega) (by omega) (by omega) (more _ f' ?_) (one _));have em:at_ (kas_rev p (m-(q+1)) m) m=at_ p m:=by rw[sQ (by rw[hp.size];omega),aX (by omega)]
    rw[em];exact o.tr (at_ p m) (at_ p (m-1)) _ (o.Ft _ _ e) (al (m-1) (by omega)).2
   ·rw[aX z];exact gP (λr ⟨a,b,c,d⟩=>⟨a,b,by omega,d⟩) (qA o f p (m+1) 0 hp (by omega) (by omega) (by omega) (more _ hf (o.Ft _ _ e)) (one _))
  |false=>
   (dsimp only;rw[aX (by simp)])
   refine⟨hp.lt (by omega),hp.lt (by omega), ?_⟩;cases e2:ans (p.getD (m-1) 0) (p.getD m 0) with
   |true=>(dsimp only;rw[bg rfl]);exact⟨hp,h1,(show m<=m+(f+1) by omega),hq,hf,ht⟩
   |false=>
    (dsimp only;rw[aX (by simp)])
    refine gP (λr ⟨a,b,c,d⟩=>⟨a,b,by omega,d⟩) (qA o f p (m+1) (q+1) hp (by omega) (by omega) (by omega) (more _ hf e2) λk a b=> ?_);show ans (at_ p k) (at_ p m)=false/\ans (at_ p m) (at_ p k)=false
    by_cases z:k=m
    ·subst z;exact⟨o.uZ _,o.uZ _⟩
    ·have t:=ht k (by omega) (by omega);exact⟨o.tr (at_ p m) (at_ p (m-1)) (at_ p k) e2 t.1,o.tr (at_ p k) (at_ p (m-1)) (at_ p m) t.2 e⟩
theorem ym(o:Ord ans){p:Array Nat}(hp:Pl n p){m:Nat}(h1:1<=m)(h2:m<=n)(hf:sU ans p m):Comes n ans s (kas_tail3 m n p) λr=>1<=r.1/\r.1<=n/\Pl n r.2/\kr ans r.2 r.1:=by
 unfold kas_tail3;refine mM (gP (λx ⟨a,b,c,d⟩=>⟨by omega,by omega,hp.rev _ _,c⟩) (x5 o (hp.rev 0 m) (n-m) m h1 (by omega) λi j Ki hj=> ?_));rw[sQ (by rw[hp.size];exact h2),sQ (by rw[hp.size];exact h2),bg (by omega),bg (by omega)]
 exact hf _ _ (by omega) (by omega)
theorem sD(o:Ord ans){p:Array Nat}(hp:Pl n p){m:Nat}(h1:1<=m)(h2:m<n)(hf:sU ans p m)(hl:ans (at_ p m) (at_ p (m-1))=true):Comes n ans s (kas_descPart m n p) λr=>1<=r.1/\r.1<=n/\Pl n r.2/\kr ans r.2 r.1:=by
 unfold kas_descPart;refine mM (gP (λr ⟨a,b,c,d,e,t⟩=> ?g) (qA o (n-(m+1)) p (m+1) 0 hp (by omega) (by omega) (by omega) (λi j Ki hj=> ?f) λk a b=> ?t))
 case g=>
  split
  ·have al:=FZ o (by rw[a.size];omega) d t
   exact ym o (a.rev _ _) b (by omega) (AN o e al)
  ·exact ym o a b (by omega) e
 case f=>
  by_cases z:j<m
  ·exact hf i j Ki z
  ·have ej:j=m:=by omega
   subst ej
   by_cases z2:i=j
   ·subst z2;exact o.uZ _
   ·exact o.tr (at_ p j) (at_ p (j-1)) (at_ p i) (o.Ft _ _ hl) (hf _ _ (by omega) (by omega))
 case t=>
  have ek:k=m:=by omega
  subst ek;exact⟨o.uZ _,o.uZ _⟩
theorem Il(o:Ord ans){p:Array Nat}(hp:Pl n p)(h1:1<=n):Comes n ans s (kas_count n p) λr=>1<=r.1/\r.1<=n/\Pl n r.2/\kr ans r.2 r.1:=by
 unfold kas_count;refine mM (gP (λx ⟨a,b,c,d⟩=> ?g) (x5 o hp (n-1) 1 (aE _) (by omega) λi j Ki hj=> ?f))
 case g=>
  by_cases z:x=n
  ·rw[bg (by simpa using z)];exact⟨a,by omega,hp,c⟩
  ·rw[aX (by simpa using z)];have l:=d (by omega)
   by_cases z2:x>1
   ·rw[bg z2];refine⟨hp.lt (by omega),hp.lt (by omega), ?_⟩;cases e:ans (p.getD 0 0) (p.getD (x-1) 0) with
    |true=>(dsimp only;rw[bg rfl]);exact⟨a,by omega,hp,c⟩
    |false=>
     (dsimp only;rw[aX (by simp)])
     have al:∀i j,i<x->j<x->ans (at_ p i) (at_ p j)=false:=λi j hi hj=>o.tr (at_ p j) (at_ p 0) (at_ p i) (o.tr (at_ p j) (at_ p (x-1)) (at_ p 0) (c _ _ (by omega) (by omega)) e) (c _ _ (by omega) hi);have hx:x<=p.size:=by rw[hp.size];omega
     refine sD o (hp.rev 0 x) a (by omega) (λi j Ki hj=> ?_) ?_
     ·rw[sQ hx,sQ hx,bg (by omega),bg (by omega)];exact al _ _ (by omega) (by omega)
     ·rw[sQ hx,sQ hx,aX (by omega),bg (by omega),show 0+x-1-(x-1)=0 by omega];cases e3:ans (at_ p x) (at_ p 0) with
      |true=>rfl
      |false=>
       have:=o.tr (at_ p (x-1)) (at_ p 0) (at_ p x) e e3;rw[l] at this
       exact this.symm
   ·rw[aX z2];have ex:x=1:=by omega
    subst ex;exact sD o hp (aE _) (by omega) (λi j Ki hj=>by
     have:i=j:=by omega
     subst this;exact o.uZ _) l
 case f=>
  have:i=j:=by omega
  subst this;exact o.uZ _
theorem Jf(o:Ord ans)(h1:1<=n):Comes n ans s (kas_sort n) λq=>Pl n q/\kr ans q n:=by
 unfold kas_sort;have p0:Pl n (List.toArray (List.range n)):=⟨by simp,Array.Perm.refl _⟩
 refine mM (gP (λr ⟨a,b,c,d⟩=> ?_) (Il o p0 h1))
 split
 ·have e:max r.1 1=r.1:=by omega
  rw[e];exact Di o _ _ _ c (by omega) d
 ·have e:r.1=n:=by omega
  rw[e] at d
  exact⟨c,d⟩
end
end L3
namespace L3
open PySem
structure Bf {α:Type} (lt:α->α->Bool):Prop where
 uZ:∀a,lt a a=false
 tr:∀a b c,lt a b=true->lt b c=true->lt a c=true
 IZ:∀a b,lt a b=true\/a=b\/lt b a=true
theorem Bf.Ft{α:Type}{lt:α->α->Bool}(o:Bf lt){a b:α}(h:lt a b=true):lt b a=false:=by
 cases e:lt b a with
 |false=>rfl
 |true=>exact(o.tr a b a h e).symm.trans (o.uZ a)
theorem Bf.ord{α:Type}{lt:α->α->Bool}(o:Bf lt)(f:Nat->α):Ord λi j=>lt (f i) (f j) where
 Ft:=λi j h=>o.Ft h
 tr:=λi j k h1 h2=>by
  cases e:lt (f k) (f i) with
  |false=>rfl
  |true=>
   rcases o.IZ (f i) (f j) with z|z|z
   ·exact(o.tr _ _ _ e z).symm.trans h2
   ·rw[z] at e;exact e.symm.trans h2
   ·exact z.symm.trans h1
def jF(a b:Int):Bool:=decide (a<b)
theorem pH:Bf jF:=⟨λa=>bJ (by omega),λa b c h1 h2=>bf (by have:=ba h1;have:=ba h2;omega),λa b=>by
 rcases Int.lt_trichotomy a b with h|h|h
 ·exact .inl (bf h)
 ·exact .inr (.inl h)
 ·exact .inr (.inr (bf h))⟩
def su{α:Type} [DecidableEq α](lt:α->α->Bool):List α->List α->Bool
 |[],[]=>false
 |[],_::_=>true
 |_::_,[]=>false
 |a::r,b::t=>if a=b then su lt r t else lt a b
theorem GO{α:Type} [DecidableEq α]{lt:α->α->Bool}(o:Bf lt):Bf (su lt) where
 uZ:=λl=>by
  induction l with
  |nil=>rfl
  |cons a r ih=>unfold su;rw[bg rfl];exact ih
 tr:=λx=>by
  induction x with
  |nil=>intro y z h1 h2;cases y with
   |nil=>exact h2
   |cons b t=>cases z with
    |nil=>exact absurd h2 (by simp[su])
    |cons c u=>rfl
  |cons a r ih=>intro y z h1 h2;cases y with
   |nil=>exact absurd h1 (by simp[su])
   |cons b t=>cases z with
    |nil=>exact absurd h2 (by simp[su])
    |cons c u=>
     unfold su at h1 h2⊢
     by_cases e1:a=b
     ·subst e1;rw[bg rfl] at h1
      by_cases e2:a=c
      ·rw[bg e2] at h2⊢;exact ih t u h1 h2
      ·rw[aX e2] at h2⊢;exact h2
     ·rw[aX e1] at h1
      by_cases e2:b=c
      ·subst e2;rw[aX e1];exact h1
      ·rw[aX e2] at h2
       have h3:=o.tr _ _ _ h1 h2
       by_cases e3:a=c
       ·subst e3;rw[o.uZ] at h3;cases h3
       ·rw[aX e3];exact h3
 IZ:=λx=>by
  induction x with
  |nil=>intro y;cases y with
   |nil=>exact .inr (.inl U)
   |cons b t=>exact .inl U
  |cons a r ih=>intro y;cases y with
   |nil=>exact .inr (.inr U)
   |cons b t=>
    unfold su
    by_cases e:a=b
    ·subst e;rw[bg rfl,bg rfl];rcases ih t with h|h|h
     ·exact .inl h
     ·exact .inr (.inl (by rw[h]))
     ·exact .inr (.inr h)
    ·rw[aX e,aX (cY e)];rcases o.IZ a b with h|h|h
     ·exact .inl h
     ·exact absurd h e
     ·exact .inr (.inr h)
def Nv{α β:Type} [DecidableEq α](la:α->α->Bool)(lb:β->β->Bool)(x y:α×β):Bool:=if x.1=y.1 then lb x.2 y.2 else la x.1 y.1
theorem GN{α β:Type} [DecidableEq α]{la:α->α->Bool}{lb:β->β->Bool}(oa:Bf la)(ob:Bf lb):Bf (Nv la lb) where
 uZ:=λx=>by unfold Nv;rw[bg rfl];exact ob.uZ _
 tr:=λ⟨a,x⟩ ⟨b,y⟩ ⟨c,z⟩ h1 h2=>by
  unfold Nv at h1 h2⊢
  dsimp only at h1 h2⊢
  by_cases e1:a=b
  ·subst e1;rw[bg rfl] at h1
   by_cases e2:a=c
   ·rw[bg e2] at h2⊢;exact ob.tr _ _ _ h1 h2
   ·rw[aX e2] at h2⊢;exact h2
  ·rw[aX e1] at h1
   by_cases e2:b=c
   ·subst e2;rw[aX e1];exact h1
   ·rw[aX e2] at h2
    have h3:=oa.tr _ _ _ h1 h2
    by_cases e3:a=c
    ·subst e3;rw[oa.uZ] at h3;cases h3
    ·rw[aX e3];exact h3
 IZ:=λ⟨a,x⟩ ⟨b,y⟩=>by
  unfold Nv
  dsimp only
  by_cases e:a=b
  ·subst e;rw[bg rfl,bg rfl];rcases ob.IZ x y with h|h|h
   ·exact .inl h
   ·exact .inr (.inl (by rw[h]))
   ·exact .inr (.inr h)
  ·rw[aX e,aX (cY e)];rcases oa.IZ a b with h|h|h
   ·exact .inl h
   ·exact absurd h e
   ·exact .inr (.inr h)
def JN(a b:List Nat):Bool:=decide (a<b)
theorem Aw:∀a b:List Nat,JN a b=su (λx y=>decide (x<y)) a b
 |[],[]=>rfl
 |[],_::_=>rfl
 |_::_,[]=>rfl
 |a::r,b::t=>by
  unfold su;have e:JN (a::r) (b::t)=(decide (a<b)||(a==b&&JN r t)):=StrLaws.lt_cons_cons a b r t;rw[e,Aw r t]
  by_cases q:a=b
  ·subst q;rw[bg rfl];simp
  ·rw[aX q];simp[q]
def strLt(a b:Str):Bool:=decide (a.cps.toList<b.cps.toList)
theorem jZ:Bf strLt:=by
 have o:Bf λx y:Nat=>decide (x<y):=⟨λa=>bJ (by omega),λa b c h1 h2=>bf (by have:=ba h1;have:=ba h2;omega),λa b=>by
  rcases Nat.lt_trichotomy a b with h|h|h
  ·exact .inl (bf h)
  ·exact .inr (.inl h)
  ·exact .inr (.inr (bf h))⟩
 have L:=GO o;have e:∀a b:Str,strLt a b=su (λx y=>decide (x<y)) a.cps.toList b.cps.toList:=λa b=>Aw _ _;refine⟨λa=>(e a a).trans (L.uZ _),λa b c h1 h2=> ?_,λa b=> ?_⟩
 ·rw[e] at h1 h2⊢;exact L.tr _ _ _ h1 h2
 ·rw[e,e];rcases L.IZ a.cps.toList b.cps.toList with h|h|h
  ·exact .inl h
  ·refine .inr (.inl ?_);obtain⟨⟨x⟩⟩:=a;obtain⟨⟨y⟩⟩:=b;have h:x=y:=h;rw[h]
  ·exact .inr (.inr h)
abbrev Lf:=Str×Int
def sr:Lf->Lf->Bool:=Nv strLt jF
def uv:List Lf->List Lf->Bool:=su sr
abbrev Ky:=Int×List Lf
def uY:Ky->Ky->Bool:=Nv jF uv
theorem mL:Bf sr:=GN jZ pH
theorem xM:Bf uv:=GO mL
theorem wI:Bf uY:=GN pH xM
end L3
namespace L3
open PySem PySem.Spec PyProof.Rows L2
def yP(e c:Nat->Bool)(fin:Bool):List Nat->Bool
 |[]=>fin
 |i::r=>if e i=true then yP e c fin r else c i
section
variable {P:bo} {w:World} (l b:aj) (xs ys:Array af) (n m:Nat) (d1 d2:Option aj) (s1 s2:Array (Option af)) (e c:Nat->Bool)
abbrev xN(xs ys:Array af)(e c:Nat->Bool)(i:Nat):Bool:=yP e c (decide (xs.size<ys.size)) ((List.range (min xs.size ys.size)).drop i)
theorem Xw(k:Nat):∀i:Nat,min xs.size ys.size-i=k->MeetsIn P w (Builtin.«list.__eq__.loop» ⟨[.ref l,.ref b,rawInt i,rawInt 0],[]⟩)
  (λA R s=>s.heap.get? l=some (xO d1 xs n s1)/\s.heap.get? b=some (xO d2 ys m s2)/\(∀j (h1:j<xs.size) (h2:j<ys.size),yY P w A.in1 s xs[j] ys[j] (e j))/\
   (∀j (h1:j<xs.size) (h2:j<ys.size),e j=false->vo P w A.in1 s .Lt xs[j] ys[j] (c j))/\R (.ok (.ret (.bool (xN xs ys e c i)))) s):=by
 induction k with
 |zero=>
  intro i hk A R s h;obtain⟨hq,gs,dr,tk,Bc⟩:=s;obtain⟨u1,u2,ue,uc,q⟩:=h;have v3:(List.range (min xs.size ys.size)).drop i=[]:=by simp;omega
  unfold xN at q
  rw[v3] at q
  have fin:∀o1 o2,(xs[((i:Nat):Int).toNat]? =o1)->(ys[((i:Nat):Int).toNat]? =o2)->o1=none\/o2=none:=λo1 o2 a1 a2=>by
   rw[<-a1,<-a2]
   by_cases z:i<xs.size
   ·right;simp;omega
   ·left;simp;omega
  wp_walk using aG u1,aG u2
  cases v1:xs[((i:Nat):Int).toNat]? with
  |none=>
   wp_walk using aG u1,aG u2
   exact q
  |some x=>
   cases v2:ys[((i:Nat):Int).toNat]? with
   |none=>
    wp_walk using aG u1,aG u2
    exact q
   |some y=>exact absurd (fin _ _ v1 v2) (by simp)
 |succ k ih=>
  intro i hk A R s h;obtain⟨hq,gs,dr,tk,Bc⟩:=s;obtain⟨u1,u2,ue,uc,q⟩:=h;have t1:i<xs.size:=by omega
  have t2:i<ys.size:=by omega
  have tm:i<min xs.size ys.size:=by omega
  have v1:xs[((i:Nat):Int).toNat]? =some xs[i]:=by simp[t1]
  have v2:ys[((i:Nat):Int).toNat]? =some ys[i]:=by simp[t2]
  have v3:(List.range (min xs.size ys.size)).drop i=i::(List.range (min xs.size ys.size)).drop (i+1):=by simp[cB,tm]
  have v4:((i:Int)+1)=((i+1:Nat):Int):=by push_cast;rfl
  unfold xN at q
  rw[v3] at q
  unfold yP at q
  wp_walk using aG u1,aG u2
  rw[v1,v2];refine aa (ue i t1 t2 _ _ ?_);cases ei:e i with
  |true=>
   rw[ei,bg rfl] at q
   wp_walk
   rw[v4];refine⟨de cQ _,cW gQ ?_⟩;rw[cP cQ _];exact ih (i+1) (by omega) A R _ ⟨u1,u2,ue,uc,q⟩
  |false=>
   rw[ei,aX (by simp)] at q
   wp_walk using aG u1,aG u2
   rw[v1,v2];refine aa (uc i t1 t2 ei _ _ ?_)
   wp_walk
   exact q
theorem Xx:MeetsIn P w (Builtin.«list.__lt__» ⟨[.ref l,.ref b],[]⟩) (λA R s=>s.heap.get? l=some (xO d1 xs n s1)/\s.heap.get? b=some (xO d2 ys m s2)/\
  (∀j (h1:j<xs.size) (h2:j<ys.size),yY P w A.in1 s xs[j] ys[j] (e j))/\(∀j (h1:j<xs.size) (h2:j<ys.size),e j=false->vo P w A.in1 s .Lt xs[j] ys[j] (c j))/\R (.ok (.ret (.bool (xN xs ys e c 0)))) s):=by
 intro A R s h;obtain⟨hq,gs,dr,tk,Bc⟩:=s;obtain⟨u1,u2,ue,uc,q⟩:=h;have sub:=Bp
 wp_walk using aG u1,aG u2
 refine⟨de cQ _,cW gQ ?_⟩;rw[cP cQ _];exact Xw l b xs ys n m d1 d2 s1 s2 e c _ 0 U A R _ ⟨u1,u2,ue,uc,q⟩
theorem Zat:MeetsIn P w (Builtin.«tuple.__lt__» ⟨[.ref l,.ref b],[]⟩) (λA R s=>s.heap.get? l=some (MC d1 xs n s1)/\s.heap.get? b=some (MC d2 ys m s2)/\
  (∀j (h1:j<xs.size) (h2:j<ys.size),yY P w A.in1 s xs[j] ys[j] (e j))/\(∀j (h1:j<xs.size) (h2:j<ys.size),e j=false->vo P w A.in1 s .Lt xs[j] ys[j] (c j))/\R (.ok (.ret (.bool (xN xs ys e c 0)))) s):=
 .of_wp λA R s h=>by
  obtain⟨hq,gs,dr,tk,Bc⟩:=s;obtain⟨u1,u2,ue,uc,q⟩:=h;have sub:=yE;have zl:(xs.toList.zip ys.toList).length=min xs.size ys.size:=by simp
  wp_walk using aG u1,aG u2,wpAny_forIn_list _ (λrest a s'=>a.1=none/\s'=⟨hq,gs,dr,tk,Bc⟩/\∃i,rest=(xs.toList.zip ys.toList).drop i/\
   R (.ok (.ret (.bool (xN xs ys e c i)))) ⟨hq,gs,dr,tk,Bc⟩) _
  case turn=>
   rintro⟨y,x⟩ rest a s' ⟨ha,rfl,i,zr,zq⟩;have lt:i<(xs.toList.zip ys.toList).length:=vC λz=>by rw[dW z] at zr;cases zr
   have lm:i<min xs.size ys.size:=zl▸lt;have l1:i<xs.size:=by omega
   have l2:i<ys.size:=by omega
   rw[cB lt] at zr
   injection zr with Vi FP
   obtain rfl:y=xs[i]:=by simpa using dc Prod.fst Vi
   obtain rfl:x=ys[i]:=by simpa using dc Prod.snd Vi
   have zd:(List.range (min xs.size ys.size)).drop i=i::(List.range (min xs.size ys.size)).drop (i+1):=by simp[cB,lm]
   unfold xN at zq
   rw[zd] at zq
   unfold yP at zq
   refine aa (ue i l1 l2 _ _ ?_);cases ei:e i with
   |true=>
    rw[ei,bg rfl] at zq
    wp_walk
    exact⟨U,U,i+1,FP,zq⟩
   |false=>
    rw[ei,aX (by simp)] at zq
    have rc:=uc i l1 l2 ei;unfold vo at rc
    generalize richCompare CmpOp.Lt xs[i] ys[i]=m at rc⊢
    wp_walk
    first|refine aa (rc _ _ ?_)|refine rc _ _ ?_
    wp_walk
    exact⟨_,U,zq⟩
  case fin=>
   rintro⟨a1,a2⟩ s' ⟨ha,rfl,i,zr,zq⟩;simp only at ha
   subst ha;have ge:min xs.size ys.size<=i:=fX λz=>by rw[cB (zl▸z:i<(xs.toList.zip ys.toList).length)] at zr;cases zr
   unfold xN at zq
   rw[dW (by simpa using ge)] at zq
   wp_walk
   exact⟨_,U,by simpa [Builtin.Tuple.tupleCompareSizes,yP] using zq⟩
  case h=>exact⟨U,U,0,U,q⟩
end
section
variable {P:bo} {w:World} {A:bK} {s:ah} {l b:aj} {xs ys:Array af} {e c:Nat->Bool}
theorem Uc(hl:s.heap.IsList l xs)(hb:s.heap.IsList b ys)(hu:A.units<cLine)(he:∀j (h1:j<xs.size) (h2:j<ys.size),yY P w A.in1 s xs[j] ys[j] (e j))(hc:∀j (h1:j<xs.size) (h2:j<ys.size),e j=false->vo P w A.in1 s .Lt xs[j] ys[j] (c j)):vo P w A s .Lt (.ref l) (.ref b) (xN xs ys e c 0):=by
 obtain⟨⟨c1,d1,t1,s1⟩,o1,k1,n,e1⟩:=id hl;obtain⟨⟨c2,d2,t2,s2⟩,o2,k2,m,e2⟩:=id hb;simp only at k1 e1 k2 e2
 subst k1 e1 k2 e2;exact λE Q q=>fO hl.typeIs hb.typeIs F.slot_list_lt (gB F.slot_list_lt hl.typeIs F.entry_list_lt (F.args_list_lt_2 _ _) (Xx l b xs ys n m d1 d2 s1 s2 e c) ⟨o1,o2,he,hc,lW q⟩) hu
theorem Qt(hl:s.heap.IsTuple l xs)(hb:s.heap.IsTuple b ys)(hu:A.units<cLine)(he:∀j (h1:j<xs.size) (h2:j<ys.size),yY P w A.in1 s xs[j] ys[j] (e j))(hc:∀j (h1:j<xs.size) (h2:j<ys.size),e j=false->vo P w A.in1 s .Lt xs[j] ys[j] (c j)):vo P w A s .Lt (.ref l) (.ref b) (xN xs ys e c 0):=by
 obtain⟨⟨c1,d1,t1,s1⟩,o1,k1,n,e1⟩:=id hl;obtain⟨⟨c2,d2,t2,s2⟩,o2,k2,m,e2⟩:=id hb;simp only at k1 e1 k2 e2
 subst k1 e1 k2 e2;exact λE Q q=>fO hl.typeIs hb.typeIs F.slot_tuple_lt (gB F.slot_tuple_lt hl.typeIs F.entry_tuple_lt (F.args_tuple_lt_2 _ _) (Zat l b xs ys n m d1 d2 s1 s2 e c) ⟨o1,o2,he,hc,lW q⟩) hu
end
end L3
namespace L3
open PySem PySem.Spec PyProof.Rows L2 PySem.W PySem.Calls
def wH(x:Lf):Dt:=.tup [.v (.str x.1),.v (.int x.2)]
def yO(l:List Lf):Dt:=.lst (l.map wH)
def yQ(k:Ky):Dt:=.tup [.v (.int k.1),yO k.2]
theorem Rk(n:Nat)(x y:Lf):gX (n+1) (wH x) (wH y)=decide (x=y):=by
 obtain⟨a,b⟩:=x;obtain⟨c,d⟩:=y;have e:gX (n+1) (wH (a,b)) (wH (c,d))=((a==c)&&(b==d)):=by simp[wH,gX,IJ]
 rw[e]
 by_cases h:(a,b)=(c,d)
 ·injection h with h1 h2;subst h1 h2;simp
 ·rw[bJ h]
  by_cases h1:a=c
  ·subst h1;have h2:b≠d:=λz=>h (by rw[z]);simp[h2]
  ·simp[h1]
theorem LX(n:Nat):∀x y:List Lf,gX (n+2) (yO x) (yO y)=decide (x=y):=by
 have go:∀x y:List Lf,((x.map wH).length==(y.map wH).length&&((x.map wH).zip (y.map wH)).all λp=>gX (n+1) p.1 p.2)=decide (x=y):=by
  intro x
  induction x with
  |nil=>intro y;cases y<;>rfl
  |cons a r ih=>intro y;cases y with
   |nil=>rfl
   |cons b t=>
    rw[aT,aT,eF,fG,Rk,aZ,aZ];have e:((r.map wH).length+1==(t.map wH).length+1)=((r.map wH).length==(t.map wH).length):=by
     by_cases z:(r.map wH).length=(t.map wH).length
     ·rw[z];simp
     ·rw[iq z,iq (by omega)]
    rw[e,Bool.and_left_comm,ih t]
    by_cases z:a=b
    ·subst z;simp
    ·simp[z]
 exact λx y=>go x y
theorem LD(n:Nat)(x y:Lf):kM (n+1) (wH x) (wH y)=true:=by simp[wH,kM]
theorem GI(n:Nat)(x y:List Lf):kM (n+2) (yO x) (yO y)=true:=by
 show(((x.map wH).zip (y.map wH)).all λp=>kM (n+1) p.1 p.2)=true;rw[eP];intro p hp;have h1:=(jh hp).1;have h2:=(jh hp).2;obtain⟨a,_,e1⟩:=a5.mp h1;obtain⟨b,_,e2⟩:=a5.mp h2;rw[<-e1,<-e2];exact LD n a b
theorem CL(e c:Nat->Bool)(fin:Bool):∀l:List Nat,yP e c fin (l.map Nat.succ)=yP (λj=>e (j+1)) (λj=>c (j+1)) fin l
 |[]=>rfl
 |i::r=>by
  show(if e (i+1)=true then yP e c fin (r.map Nat.succ) else c (i+1))=_;rw[CL e c fin r]
  rfl
theorem CK{α:Type} [DecidableEq α](lt:α->α->Bool)(d:α):∀a b:List α,yP (λj=>decide (a.getD j d=b.getD j d)) (λj=>lt (a.getD j d) (b.getD j d)) (decide (a.length<b.length)) (List.range (min a.length b.length))=su lt a b
 |[],[]=>rfl
 |[],_::_=>by simp[yP,su]
 |_::_,[]=>by simp[yP,su]
 |x::a,y::b=>by
  rw[aZ,aZ,Nat.succ_min_succ,lZ];show(if decide (x=y)=true then yP _ _ _ _ else lt x y)=if x=y then su lt a b else lt x y;rw[CL];have e:decide (a.length+1<b.length+1)=decide (a.length<b.length):=by
   by_cases z:a.length<b.length
   ·rw[bf z,bf (by omega)]
   ·rw[bJ z,bJ (by omega)]
  rw[e,<-CK lt d a b]
  by_cases z:x=y
  ·rw[bg z,bg (bf z)];rfl
  ·rw[aX z,aX (by rw[bJ z];simp)]
section
variable {X:Cx} {pins:List (aj×Obj)} {σ:L2.St} {H:Hp} {s:ah} {A:bK}
theorem WM{x:Lf}{v:V}(r:Rep X.K H (wH x) v):∃p,v=.ref p/\jU X.K H p [.str x.1,.int x.2]:=by
 cases r with
 |tup h r=>
  cases r with
  |cons a r=>
   cases r with
   |cons b r=>
    cases r;cases a;cases b;exact⟨_,U,h⟩
theorem Vy(I:L2.Inv X pins σ H s){x:Lf}{p:aj}(h:jU X.K H p [.str x.1,.int x.2]):∃t u,s.heap.IsTuple p #[.str x.1 t,.int x.2 u]:=by
 obtain⟨its,r,T,_⟩:=I.tuple h;cases r with
 |cons a r=>
  cases r with
  |cons b r=>
   cases r;obtain⟨t,rfl⟩:=a;obtain⟨u,rfl⟩:=b;exact⟨t,u,T⟩
theorem Zar(I:L2.Inv X pins σ H s){x y:Lf}{a b:aj}(ha:jU X.K H a [.str x.1,.int x.2])(hb:jU X.K H b [.str y.1,.int y.2])(hu:A.units<cLine):vo X.prog X.w A s .Lt (.ref a) (.ref b) (sr x y):=by
 obtain⟨t,u,T1⟩:=Vy I ha;obtain⟨t',u',T2⟩:=Vy I hb;have go:=Qt (P:=X.prog) (w:=X.w) (A:=A) (e:=λj=>if j=0 then decide (x.1=y.1) else(x.2==y.2)) (c:=λj=>if j=0 then strLt x.1 y.1 else jF x.2 y.2) T1 T2 hu (λj h1 h2=> ?_) (λj h1 h2 z=> ?_)
 ·have e:xN #[Value.str x.1 t,Value.int x.2 u] #[Value.str y.1 t',Value.int y.2 u'] (λj=>if j=0 then decide (x.1=y.1) else(x.2==y.2)) (λj=>if j=0 then strLt x.1 y.1 else jF x.2 y.2) 0=sr x y:=by
   show(if decide (x.1=y.1)=true then(if(x.2==y.2)=true then false else jF x.2 y.2) else strLt x.1 y.1)=if x.1=y.1 then jF x.2 y.2 else strLt x.1 y.1
   by_cases z:x.1=y.1
   ·rw[bg (bf z),bg z]
    by_cases z2:x.2=y.2
    ·rw[z2,cX,bg rfl,pH.uZ]
    ·rw[iq z2,aX (by simp)]
   ·rw[aX (by rw[bJ z];simp),aX z]
  rw[e] at go
  exact go
 ·match j,h1,h2 with
  |0,_,_=>exact λE Q q=>wpAny_eqBool_str q
  |1,_,_=>exact λE Q q=>ri q
 ·match j,h1,h2 with
  |0,_,_=>exact λE Q q=>PySem.P.lt_str q
  |1,_,_=>exact λE Q q=>PyProof.Rows.lt_int q
theorem sg:∀{l:List Lf} {xs:List V} {us:List af} (_:IA X.K H (l.map wH) xs) (_:Vals xs us) (j:Nat) (h:j<us.length),∃p,us[j]=.ref p/\jU X.K H p [.str (l.getD j (Str.empty,0)).1,.int (l.getD j (Str.empty,0)).2]
 |[],_,_,.nil,.nil,j,h=>absurd h (eI _)
 |x::l,_,_,.cons r _,.cons v _,0,_=>by
  obtain⟨p,rfl,e⟩:=WM r;exact⟨p,v,e⟩
 |x::l,_,_,.cons _ t,.cons _ vt,j+1,h=>by
  obtain⟨p,a,b⟩:=sg t vt j (by simpa using h);exact⟨p,a,b⟩
theorem Qs(I:L2.Inv X pins σ H s){x y:List Lf}{a b:aj}(ha:Rep X.K H (yO x) (.ref a))(hb:Rep X.K H (yO y) (.ref b))(hu:A.units+5<cLine):vo X.prog X.w A s .Lt (.ref a) (.ref b) (uv x y):=by
 cases ha with
 |lst ha ra=>
  cases hb with
  |lst hb rb=>
   obtain⟨us,r1,p1,_⟩:=I.list ha;obtain⟨vs,r2,p2,_⟩:=I.list hb;have l1:us.length=x.length:=by rw[<-r1.length,<-cA ra,ao]
   have l2:vs.length=y.length:=by rw[<-r2.length,<-cA rb,ao]
   have u1:A.in1.units+1<cLine:=by show A.units+1+1<cLine;omega
   have go:=Uc (P:=X.prog) (w:=X.w) (A:=A) (e:=λj=>decide (x.getD j (Str.empty,0)=y.getD j (Str.empty,0))) (c:=λj=>sr (x.getD j (Str.empty,0)) (y.getD j (Str.empty,0))) p1.isList p2.isList (by omega) (λj h1 h2=> ?_) (λj h1 h2 z=> ?_)
   ·unfold xN at go
    rw[zI,aL,aL,l1,l2,CK sr (Str.empty,0) x y] at go
    exact go
   ·obtain⟨p,e1,q1⟩:=sg ra r1 j (by simpa using h1);obtain⟨q,e2,q2⟩:=sg rb r2 j (by simpa using h2);have rp:Rep X.K H (wH (x.getD j (Str.empty,0))) (.ref p):=.tup q1 (.cons (.flat rfl) (.cons (.flat rfl) .nil));have rq:Rep X.K H (wH (y.getD j (Str.empty,0))) (.ref q):=.tup q2 (.cons (.flat rfl) (.cons (.flat rfl) .nil));have:=(vV I 1 _ _ _ _ (.ref p) (.ref q) A.in1 rp rq rfl rfl (LD 0 _ _) u1).1;rw[Rk] at this
    rw[iu,iu,e1,e2];exact this
   ·obtain⟨p,e1,q1⟩:=sg ra r1 j (by simpa using h1);obtain⟨q,e2,q2⟩:=sg rb r2 j (by simpa using h2);rw[iu,iu,e1,e2];exact Zar I q1 q2 (by omega)
theorem Ad{k:Ky}{v:V}(r:Rep X.K H (yQ k) v):∃p q,v=.ref p/\jU X.K H p [.int k.1,.ref q]/\Rep X.K H (yO k.2) (.ref q):=by
 cases r with
 |tup h r=>
  cases r with
  |cons a r=>
   cases r with
   |cons b r=>
    cases r;cases a;have b':=b;cases b with
    |lst h2 r2=>exact⟨_,_,U,h,b'⟩
theorem QD(I:L2.Inv X pins σ H s){k:Ky}{p q:aj}(h:jU X.K H p [.int k.1,.ref q]):∃t o n,s.heap.get? p=some o/\o.cls=.type "tuple"/\o.data=.seq #[.int k.1 t,.ref q] n:=by
 obtain⟨its,r,T,_⟩:=I.tuple h;cases r with
 |cons a r=>
  cases r with
  |cons b r=>
   cases r;obtain⟨t,rfl⟩:=a;cases b;obtain⟨o,e,c,n,d⟩:=T;exact⟨t,o,n,e,c,d⟩
theorem XH(I:L2.Inv X pins σ H s){x y:Ky}{a b:V}{u v:af}(ra:Rep X.K H (yQ x) a)(rb:Rep X.K H (yQ y) b)(ru:RelV a u)(rv:RelV b v)(hu:A.units+5<cLine){C:Bool->ah->Prop}(h:C (uY x y) s):wpAny (model X.prog X.w) A (keyLt' (tuples' true) u v) C (λ_ _=>False) s:=by
 obtain⟨p,q,rfl,hp,hq⟩:=Ad ra;obtain⟨p',q',rfl,hp',QU⟩:=Ad rb;cases ru;cases rv;obtain⟨t,o,n,e1,_,e3⟩:=QD I hp;obtain⟨t',o',n',f1,_,f3⟩:=QD I hp';have hk:uY x y=if x.1=y.1 then uv x.2 y.2 else jF x.1 y.1:=rfl;refine kat_lt e1 e3 f1 f3 ?_;show KatLex X.prog X.w A true false C [(.int x.1 t,.int y.1 t'),(.ref q,.ref q')] 0 s;refine kat_cons (ri ?_)
 by_cases z:x.1=y.1
 ·rw[bg z] at hk
  rw[z,cX];refine kat_yes (kat_cons ?_);have eq:=(vV I 2 _ _ _ _ (.ref q) (.ref q') A hq QU rfl rfl (GI 0 _ _) (by omega)).1;rw[LX 0] at eq
  refine eq _ _ ?_
  by_cases z2:x.2=y.2
  ·rw[bf z2];refine kat_yes (kat_nil ?_);rw[hk,z2,xM.uZ] at h
   exact h
  ·rw[bJ z2];refine kat_no ?_;show wpAny (model X.prog X.w) A (oneLt' false (.ref q) (.ref q')) C (λ_ _=>False) s;refine kat_one _ _ (Qs I hq QU hu _ _ ?_);rw[hk] at h
   exact h
 ·rw[aX z] at hk
  rw[iq z];refine kat_no ?_;show wpAny (model X.prog X.w) A (oneLt' true (.int x.1 t) (.int y.1 t')) C (λ_ _=>False) s;refine oneLt_int ?_;rw[hk] at h
  exact h
end
section
variable {prog:bo} {w:World} {A:bK} {E:af->ah->Prop} {s:ah} {ks vs:List af} {ans:Nat->Nat->Bool}
def Answers(prog:bo)(w:World)(A:bK)(κ:SortKind)(ks:List af)(n:Nat)(ans:Nat->Nat->Bool)(s:ah):Prop:=
 ∀i j,i<n->j<n->∀C:Bool->ah->Prop,C (ans i j) s->wpAny (model prog w) A (keyLt' κ (ks.getD i Value.none) (ks.getD j Value.none)) C (λ_ _=>False) s
structure Done (ks vs:List af) (ans:Nat->Nat->Bool) (st:SortSt):Prop where
 ex:∃p:Array Nat,Pl vs.length p/\kr ans p vs.length/\(arrOf st).map (·.2)=List.toArray (p.toList.map λi=>vs.getD i Value.none)
 ok:failedOf st=none
theorem Co{Q:SortSt->ah->Prop}{κ:SortKind}(o:Ord ans)(hl:ks.length=vs.length)(h2:2<=vs.length)(Kk:vs.length<64)(hk:Answers prog w A κ ks vs.length ans s)(q:∀st,Done ks vs ans st->Q st s):wpAny (model prog w) A ((sortRuns').run (SortSt.mk' κ (ks.toArray.zip vs.toArray) #[] 7 none)) (λr s'=>Q r.2 s') E s:=by
 refine kat_run (G:=λp s'=>Pl vs.length p/\kr ans p vs.length/\s'=s) hl h2 Kk (λp st s' _ e f g=> ?_) (Io (λs'=>s'=s) (λi j C s1 hi hj e hC=> ?_) (λa s' z e=>⟨z.1,z.2,e⟩) _ s s (Jf o (by omega)) U)
 ·obtain⟨a,b,rfl⟩:=g;exact q st ⟨⟨p,a,b,kat_snds hl e⟩,f⟩
 ·subst e;exact hk i j hi hj _ (hC _ U)
theorem Ic(o:Ord ans)(hl:ks.length=vs.length)(h2:vs.length<2)(κ:SortKind):Done ks vs ans (SortSt.mk' κ (ks.toArray.zip vs.toArray) #[] 7 none):=by
 refine⟨⟨List.toArray (List.range vs.length),⟨by simp,Array.Perm.refl _⟩,λi j Ki hj=> ?_, ?_⟩,U⟩
 ·have:i=j:=by omega
  subst this;exact o.uZ _
 ·apply IT.mp
  show((ks.toArray.zip vs.toArray).map (·.2)).toList=_;rw[Array.toList_map,ksk_zip];show List.map (·.2) (ks.toArray.toList.zip vs)=(List.range vs.length).map λi=>vs.getD i Value.none;have e:List.map (·.2) (ks.toArray.toList.zip vs)=vs:=List.map_snd_zip (by simp[hl]);rw[e]
  apply nP
  ·simp
  ·intro i h1 h3;simp[h1]
theorem NZ{D kS:aj}{e1:Nat}{P:PySem.Fin->ah->Prop}(o:Ord ans)(hl:ks.length=vs.length)(Kk:vs.length<64)
  (hk:2<=vs.length->wpAny (model prog w) A (keyKind' (List.toArray ks)) (λκ s'=>s'=s/\Answers prog w A κ ks vs.length ans s) (λ_ _=>False) s)
  (q:∀st,Done ks vs ans st->wpAny (model prog w) A (ksk_tail D false e1 (.ref kS) st) P E s):wpAny (model prog w) A (ksk_end D false vs.toArray e1 (.ref kS) (List.toArray ks)) P E s:=by
 unfold ksk_end
 dsimp only
 simp only [reduceIte,kZ]
 by_cases h2:vs.length<2
 ·have h3:vs.toArray.size<2:=by rw[aL];exact h2
  rw[bg h3,bg h3];exact aa (aq (aa (aq (q _ (Ic o hl h2 _)))))
 ·have h3:¬vs.toArray.size<2:=by rw[aL];exact h2
  rw[aX h3,aX h3];refine aa (cF (hk (by omega)) (λκ s0 z=> ?_) λ_ _ x=>x.elim);obtain⟨rfl,hk⟩:=z;exact aa (Co (Q:=λst s'=>wpAny (model prog w) A (ksk_tail D false e1 (.ref kS) st) P E s') o hl (by omega) Kk hk q)
theorem Ja{D kS:aj}{e1 e:Nat}{out:List af}{st:SortSt}{P:PySem.Fin->ah->Prop}(hk:s.heap.get? kS=some (seqObj "list" (List.toArray ks) e))(hD:s.heap.get? D=some (seqObj "list" #[] e1))(ne:D≠kS)(QV:(arrOf st).map (·.2)=List.toArray out)(hz:out.length<64)(hkz:ks.length<64)(hf:failedOf st=none)
  (q:P (.done (.ret .none)) {s with heap:=(s.heap.update kS (Obj.mapSeq λ_=> #[])).update D (Obj.mapSeq λ_=>List.toArray out)}):wpAny (model prog w) A (ksk_tail D false e1 (.ref kS) st) P E s:=by
 unfold ksk_tail
 dsimp only
 simp only [reduceIte,kZ];rw[QV,hf];have hD1:(s.heap.update kS (Obj.mapSeq λ_=>(#[]:Array af))).get? D=some (seqObj "list" #[] e1):=(eW _ _ (cY ne)).trans hD;have z1:(List.toArray ks).size<=sizeLine:=by rw[aL,cJ];omega
 have z2:(List.toArray out).size<=sizeLine+1:=by rw[aL,cJ];omega
 refine aa (listUpdate_at hk U (aa (rn (aa (seqEpoch_at hD1 U (aa (listUpdate_at hD1 U ?_ (bz _) z2)))))) z1 (bz _));simp only [reduceIte,uh,kZ];exact aq q
end
section
variable {X:Cx} {pins:List (aj×Obj)} {σ:L2.St} {H:Hp} {s:ah}
structure A4 (X:Cx) (a:aj):Prop where
 new:X.s₀.heap.objs.size<=a
 cells:∀x c,X.env.cells.lookup x=some c->c≠a
 pn:∀p∈X.pn,p.1≠a
theorem zm(I:L2.Inv X pins σ H s){a:aj}(h:s.heap.objs.size<=a):A4 X a:=by
 refine⟨bD I.sz h,λx c e z=> ?_,λp hp z=> ?_⟩
 ·obtain⟨v,o,e1,_⟩:=I.cell x c e;exact absurd (z▸aW e1) (xc.mpr h)
 ·exact absurd (z▸aW (I.pin p (cN _ hp)).1) (xc.mpr h)
theorem tI{ps:List (aj×Obj)}{a:aj}{o o':Obj}{h':Heap}(I:L2.Inv X ((a,o)::ps) σ H s)(l:A4 X a)(n:∀p∈ps,p.1≠a)(k:∀b u,b≠a->s.heap.get? b=some u->h'.get? b=some u)(e:h'.get? a=some o')(nc:∀v,o'.data≠.cell v):L2.Inv X ((a,o')::ps) σ H {s with heap:=h'}:=by
 have pa:=I.pin (a,o) (aw _ (.head _));have I1:L2.Inv X ps σ H s:=I.iF λp hp=>I.pin p (aw _ (.tail _ hp));have I2:L2.Inv X ps σ H {s with heap:=h'}:=I1.turned (it:=a) (t':=s.toks) k pa.2.1 pa.2.2.1 (.inr l.new) l.cells λp hp=>(a8.mp hp).elim (l.pn p) (n p);refine I2.iF λp hp=> ?_;rcases aJ.mp hp with rfl|hp
 ·exact⟨e,pa.2.1,pa.2.2.1,pa.2.2.2.1,nc⟩
 ·exact I2.pin p (aw _ hp)
theorem dv{h:Heap}{a:aj}{f:Array af->Array af}:∀b u,b≠a->h.get? b=some u->(h.update a (Obj.mapSeq f)).get? b=some u:=λb u n e=>(eW _ _ (cY n)).trans e
theorem gH{c:String}{xs:Array af}{n:Nat}:∀v,(seqObj c xs n).data≠.cell v:=λ_ z=>nomatch z
def YX(sp:Sp):List V->List V->Hp->(List V->Hp->Prop)->Prop
 |[],ks,H,R=>R ks H
 |x::r,ks,H,R=>sp [x] H (λk H2=>YX sp r (ks++[k]) H2 R) λ_ _ _=>False
variable {k:Nat} {g:aj} {fd:bC} {p:Str} {sp:Sp}
theorem QH(F:dJ X.prog X.w X.K X.mg X.base c8 k g fd [p] sp)(hb:Binds X.K fd [p] [])(hr:gF (k+2) X.A)(I:L2.Inv X pins σ H s){x:V}{u:af}(r:RelV x u){Q:VK}(h:sp [x] H Q λ_ _ _=>False):
  wpAny (model X.prog X.w) X.A.in1.in1 (call (.ref g) [u]) (EP X pins σ Q) (λ_ _=>False) s:=by
 have bd:=hb s [u] I.q5 rfl;rw[cE] at bd
 refine gU (gA (F.run X.A.in1.in1 X.stack s H ⟨[u],[]⟩ [u] [x] Q _ hr.in1.in1 I.NV.in1.in1 bd (.cons r .nil) h) λr s2 z=> ?_);cases r with
 |ok fl=>
  cases fl with
  |ret u=>exact I.after z
  |next=>exact False.elim z
  |brk=>exact False.elim z
  |cont=>exact False.elim z
 |error ev=>exact False.elim z
theorem CP{E:af->ah->Prop}{D kS:aj}{oD:Obj}{R:List V->Hp->Prop}{body:af->PUnit->Sem (ForInStep PUnit)}
  (hb:∀(x:V) (u:af) (ks:List af) (e:Nat) (s:ah) (H:Hp) (Q:VK),ks.length<64->L2.Inv X ((kS,seqObj "list" (List.toArray ks) e)::(D,oD)::pins) σ H s->RelV x u->sp [x] H Q (λ_ _ _=>False)->
   wpAny (model X.prog X.w) X.A.in1.in1 (body u ⟨⟩) (λr s'=>r=.yield ⟨⟩/\∃v kv e' H',L2.Inv X ((kS,seqObj "list" (List.toArray (ks++[kv])) e')::(D,oD)::pins) σ H' s'/\RelV v kv/\Q v H') E s):
  ∀(r:List af) (xr:List V) (ks:List af) (kx:List V) (e:Nat) (s:ah) (H:Hp),ks.length+r.length<64->L2.Inv X ((kS,seqObj "list" (List.toArray ks) e)::(D,oD)::pins) σ H s->Vals xr r->Vals kx ks->YX sp xr kx H R->
   wpAny (model X.prog X.w) X.A.in1.in1 (forIn r PUnit.unit body) (λ_ s'=>∃ks' kx' e' H',L2.Inv X ((kS,seqObj "list" (List.toArray ks') e')::(D,oD)::pins) σ H' s'/\Vals kx' ks'/\ks'.length=ks.length+r.length/\R kx' H') E s
 |[],xr,ks,kx,e,s,H,hl,I,rx,rk,h=>by
  cases rx;rw[List.forIn_nil];exact aq ⟨ks,kx,e,H,I,rk,U,h⟩
 |u::r,xr,ks,kx,e,s,H,hl,I,rx,rk,h=>by
  cases rx with
  |cons ru rx=>
   rw[aZ] at hl
   rw[List.forIn_cons];refine aa (cF (hb _ u ks e s H _ (by omega) I ru h) (λq s' z=> ?_) λ_ _ x=>x);obtain⟨rfl,v,kv,e',H',I',rv,q'⟩:=z;have l2:(ks++[kv]).length=ks.length+1:=by rw[bb];rfl
   refine cF (CP hb r _ (ks++[kv]) (kx++[v]) e' s' H' (by omega) I' rx (Vals.append rk (.cons rv .nil)) q') (λ_ s2 z=> ?_) λ_ _ x=>x;obtain⟨ks',kx',e2,H2,I2,r2,l3,q2⟩:=z;exact⟨ks',kx',e2,H2,I2,r2,by rw[l3,l2,aZ];omega,q2⟩
theorem Jr{E:af->ah->Prop}{D kS:aj}{e1:Nat}{xs:List V}{vs:List af}{R:List V->Hp->Prop}{P:PySem.Fin->ah->Prop}(F:dJ X.prog X.w X.K X.mg X.base c8 k g fd [p] sp)(hb:Binds X.K fd [p] [])(hr:gF (k+2) X.A)(lk:A4 X kS)(nD:D≠kS)(np:∀p∈pins,p.1≠kS)
  (I:L2.Inv X ((kS,seqObj "list" #[] 0)::(D,seqObj "list" #[] e1)::pins) σ H s)(rx:Vals xs vs)(Kk:vs.length<64)(h:YX sp xs [] H R)
  (q:∀ks kx e H' s',L2.Inv X ((kS,seqObj "list" (List.toArray ks) e)::(D,seqObj "list" #[] e1)::pins) σ H' s'->Vals kx ks->ks.length=vs.length->R kx H'->wpAny (model X.prog X.w) X.A.in1.in1 (ksk_end D false vs.toArray e1 (.ref kS) (List.toArray ks)) P E s'):
  wpAny (model X.prog X.w) X.A.in1.in1 (ksk_rest D (.ref g) false vs.toArray e1 (.ref kS)) P E s:=by
 unfold ksk_rest;refine aa (rh ?_);rw[List.forIn_toArray];refine aa (cF (CP (sp:=sp) (R:=R) (λx u ks e s H Q hz I ru hs=> ?_) vs xs [] [] 0 s H (by simpa using Kk) I rx .nil h) (λ_ s' z=> ?_) λ_ _ x=>x)
 ·refine aa (jQ (cF (QH F hb hr I ru hs) (λkv s2 z=> ?_) λ_ _ x=>x.elim));obtain⟨v,H2,I2,rv,q2⟩:=z;have pk:=(I2.pin (kS,seqObj "list" (List.toArray ks) e) (aw _ (.head _))).1;have ea:(List.toArray ks).push kv=List.toArray (ks++[kv]):=by simp
  have up:=fS pk (·.push kv);rw[ea] at up
  dsimp only
  refine aa (listUpdate_at pk U ?_ (by rw[aL,cJ];omega) (bD (FK (Array.size_push ..)) (by rw[aL,cJ];omega)))
  refine aq ⟨U,v,kv,_,H2,tI I2 lk (λp hp=> ?_) dv up gH,rv,q2⟩;rcases aJ.mp hp with rfl|hp
  ·exact nD
  ·exact np p hp
 ·obtain⟨ks,kx,e,H2,I2,rk,l,r2⟩:=z;have pk:=(I2.pin (kS,seqObj "list" (List.toArray ks) e) (aw _ (.head _))).1
  try dsimp only
  refine aa (listItems_at pk U ?_);exact q ks kx e H2 s' I2 rk (by simpa using l) r2
theorem LH{K:au}:∀{kk:List Ky} {kx:List V} {ks:List af} (_:Paired (λy x=>Rep K H (yQ y) x) kk kx) (_:Vals kx ks) (i:Nat),i<ks.length->∃x,Rep K H (yQ (kk.getD i (0,[]))) x/\RelV x (ks.getD i Value.none)
 |_,_,_,.nil,.nil,i,h=>absurd h (eI _)
 |_,_,_,.cons r _,.cons v _,0,_=>⟨_,r,v⟩
 |_,_,_,.cons _ t,.cons _ vt,i+1,h=>by
  obtain⟨x,a,b⟩:=LH t vt i (by simpa using h);exact⟨x,a,b⟩
theorem CO(I:L2.Inv X pins σ H s):∀{kk:List Ky} {kx:List V} {ks:List af} (_:Paired (λy x=>Rep X.K H (yQ y) x) kk kx) (_:Vals kx ks),∃fs,KatTups s.heap ks fs/\fs.length=ks.length/\∀v∈fs,∃n t,v=Value.int n t
 |_,_,_,.nil,.nil=>⟨[],.nil,rfl,λv hv=>nomatch hv⟩
 |_,_,_,.cons (a:=y) r t,.cons v vt=>by
  obtain⟨fs,a,b,c⟩:=CO I t vt;obtain⟨p,q,rfl,hp,hq⟩:=Ad r;obtain⟨tk,o,n,e1,e2,e3⟩:=QD I hp;cases v;refine⟨.int y.1 tk::fs,.cons e1 e2 e3 U a,by rw[aZ,aZ,b],λw hw=> ?_⟩;rcases aJ.mp hw with rfl|hw
  ·exact⟨_,_,U⟩
  ·exact c w hw
theorem Dx:∀{xs:List V} {vs:List af} (_:Vals xs vs) (i:Nat),i<vs.length->RelV (xs.getD i .fR) (vs.getD i Value.none)
 |_,_,.nil,i,h=>absurd h (eI _)
 |_,_,.cons v _,0,_=>v
 |_,_,.cons _ t,i+1,h=>Dx t i (by simpa using h)
theorem TH{xs:List V}{vs:List af}(r:Vals xs vs){p:Array Nat}(pl:Pl vs.length p):Vals (p.toList.map λi=>xs.getD i .fR) (p.toList.map λi=>vs.getD i Value.none):=by
 have mem:∀i∈p.toList,i<vs.length:=λi hi=>by
  have:=(g9.mp pl.perm).mem_iff (a:=i)
  simpa using this.mp hi
 have go:∀l:List Nat,(∀i∈l,i<vs.length)->Vals (l.map λi=>xs.getD i .fR) (l.map λi=>vs.getD i Value.none):=by
  intro l
  induction l with
  |nil=>exact λ_=> .nil
  |cons i l ih=>exact λh=> .cons (Dx r i (h i (.head _))) (ih λj hj=>h j (.tail _ hj))
 exact go _ mem
theorem Tu{α β:Type}{xs:List α}{ks:List β}{a:α}{b:β}(hl:xs.length=ks.length){p:Array Nat}(pl:Pl xs.length p):(p.toList.map λi=>(xs.getD i a,ks.getD i b)).Perm (xs.zip ks):=by
 have e:(List.range xs.length).map (λi=>(xs.getD i a,ks.getD i b))=xs.zip ks:=by
  apply nP
  ·simp[hl]
  ·intro i h1 h2;have h3:i<xs.length:=by simpa using h1
   have h4:i<ks.length:=by omega
   simp[h3,h4]
 rw[<-e];refine List.Perm.map _ ?_
 simpa using g9.mp pl.perm
theorem Lp{α β:Type}{lt:β->β->Bool}{f:Nat->α}{kk:Nat->β}{n:Nat}{p:Array Nat}(so:kr (λi j=>lt (kk i) (kk j)) p n)(pl:Pl n p):(p.toList.map λi=>(f i,kk i)).Pairwise (λa b=>lt b.2 a.2=false):=by
 rw[List.pairwise_map,List.pairwise_iff_getElem];intro i j hi hj Ki;have sz:p.toList.length=n:=by rw[bx,pl.size]
 have h:=so i j (i9 Ki) (by omega);have e:∀m (hm:m<p.toList.length),at_ p m=p.toList[m]:=λm hm=>by
  have hm':m<p.size:=by simpa using hm
  simp[at_,Array.getD,hm']
 rw[e i hi,e j hj] at h
 exact h
theorem Fd{E:af->ah->Prop}{l:aj}{xs:List V}{Q:VK}(F:dJ X.prog X.w X.K X.mg X.base c8 k g fd [p] sp)(hb:Binds X.K fd [p] [])(hr:gF (k+2) X.A)(I:L2.Inv X pins σ H s)(hq:cK X.K H l xs)(Kk:xs.length<64)
  (h:YX sp xs [] H λkx H2=>∃kk:List Ky,Paired (λy x=>Rep X.K H2 (yQ y) x) kk kx/\∀zs:List (V×Ky),zs.Perm (xs.zip kk)->zs.Pairwise (λa b=>uY b.2 a.2=false)->∀D,H2 D=none->Q (.ref D) (upd H2 D (.lst (zs.map (·.1))))):
  wpAny (model X.prog X.w) X.A (call (.builtin "sorted") [.ref l] [(Str.ofString "key",.ref g)]) (EP X pins σ Q) E s:=by
 obtain⟨vs,rx,pl,_⟩:=I.list hq;have hn:vs.length<64:=by rw[<-rx.length];exact Kk
 have hz:vs.length<=sizeLine:=by rw[cJ];omega
 refine call_function_entry_kw kind_sorted plain_sorted entry_sorted (ksk_s1 _ _) ?_;unfold Builtin.«sorted»;refine aa (m:=checkCount "sorted" 1 1 _) (aq (aa (collect_list pl.isList (aa (gz ?_ hz)) hz)));have YO:((s.heap.push (seqObj "list" #[] 0)).update s.heap.objs.size (Obj.mapSeq (· ++vs.toArray))).objs.size=s.heap.objs.size+1:=by rw[Heap.size_update,fE]
 generalize Zc:(s.heap.push (seqObj "list" #[] 0)).update s.heap.objs.size (Obj.mapSeq (· ++vs.toArray))=h1 at YO
 have k1:∀b u,s.heap.get? b=some u->h1.get? b=some u:=λb u e=>by
  have nK:=aW e;rw[<-Zc];exact dv b u (bc nK) (ai _ e)
 generalize hD:h1.objs.size=D at YO
 have oD:(h1.push (seqObj "list" vs.toArray 0)).get? D=some (seqObj "list" vs.toArray 0):=by rw[<-hD];exact aM _ U
 refine aa (cy (wpAny_call_entry_kw slot_list_sort ⟨_,oD,U⟩ entry_list_sort ?body (ksk_l1 _ _)));show wpAny (model X.prog X.w) X.A.in1.in1 (Builtin.«list.sort» ⟨[.ref D],[(Str.ofString "key",.ref g)]⟩) _ _ _;rw[ksk_t1];unfold ksk_tree;obtain⟨e1,oD1⟩:∃e1,((h1.push (seqObj "list" vs.toArray 0)).update D (Obj.mapSeq λ_=>(#[]:Array af))).get? D=some (seqObj "list" #[] e1):=⟨_,fS oD λ_=> #[]⟩
 have za:vs.toArray.size<=sizeLine:=by rw[aL];exact hz
 refine aa (listItems_at oD U (aa (listUpdate_at oD U (aa (seqEpoch_at oD1 U (aa (wpAny_newTuple (aa (gz (cy ?_) (bz _))) hz)))) za (bz _))));have YN:(((h1.push (seqObj "list" vs.toArray 0)).update D (Obj.mapSeq λ_=>(#[]:Array af))).push (seqObj "tuple" vs.toArray 0)).objs.size=D+2:=by rw[fE,Heap.size_update,fE,hD]
 have k2:∀b u,s.heap.get? b=some u->((((h1.push (seqObj "list" vs.toArray 0)).update D (Obj.mapSeq λ_=>(#[]:Array af))).push (seqObj "tuple" vs.toArray 0)).push (seqObj "list" #[] 0)).get? b=some u:=λb u e=>by
  have nK:=aW e;exact ai _ (ai _ (dv b u (bc (b4 nK (by omega))) (ai _ (k1 b u e))))
 have I0:L2.Inv X pins σ H {s with heap:=(((h1.push (seqObj "list" vs.toArray 0)).update D (Obj.mapSeq λ_=>(#[]:Array af))).push (seqObj "tuple" vs.toArray 0)).push (seqObj "list" #[] 0)}:=I.kept (t':=s.toks) k2;have oK:((((h1.push (seqObj "list" vs.toArray 0)).update D (Obj.mapSeq λ_=>(#[]:Array af))).push (seqObj "tuple" vs.toArray 0)).push (seqObj "list" #[] 0)).get? (D+2)=some (seqObj "list" #[] 0):=by rw[<-YN];exact aM _ U
 have oD2:((((h1.push (seqObj "list" vs.toArray 0)).update D (Obj.mapSeq λ_=>(#[]:Array af))).push (seqObj "tuple" vs.toArray 0)).push (seqObj "list" #[] 0)).get? D=some (seqObj "list" #[] e1):=ai _ (ai _ oD1);have fresh:∀a,s.heap.objs.size<=a->H a=none/\a≠X.env.locals/\a∉X.fs:=λa ha=>⟨I.dw.fresh ha,λz=>absurd (z▸ha) (Nat.not_le.mpr I.lt),I.Xk ha⟩
 have lK:A4 X (D+2):=zm I (by omega);have lD:A4 X D:=zm I (by omega);have old:∀p∈pins,p.1<s.heap.objs.size:=λp hp=>aW (I.pin p (aw _ hp)).1;have I2:L2.Inv X ((D+2,seqObj "list" #[] 0)::(D,seqObj "list" #[] e1)::pins) σ H {s with heap:=(((h1.push (seqObj "list" vs.toArray 0)).update D (Obj.mapSeq λ_=>(#[]:Array af))).push (seqObj "tuple" vs.toArray 0)).push (seqObj "list" #[] 0)}:=I0.iF λp hp=>by
  rcases aJ.mp hp with rfl|hp
  ·exact⟨oK,(fresh _ (by omega)).1,(fresh _ (by omega)).2.1,(fresh _ (by omega)).2.2,gH⟩
  ·obtain rfl|hp:=aJ.mp hp
   ·exact⟨oD2,(fresh _ (by omega)).1,(fresh _ (by omega)).2.1,(fresh _ (by omega)).2.2,gH⟩
   ·exact I0.pin p (aw _ hp)
 dsimp only
 rw[YN];have nD:D≠D+2:=bc (Nat.lt_add_of_pos_right (by decide));refine Jr F hb hr lK nD (λp hp=>bc (b4 (old p hp) (by omega))) I2 rx hn h λks kx e H3 s3 I3 rk lk ⟨kk,rp,q⟩=> ?_;have u5:X.A.in1.in1.units+5<cLine:=by
  have:=hr.units;show X.A.units+1+1+5<cLine;omega
 have lkk:kk.length=vs.length:=by rw[<-lk,<-rk.length];exact cA rp
 have pk:=(I3.pin (D+2,seqObj "list" (List.toArray ks) e) (aw _ (.head _))).1;have pD:=I3.pin (D,seqObj "list" #[] e1) (aw _ (.tail _ (.head _)));have VQ:∀i,i<vs.length->∃x v,RelV x (ks.getD i Value.none)/\Rep X.K H3 (yQ (kk.getD i (0,[]))) x/\v=ks.getD i Value.none:=λi hi=>by
  obtain⟨x,r1,r2⟩:=LH rp rk i (by omega);exact⟨x,_,r2,r1,U⟩
 refine NZ (ans:=λi j=>uY (kk.getD i (0,[])) (kk.getD j (0,[]))) (wI.ord _) lk hn (λh2=> ?_) λst dn=> ?_
 ·obtain⟨fs,t1,t2,t3⟩:=CO I3 rp rk;refine kat_kind (T:=.type "int") t1 (by omega) (λv hv=> ?_) U ⟨U,λi j hi hj C hC=> ?_⟩
  ·obtain⟨n,t,rfl⟩:=t3 v hv;exact Looks.of_pure U
  ·obtain⟨x,_,r1,r2,_⟩:=VQ i hi;obtain⟨y,_,r3,r4,_⟩:=VQ j hj;exact XH I3 r2 r4 r1 r3 u5 hC
 ·obtain⟨⟨pp,Vr,so,ho⟩,hf⟩:=dn;have ZcL:(pp.toList.map λi=>vs.getD i Value.none).length=vs.length:=by rw[ao,bx,Vr.size]
  refine Ja pk pD.1 nD ho (by omega) (by omega) hf ⟨_,U,aq ⟨_,U, ?_⟩⟩;have J1:=tI I3 lK (λp hp=> ?n1) dv (fS pk λ_=> #[]) gH;have J2:L2.Inv X ((D,seqObj "list" #[] e1)::pins) σ H3 {s3 with heap:=s3.heap.update (D+2) (Obj.mapSeq λ_=> #[])}:=J1.iF λp hp=>J1.pin p (aw _ (.tail _ hp));have pD2:=(J2.pin (D,seqObj "list" #[] e1) (aw _ (.head _))).1;have up:=fS pD2 λ_=>List.toArray (pp.toList.map λi=>vs.getD i Value.none)
  have J3:=tI J2 lD (λp hp=>bc (b4 (old p hp) (by omega))) dv up gH;have J4:L2.Inv X pins σ H3 {s3 with heap:=(s3.heap.update (D+2) (Obj.mapSeq λ_=> #[])).update D (Obj.mapSeq λ_=>List.toArray (pp.toList.map λi=>vs.getD i Value.none))}:=J3.iF λp hp=>J3.pin p (aw _ (.tail _ hp));have rv:=TH rx Vr;have J5:=mT (n:=D) (q:=.lst (pp.toList.map λi=>xs.getD i .fR)) I J4 pD.2.1 (by
   cases z:s.heap.get? D with
   |none=>rfl
   |some o=>exact absurd (aW z) (xc.mpr (by omega))) ⟨by rw[rv.length,ZcL];exact hz,_,_,rv,up⟩
  refine⟨.ref D,_,J5,U, ?_⟩;have fin:=q (pp.toList.map λi=>(xs.getD i .fR,kk.getD i (0,[]))) (Tu (by rw[rx.length,lkk]) (by rw[rx.length];exact Vr)) (Lp so Vr) D pD.2.1
  rw[cM] at fin
  exact fin
  case n1=>
   rcases aJ.mp hp with rfl|hp
   ·exact nD
   ·exact bc (b4 (old p hp) (by omega))
end
section
variable {prog:bo} {w:World} {A:bK} {E:af->ah->Prop} {s:ah} {vs:List af} {ans:Nat->Nat->Bool}
abbrev qt(h:Heap)(D:aj)(vs:List af):Heap:=((h.update D (Obj.mapSeq λ_=>(#[]:Array af))).push (seqObj "tuple" vs.toArray 0)).push (seqObj "list" #[] 0)
theorem Je{D:aj}{n:Nat}{P:PySem.Fin->ah->Prop}(ho:s.heap.get? D=some (seqObj "list" vs.toArray n))(Kk:vs.length<64)(o:Ord ans)
  (hk:2<=vs.length->wpAny (model prog w) A (keyKind' vs.toArray) (λκ s'=>s'={s with heap:=qt s.heap D vs}/\Answers prog w A κ vs vs.length ans {s with heap:=qt s.heap D vs}) (λ_ _=>False) {s with heap:=qt s.heap D vs})
  (q:∀p:Array Nat,Pl vs.length p->kr ans p vs.length->P (.done (.ret .none)) {s with heap:=sortedHeap s.heap D vs (List.toArray (p.toList.map λi=>vs.getD i Value.none))}):wpAny (model prog w) A (Builtin.«list.sort» ⟨[.ref D],[]⟩) P E s:=by
 have hz:vs.length<=sizeLine:=by rw[cJ];omega
 have za:vs.toArray.size<=sizeLine:=by rw[aL];exact hz
 obtain⟨e1,o1⟩:∃e1,(s.heap.update D (Obj.mapSeq λ_=>(#[]:Array af))).get? D=some (seqObj "list" #[] e1):=⟨_,fS ho λ_=> #[]⟩
 have o2:(qt s.heap D vs).get? D=some (seqObj "list" #[] e1):=ai _ (ai _ o1);rw[list_sort_plain];refine aa (listItems_at ho U (aa (listUpdate_at ho U (aa (seqEpoch_at o1 U (aa (wpAny_newTuple (aa (gz (cy ?_) (bz _))) hz)))) za (bz _))));have zp:∀p:Array Nat,Pl vs.length p->(List.toArray (p.toList.map λi=>vs.getD i Value.none)).size<=sizeLine+1:=λp pl=>by rw[aL,ao,bx,pl.size,cJ];omega
 dsimp only
 by_cases h2:vs.length<2
 ·have h3:vs.toArray.size<2:=by rw[aL];exact h2
  rw[bg h3,bg h3];refine aa (aq ?_);refine aa (aq ?_);obtain⟨⟨p,pl,so,QV⟩,_⟩:=Ic (ks:=vs) o rfl h2 general'
  try dsimp only
  rw[QV];refine aa (seqEpoch_at o2 U (aa (listUpdate_at o2 U ?_ (bz _) (zp p pl))));simp only [reduceIte,uh,kZ];exact aq (q p pl so)
 ·have h3:¬vs.toArray.size<2:=by rw[aL];exact h2
  rw[aX h3,aX h3];refine aa (cF (hk (by omega)) (λκ s0 z=> ?_) λ_ _ x=>x.elim);obtain⟨rfl,ak⟩:=z;refine aa (cF (Co (Q:=λst s'=>Done vs vs ans st/\s'={s with heap:=qt s.heap D vs}) o U (by omega) Kk ak λst dn=>⟨dn,U⟩) (λr s' z=> ?_) λ_ _ x=>x);obtain⟨⟨⟩,st⟩:=r;obtain⟨⟨⟨p,pl,so,QV⟩,hf⟩,rfl⟩:=z
  try dsimp only
  rw[QV,hf];refine aa (seqEpoch_at o2 U (aa (listUpdate_at o2 U ?_ (bz _) (zp p pl))));simp only [reduceIte,uh,kZ];exact aq (q p pl so)
end
section
variable {X:Cx} {pins:List (aj×Obj)} {σ:L2.St} {H:Hp} {s:ah}
theorem GC{h:Heap}{D:aj}{vs:List af}:∀b u,b≠D->h.get? b=some u->(qt h D vs).get? b=some u:=λb u n e=>ai _ (ai _ (dv b u n e))
theorem Cm{s':ah}(I0:L2.Inv X pins σ H s):∀(l:List (aj×List V)) (H1:Hp),L2.Inv X pins σ H1 s'->(l.map (·.1)).Nodup->(∀a∈l,H1 a.1=none/\s.heap.get? a.1=none/\a.2.length<=sizeLine/\∃its,Vals a.2 its/\IsTup s'.heap a.1 its.toArray)->
  ∃H2,L2.Inv X pins σ H2 s'/\bU H1 H2/\(∀a∈l,H2 a.1=some (.tup a.2))/\∀b,b∉l.map (·.1)->H2 b=H1 b
 |[],H1,I,_,_=>⟨H1,I,bU.refl H1,(λa h=>nomatch h),λ_ _=>rfl⟩
 |a::l,H1,I,nd,h=>by
  rw[aT,cD] at nd
  obtain⟨n1,n2,z,its,rv,tp⟩:=h a (aB ..);have I1:=mT (n:=a.1) (q:=.tup a.2) I0 I n1 n2 ⟨z,its,rv,tp⟩;have nm:∀b∈l,b.1≠a.1:=λb hb e=>nd.1 (a5.mpr ⟨b,hb,e⟩);obtain⟨H2,I2,s2,al,ot⟩:=Cm I0 l _ I1 nd.2 λb hb=>by
   obtain⟨m1,m2,m3⟩:=h b (aF _ hb);exact⟨by rw[aY (nm b hb)];exact m1,m2,m3⟩
  refine⟨H2,I2,λb u e=>s2 b u (by rw[aY (bI e n1)];exact e),λb hb=> ?_,λb hb=> ?_⟩
  ·obtain rfl|hb:=aJ.mp hb
   ·exact s2 _ _ ay
   ·exact al b hb
  ·rw[aT] at hb
   rw[ot b λz=>hb (aF _ z),aY λe=>hb (by rw[e];exact aB ..)]
end
theorem Ui{prog:bo}{w:World}{A:bK}{s:ah}{x y:Lf}{a b:aj}{t t' u u':Tok}(ha:s.heap.IsTuple a #[.str x.1 t,.int x.2 u])(hb:s.heap.IsTuple b #[.str y.1 t',.int y.2 u']){C:Bool->ah->Prop}(h:C (sr x y) s):
  wpAny (model prog w) A (keyLt' (tuples' true) (.ref a) (.ref b)) C (λ_ _=>False) s:=by
 obtain⟨o,e1,c1,n,e3⟩:=ha;obtain⟨o',f1,c2,n',f3⟩:=hb;have hk:sr x y=if x.1=y.1 then jF x.2 y.2 else strLt x.1 y.1:=rfl;refine kat_lt e1 e3 f1 f3 ?_;show KatLex prog w A true false C [(.str x.1 t,.str y.1 t'),(.int x.2 u,.int y.2 u')] 0 s;refine kat_cons (wpAny_eqBool_str ?_)
 by_cases z:x.1=y.1
 ·rw[bg z] at hk
  rw[bf z];refine kat_yes (kat_cons (ri ?_))
  by_cases z2:x.2=y.2
  ·rw[z2,cX];refine kat_yes (kat_nil ?_);rw[hk,z2,pH.uZ] at h
   exact h
  ·rw[iq z2];refine kat_no ?_;show wpAny (model prog w) A (oneLt' false (.int x.2 u) (.int y.2 u')) C (λ_ _=>False) s;refine kat_one _ _ (PyProof.Rows.lt_int ?_);rw[hk] at h
   exact h
 ·rw[aX z] at hk
  rw[bJ z];refine kat_no ?_;show wpAny (model prog w) A (oneLt' true (.str x.1 t) (.str y.1 t')) C (λ_ _=>False) s;refine oneLt_str ?_;rw[hk] at h
  exact h
def lJ(h:Heap):List aj->List Lf->Prop:=Paired λa x=>∃t u,h.IsTuple a #[.str x.1 t,.int x.2 u]
theorem GL{h:Heap}:∀{as:List aj} {c:List Lf},as.length=c.length->(∀(j:Nat) (a:aj),as[j]? =some a->∃(x:Lf) (t u:Tok),c[j]? =some x/\h.IsTuple a #[.str x.1 t,.int x.2 u])->lJ h as c
 |[],[],_,_=> .nil
 |[],_::_,e,_=>nomatch e
 |_::_,[],e,_=>nomatch e
 |a::as,x::c,e,k=>by
  obtain⟨y,t,u,e1,q⟩:=k 0 a rfl;cases e1;exact .cons ⟨t,u,q⟩ (GL (by simpa using e) λj b f=>k (j+1) b (by simpa using f))
theorem lJ.at{h:Heap}:∀{as:List aj} {c:List Lf},lJ h as c->∀i,i<as.length->∃t u,h.IsTuple (as.getD i 0) #[.str (c.getD i (Str.empty,0)).1 t,.int (c.getD i (Str.empty,0)).2 u]
 |_,_,.nil,i,hi=>absurd hi (eI _)
 |_,_,.cons r _,0,_=>r
 |_,_,.cons _ t,i+1,hi=>lJ.at t i (by simpa using hi)
theorem lJ.mono{h h':Heap}:∀{as:List aj} {c:List Lf},lJ h as c->(∀a∈as,∀o,h.get? a=some o->h'.get? a=some o)->lJ h' as c
 |_,_,.nil,_=> .nil
 |_,_,.cons ⟨t,u,o,e,r⟩ k,f=> .cons ⟨t,u,o,f _ (aB ..) o e,r⟩ (lJ.mono k λa ha=>f a (aF _ ha))
theorem lJ.mZ{h:Heap}:∀{as:List aj} {c:List Lf},lJ h as c->∃fs,KatTups h (as.map Value.ref) fs/\fs.length=as.length/\∀v∈fs,∃x t,v=Value.str x t
 |_,_,.nil=>⟨[],.nil,rfl,λv hv=>nomatch hv⟩
 |_,_,.cons ⟨t,u,o,e,c,n,d⟩ k=>by
  obtain⟨fs,a,b,z⟩:=lJ.mZ k;refine⟨_::fs,.cons e c d U a,by rw[aZ,aZ,b],λw hw=> ?_⟩;rcases aJ.mp hw with rfl|hw
  ·exact⟨_,_,U⟩
  ·exact z w hw
theorem lJ.each{h:Heap}:∀{as:List aj} {c:List Lf},lJ h as c->∀p∈(as.zip c).map (λp=>(p.1,[V.str p.2.1,V.int p.2.2])),p.1∈as/\p.2.length<=sizeLine/\∃its,Vals p.2 its/\IsTup h p.1 its.toArray
 |_,_,.nil,p,hp=>by cases hp
 |_,_,.cons ⟨t,u,q⟩ k,p,hp=>by
  rw[eF,aT] at hp
  rcases aJ.mp hp with rfl|hp
  ·exact⟨aB ..,by show 2<=sizeLine;rw[cJ];decide,[_,_],.cons ⟨t,rfl⟩ (.cons ⟨u,rfl⟩ .nil),q⟩
  ·obtain⟨a1,a2⟩:=lJ.each k p hp;exact⟨aF _ a1,a2⟩
section
variable {X:Cx}
theorem Fe(hc:X.calm=true):iH X (.builtin "sorted") (λxs H Q=>∃(v a:aj) (c:List Lf),xs=[.ref v]/\H v=some (ku v a)/\H a=some (.dK (c.map λp=>(Sum.inr p.1,V.int p.2)))/\c.length<64/\
  ∀zs:List Lf,zs.Perm c->zs.Pairwise (λa b=>sr b a=false)->∀p H',H p=none->bU H H'->Rep X.K H' (yO zs) (.ref p)->Q (.ref p) H'):=by
 intro pins s σ H xs us Q I r h;obtain⟨v,a,c,rfl,hv,hq,Kk,q⟩:=h;obtain⟨u,rfl,rx⟩:=vals1 r;cases rx;have vw:s.heap.IsItemsView v a:=(I.dw v _ hv).1;obtain⟨z1,z2,kvs,z3,z4⟩:=I.dw a _ hq;obtain⟨ep,Yg⟩:=z4.dictAt;have el:kvs.length=c.length:=by have:=cA z3;rw[ao] at this;exact this.symm
 have hz:kvs.length<=sizeLine:=by rw[cJ,el];omega
 refine call_function_entry kind_sorted plain_sorted entry_sorted (args_sorted1 (.ref v)) ?_;unfold Builtin.«sorted»;refine aa (m:=checkCount "sorted" 1 1 _) (aq (aa ?_));refine kdx_collect (A:=X.A.in1) (knd:=eJ X.prog X.w) (kvs:=kvs) (ep:=ep) (I.ok.hd hc) vw Yg hz λh' tk as hk hl hG=> ?_;have la:as.length=c.length:=hl.trans el;have lin:lJ h' as c:=by
  refine GL la λj b e=> ?_;obtain⟨key,k,x,e1,e2,e3⟩:=hG.pairs j b e;have nK:j<c.length:=by
   have:=(bT.mp e).1;omega
  obtain⟨u2,f3,rv⟩:=Mh z3 (i:=j) (p:=(Sum.inr c[j].1,V.int c[j].2)) (by rw[cj,aK nK];rfl)
  rw[e1] at f3
  have f4:=bR f3;have f5:k=Sum.inr c[j].1:=dc Prod.fst f4;have f6:x=u2:=dc Prod.snd f4;subst f5 f6;obtain⟨t,rfl⟩:∃t,key=Value.str c[j].1 t:=JW (k:=Sum.inr c[j].1) e2;obtain⟨t2,rfl⟩:∃t,x=Value.int c[j].2 t:=rv;exact⟨c[j],t,t2,aK nK,_,e3,U,0,U⟩
 have lv:(as.map Value.ref).length=c.length:=by rw[ao,la]
 refine aa (gz ?_ (by rw[lv,cJ];omega))
 generalize hD:h'.objs.size=D;have oD:(h'.push (seqObj "list" (as.map Value.ref).toArray 0)).get? D=some (seqObj "list" (as.map Value.ref).toArray 0):=by rw[<-hD];exact aM _ U
 have old:∀b o,s.heap.get? b=some o->b≠D:=λb o e=>by rw[<-hD];exact bc (aW (hk b o e))
 have asD:∀b∈as,b≠D:=λb hb=>by rw[<-hD];exact bc (hG.there hb)
 have XE:lJ (qt (h'.push (seqObj "list" (as.map Value.ref).toArray 0)) D (as.map Value.ref)) as c:=lin.mono λb hb o e=>GC b o (asD b hb) (ai _ e);refine aa (cy (wpAny_call_entry slot_list_sort ⟨_,oD,U⟩ entry_list_sort ?body (args_list_sort _)));refine Je (ans:=λi j=>sr (c.getD i (Str.empty,0)) (c.getD j (Str.empty,0))) oD (by omega) (mL.ord _) (λh2=> ?_) λp pl so=>⟨_,U,aq ⟨_,U, ?_⟩⟩
 ·obtain⟨fs,t1,t2,t3⟩:=XE.mZ;refine kat_kind (T:=.type "str") t1 (by omega) (λv hv=> ?_) U ⟨U,λi j hi hj C hC=> ?_⟩
  ·obtain⟨n,t,rfl⟩:=t3 v hv;exact Looks.of_pure U
  ·have hi:i<as.length:=by omega
   have hj:j<as.length:=by omega
   obtain⟨t,u,q1⟩:=XE.at i hi
   obtain⟨t',u',q2⟩:=XE.at j hj
   have ei:(as.map Value.ref).getD i Value.none=.ref (as.getD i 0):=by simp[hi]
   have ej:(as.map Value.ref).getD j Value.none=.ref (as.getD j 0):=by simp[hj]
   rw[ei,ej];exact Ui q1 q2 hC
 ·rw[lv] at pl so
  have mem:∀i∈p.toList,i<c.length:=λi hi=>by
   have:=(g9.mp pl.perm).mem_iff (a:=i)
   simpa using this.mp hi
  have eo:(p.toList.map λi=>(as.map Value.ref).getD i Value.none)=p.toList.map λi=>Value.ref (as.getD i 0):=jW λi hi=>by
   have:=mem i hi;have h3:i<as.length:=by omega
   simp[h3]
  rw[eo];obtain⟨e,he⟩:=sortedHeap_at (h:=h'.push (seqObj "list" (as.map Value.ref).toArray 0)) (out:=List.toArray (p.toList.map λi=>Value.ref (as.getD i 0))) oD;have QJ:∀b o,b≠D->h'.get? b=some o->(sortedHeap (h'.push (seqObj "list" (as.map Value.ref).toArray 0)) D (as.map Value.ref) (List.toArray (p.toList.map λi=>Value.ref (as.getD i 0)))).get? b=some o:=λb o n z=>dv b o n (GC b o n (ai _ z));have I3:L2.Inv X pins σ H {s with heap:=sortedHeap (h'.push (seqObj "list" (as.map Value.ref).toArray 0)) D (as.map Value.ref) (List.toArray (p.toList.map λi=>Value.ref (as.getD i 0))),toks:=tk}:=I.kept λb o z=>QJ b o (old b o z) (hk b o z)
  have Zaw:=lin.mono λb hb o z=>QJ b o (asD b hb) z;have fresh:∀b,s.heap.objs.size<=b->s.heap.get? b=none:=λb hb=>by
   cases z:s.heap.get? b with
   |none=>rfl
   |some o=>exact absurd (aW z) (xc.mpr hb)
  have ea:((as.zip c).map λp=>(p.1,[V.str p.2.1,V.int p.2.2])).map (·.1)=as:=by
   rw[cM];exact List.map_fst_zip (by omega)
  obtain⟨H2,I4,s2,al,ot⟩:=Cm (X:=X) (σ:=σ) I ((as.zip c).map λp=>(p.1,[V.str p.2.1,V.int p.2.2])) H I3 (by rw[ea];exact hG.rise.imp λz=>bc z) λb hb=>by
   obtain⟨a1,a2⟩:=Zaw.each b hb;have:=hG.above b.1 a1;exact⟨I.dw.fresh (i9 this),fresh _ (i9 this),a2⟩
  have noD:s.heap.get? D=none:=by
   cases z:s.heap.get? D with
   |none=>rfl
   |some o=>exact absurd U (old D o z)
  have hnD:H D=none:=by
   cases z:H D with
   |none=>rfl
   |some o=>
    obtain⟨ob,e2⟩:=CC (I.dw D o z);rw[noD] at e2
    cases e2
  have fD:H2 D=none:=by
   rw[ot D (by rw[ea];exact λz=>asD D z U)]
   exact hnD
  have rv:Vals (p.toList.map λi=>V.ref (as.getD i 0)) (p.toList.map λi=>Value.ref (as.getD i 0)):=by
   generalize p.toList=l
   induction l with
   |nil=>exact .nil
   |cons i l ih=>exact .cons U ih
  have J:=mT (n:=D) (q:=.lst (p.toList.map λi=>V.ref (as.getD i 0))) I I4 fD noD ⟨by rw[ao,bx,pl.size,cJ];omega,_,_,rv,he⟩
  refine⟨.ref D,_,J,U,q (p.toList.map λi=>c.getD i (Str.empty,0)) ?_ ?_ D _ hnD (λb o z=>by rw[aY (bI (s2 b o z) fD)];exact s2 b o z) (.lst (cK.of ay) ?_)⟩
  ·have e2:(List.range c.length).map (λi=>c.getD i (Str.empty,0))=c:=by
    apply nP
    ·simp
    ·intro i h1 h2;simp[h2]
   have pp:=List.Perm.map (λi=>c.getD i (Str.empty,0)) (g9.mp pl.perm);simp only [List.toList_toArray] at pp
   rw[e2] at pp
   exact pp
  ·have:=Lp (α:=Unit) (lt:=sr) (f:=λ_=>()) (kk:=λi=>c.getD i (Str.empty,0)) so pl;rw[List.pairwise_map] at this⊢
   exact this
  ·have each:∀i,i<c.length->Rep X.K (upd H2 D (.lst (p.toList.map λi=>V.ref (as.getD i 0)))) (wH (c.getD i (Str.empty,0))) (.ref (as.getD i 0)):=λi hi=>by
    have h3:i<as.length:=by omega
    have m:(as[i],[V.str c[i].1,V.int c[i].2])∈(as.zip c).map λp=>(p.1,[V.str p.2.1,V.int p.2.2]):=a5.mpr ⟨(as[i],c[i]),List.mem_iff_getElem.mpr ⟨i,by rw[List.length_zip];omega,by simp⟩,rfl⟩
    have e1:=al _ m;have e2:as.getD i 0=as[i]:=by simp[h3]
    have e3:c.getD i (Str.empty,0)=c[i]:=by simp[hi]
    rw[e2,e3];exact .tup (jU.of (by rw[aY (asD _ (iN h3))];exact e1)) (.cons (.flat U) (.cons (.flat U) .nil))
   rw[cM];clear rv J I4 I3 eo he QJ Zaw pl so al ot;generalize upd H2 D _=HH at each
   generalize p.toList=l at mem
   induction l with
   |nil=>exact .nil
   |cons i l ih=>exact .cons (each i (mem i (aB ..))) (ih λj hj=>mem j (aF _ hj))
theorem BV{K:au}(hc:X.calm=true)(eK:X.K=K):iH X (.builtin "sorted") (λxs H Q=>∃(v a:aj) (c:List Lf),xs=[.ref v]/\H v=some (ku v a)/\H a=some (.dK (c.map λp=>(Sum.inr p.1,V.int p.2)))/\c.length<64/\
  ∀zs:List Lf,zs.Perm c->zs.Pairwise (λa b=>sr b a=false)->∀p H',H p=none->bU H H'->Rep K H' (yO zs) (.ref p)->Q (.ref p) H'):=by
 subst eK;exact Fe hc
def Wr(K:au)(sp:Sp)(t:TA):TE:=λσ H Q=>t σ H λvs H1=>∃(l:aj) (xs:List V),vs=[.ref l]/\cK K H1 l xs/\xs.length<64/\YX sp xs [] H1 λkx H2=>∃kk:List Ky,Paired (λy x=>Rep K H2 (yQ y) x) kk kx/\
 ∀zs:List (V×Ky),zs.Perm (xs.zip kk)->zs.Pairwise (λa b=>uY b.2 a.2=false)->∀D,H2 D=none->Q (.ref D) (upd H2 D (.lst (zs.map (·.1))))
theorem Jv{k:Nat}{x p:Str}{sp:Sp}{e:PySem.Expr}{t:TA}{p0 p1 p2 pos:Pos}(c:fi X.prog X.w X.K X.mg X.base c8 k x [p] sp)(hr:gF (k+2) X.A)(hg:Gl X "sorted")(hm:X.mg "sorted"=none)(hgx:Gl X x)(ha:PA X [e] t)(u7:(x==("__debug__":Str))=false:=by decide)
  (hs:starEach [e] X.env=[(false,eval e X.env)]:=by rfl):PE X (.Call (.Name "sorted" p0) [e] [⟨some "key",.Name x p1,p2⟩] pos) (Wr X.K sp t):=by
 intro pins s σ H Q I h;obtain⟨f,fd,hmx,hkp,hb,F⟩:=c.ex;refine cU (lA I hg hm pJ ?_ (by decide) (by decide));refine callWith_kw (eZ (ha pos pins s σ H _ I h) λus s1 z=> ?_) (by rw[hs];rfl) (by rw[hs];rfl)
 obtain⟨vs,H1,I1,r1,q1⟩:=z;obtain⟨l,xs,rfl,hq,Kk,hk⟩:=q1;obtain⟨u,rfl,ru⟩:=vals1 r1;cases ru;refine kws_cons (jw I1 hgx hmx (kws_nil ?_) u7);exact Fd F hb hr I1 hq Kk hk
end
end L3
namespace L3
open PySem PySem.Spec PyProof.Rows L2
section
variable {X:Cx}
def WG(H₀:Hp)(t:TS):TS:=λD σ H=>t {nx:=λσ' H1=>∃a H2,BZ H₀ a H1 H2/\D.nx σ' H2,rt:=λv H1=>∃a H2,BZ H₀ a H1 H2/\D.rt v H2,bk:=λσ' H1=>∃a H2,BZ H₀ a H1 H2/\D.bk σ' H2,ct:=λσ' H1=>∃a H2,BZ H₀ a H1 H2/\D.ct σ' H2} σ H
theorem PF{st:Stmt}{t:TS}(h:PS X st t):PS X st (WG X.H₀ t):=λpins s σ H D I q=>
 eZ (h pins s σ H _ I q) λf _ q1=>by
  cases f with
  |ret v=>obtain⟨x,σ1,H1,I1,r1,a,H2,⟨hf,o,u,e1,rfl⟩,q2⟩:=q1;exact⟨x,σ1,_,jO I1 e1 hf,r1,q2⟩
  |next=>obtain⟨σ1,H1,I1,a,H2,⟨hf,o,u,e1,rfl⟩,q2⟩:=q1;exact⟨σ1,_,jO I1 e1 hf,q2⟩
  |brk=>obtain⟨σ1,H1,I1,a,H2,⟨hf,o,u,e1,rfl⟩,q2⟩:=q1;exact⟨σ1,_,jO I1 e1 hf,q2⟩
  |cont=>obtain⟨σ1,H1,I1,a,H2,⟨hf,o,u,e1,rfl⟩,q2⟩:=q1;exact⟨σ1,_,jO I1 e1 hf,q2⟩
end
end L3
namespace M4
open PySem L3 M3
section
variable {α:Type} {lt:α->α->Bool}
def Mi(lt:α->α->Bool)(l:List α):Prop:=l.Pairwise λx y=>lt y x=false
def NN(lt:α->α->Bool)(x:α):List α->List α
 |[]=>[x]
 |y::r=>if lt y x=true then y::NN lt x r else x::y::r
def fV(lt:α->α->Bool)(l:List α):List α:=l.foldr (NN lt) []
theorem xS(x:α):∀l:List α,(NN lt x l).Perm (x::l)
 |[]=>zJ _
 |y::r=>by
  unfold NN
  split
  ·exact((xS x r).cons y).trans (List.Perm.swap x y r)
  ·exact zJ _
theorem j_:∀l:List α,(fV lt l).Perm l
 |[]=>zJ _
 |x::l=>(xS x _).trans ((j_ l).cons x)
theorem GZ(o:Bf lt)(x:α):∀l:List α,Mi lt l->Mi lt (NN lt x l)
 |[],_=>iM _ _
 |y::r,h=>by
  unfold NN;have h:=dU.mp h
  split
  ·rename_i e
   refine dU.mpr ⟨λz hz=> ?_,GZ o x r h.2⟩;rcases aJ.mp ((xS x r).mem_iff.mp hz) with rfl|hz
   ·exact o.Ft e
   ·exact h.1 z hz
  ·rename_i e
   have e:lt y x=false:=by simpa using e
   refine dU.mpr ⟨λz hz=> ?_,dU.mpr h⟩;obtain rfl|hz:=aJ.mp hz
   ·exact e
   ·cases q:lt z x with
    |false=>rfl
    |true=>
     rcases o.IZ x y with w|w|w
     ·exact(o.tr _ _ _ q w).symm.trans (h.1 z hz)
     ·rw[w] at q;exact q.symm.trans (h.1 z hz)
     ·exact w.symm.trans e
theorem lV(o:Bf lt):∀l:List α,Mi lt (fV lt l)
 |[]=>List.Pairwise.nil
 |x::l=>GZ o x _ (lV o l)
theorem zy(o:Bf lt):∀{a b:List α},a.Perm b->Mi lt a->Mi lt b->a=b
 |[],b,p,_,_=>(List.nil_perm.mp p).symm
 |x::a,[],p,_,_=>absurd (List.perm_nil.mp p) (by simp)
 |x::a,y::b,p,ha,hb=>by
  have ha:=dU.mp ha;have hb:=dU.mp hb;have e:x=y:=by
   have m1:x∈y::b:=p.mem_iff.mp (aB ..);have m2:y∈x::a:=p.mem_iff.mpr (aB ..);rcases aJ.mp m1 with z|z
   ·exact z
   ·rcases aJ.mp m2 with w|w
    ·exact w.symm
    ·rcases o.IZ x y with q|q|q
     ·exact absurd q (by rw[hb.1 x z];simp)
     ·exact q
     ·exact absurd q (by rw[ha.1 y w];simp)
  subst e;rw[zy o ((List.perm_cons x).mp p) ha.2 hb.2]
theorem DD(o:Bf lt){a b:List α}(p:b.Perm a)(h:Mi lt b):b=fV lt a:=zy o (p.trans (j_ a).symm) h (lV o a)
theorem xt(o:Bf lt){a b:List α}(p:a.Perm b):fV lt a=fV lt b:=DD o ((j_ a).trans p) (lV o a)
end
def norm(c:Tb):Tb:=fV sr c
abbrev Nd(c:Tb):Prop:=(c.map (·.1)).Nodup
theorem iY(c:Tb):(norm c).Perm c:=j_ c
theorem fW(c:Tb):(norm c).length=c.length:=(iY c).length_eq
theorem Ly{a b:Tb}(p:a.Perm b)(h:Nd b):Nd a:=(p.map (·.1)).nodup_iff.mpr h
theorem zg{c:Tb}(h:Nd c):Nd (norm c):=Ly (iY c) h
theorem Ez{c:Tb}{k:Str}(h:k∉c.map (·.1)):lk c k=none:=by
 induction c with
 |nil=>rfl
 |cons p r ih=>
  have e:¬p.1=k:=λz=>h (by rw[aT,z];exact aB ..)
  have h1:lk (p::r) k=lk r k:=by simp[lk,cp,e]
  rw[h1];exact ih λz=>h (aF _ z)
theorem gO{c:Tb}(h:Nd c){k:Str}{d:Int}:lk c k=some d↔(k,d)∈c:=by
 constructor
 ·intro e
  by_cases m:k∈c.map (·.1)
  ·obtain⟨p,hp,rfl⟩:=a5.mp m;have:=kG h hp;rw[e] at this
   have e2:d=p.2:=bR this;subst e2;exact hp
  ·rw[Ez m] at e;cases e
 ·intro m;exact kG h m
theorem Ue{a b:Tb}(p:a.Perm b)(h:Nd b)(k:Str):lk a k=lk b k:=by
 have ha:=Ly p h;cases e:lk b k with
 |some d=>exact(gO ha).mpr (p.mem_iff.mpr ((gO h).mp e))
 |none=>
  cases e2:lk a k with
  |none=>rfl
  |some d=>
   have:=(gO h).mpr (p.mem_iff.mp ((gO ha).mp e2));rw[e] at this;cases this
theorem wF{c:Tb}(h:Nd c)(k:Str):lk (norm c) k=lk c k:=Ue (iY c) h k
theorem tN{c:Tb}(h:Nd c):c.Nodup:=by
 induction c with
 |nil=>exact l7
 |cons p r ih=>
  rw[Nd,aT,cD] at h
  exact cD.mpr ⟨λm=>h.1 (a5.mpr ⟨p,m,U⟩),ih h.2⟩
theorem vZ{α:Type} [DecidableEq α]:∀{a b:List α},a.Nodup->b.Nodup->(∀x,x∈a↔x∈b)->a.Perm b
 |[],b,_,_,h=>by
  cases b with
  |nil=>exact zJ _
  |cons y b=>exact absurd ((h y).mpr (aB ..)) (by simp)
 |x::a,b,ha,hb,h=>by
  have hx:x∈b:=(h x).mp (aB ..);have ha:=cD.mp ha;have p:=List.perm_cons_erase hx;have hb':=cD.mp (p.nodup_iff.mp hb);refine(List.Perm.cons x (vZ ha.2 hb'.2 λy=> ?_)).trans p.symm
  constructor
  ·intro hy;have:y∈x::b.erase x:=p.mem_iff.mp ((h y).mp (aF _ hy));obtain rfl|z:=aJ.mp this
   ·exact absurd hy ha.1
   ·exact z
  ·intro hy;have:y∈x::a:=(h y).mpr (p.mem_iff.mpr (aF _ hy));obtain rfl|z:=aJ.mp this
   ·exact absurd hy hb'.1
   ·exact z
theorem Qb{a b:Tb}(ha:Nd a)(hb:Nd b)(h:∀k,lk a k=lk b k):norm a=norm b:=
 xt mL (vZ (tN ha) (tN hb) λp=>by rw[<-gO ha (k:=p.1) (d:=p.2),<-gO hb,h])
theorem CD(c:Tb):norm (norm c)=norm c:=xt mL (iY c)
theorem Eo{a b:Tb}(ha:Nd a)(hb:Nd b)(h:norm a=norm b)(k:Str):lk a k=lk b k:=by rw[<-wF ha,<-wF hb,h]
def Up(c l:Tb)(x:Int):Prop:=∀p∈c,∃u,lk l p.1=some u/\u+p.2<=x
def Ups(cs:List Tb)(l:Tb)(x:Int):Prop:=∃c∈cs,Up c l x
theorem KZ{c l:Tb}{x:Int}:Up (norm c) l x↔Up c l x:=⟨λh p hp=>h p ((iY c).mem_iff.mpr hp),λh p hp=>h p ((iY c).mem_iff.mp hp)⟩
theorem i5{a b:Tb}:below a b=true↔∀p∈a,∃u,lk b p.1=some u/\p.2<=u:=by
 unfold below;rw[eP]
 constructor
 ·intro h p hp;have:=h p hp
  split at this
  ·rename_i u e
   exact⟨u,e,ba this⟩
  ·cases this
 ·intro h p hp;obtain⟨u,e,q⟩:=h p hp;rw[e];exact bf q
theorem AZ{a b:Tb}(hb:Nd b):below (norm a) (norm b)=below a b:=by
 apply jl.mpr
 rw[i5,i5];exact⟨λh p hp=>by rw[<-wF hb];exact h p ((iY a).mem_iff.mpr hp),λh p hp=>by rw[wF hb];exact h p ((iY a).mem_iff.mp hp)⟩
theorem RP{a b l:Tb}{x:Int}(hb:Nd b)(h:below a b=true)(u:Up b l x):Up a l x:=λp hp=>by
 obtain⟨v,e,q⟩:=i5.mp h p hp;obtain⟨w,e2,q2⟩:=u (p.1,v) ((gO hb).mp e);exact⟨w,e2,by have:w+v<=x:=q2;omega⟩
theorem AY{a:Tb}(h:Nd a):below a a=true:=i5.mpr λp hp=>⟨p.2,kG h hp,Int.le_refl _⟩
def gJ(a b:Tb):Tb:=b.foldl (λc p=>t9 c p.1 (max p.2 ((lk a p.1).getD p.2))) a
theorem Qw{c:Tb}{k:Str}{v:Int}(j:Str):lk (t9 c k v) j=if j=k then some v else lk c j:=by
 have up:∀c:Tb,(∃p∈c,p.1=k)->lk (c.map λp=>if p.1=k then(p.1,v) else p) j=if j=k then some v else lk c j:=by
  intro c
  induction c with
  |nil=>intro ⟨p,hp,_⟩;cases hp
  |cons q r ih=>
   intro hm
   by_cases e:q.1=k
   ·by_cases z:j=k
    ·subst z;rw[bg rfl];simp[lk,cp,e]
    ·rw[aX z];have n1:¬q.1=j:=λw=>z (w.symm.trans e);have h1:lk (q::r) j=lk r j:=by simp[lk,cp,n1]
     have h2:lk ((q::r).map λp=>if p.1=k then(p.1,v) else p) j=lk (r.map λp=>if p.1=k then(p.1,v) else p) j:=by
      rw[aT,bg e];simp[lk,cp,n1]
     rw[h1,h2]
     by_cases more:∃p∈r,p.1=k
     ·rw[ih more,aX z]
     ·have e3:(r.map λp=>if p.1=k then(p.1,v) else p)=r:=by
       refine(jW λp hp=> ?_).trans (List.map_id' r);rw[aX λw=>more ⟨p,hp,w⟩]
      rw[e3]
   ·have more:∃p∈r,p.1=k:=by
     obtain⟨p,hp,w⟩:=hm;obtain rfl|hp:=aJ.mp hp
     ·exact absurd w e
     ·exact⟨p,hp,w⟩
    rw[aT,aX e]
    by_cases n1:q.1=j
    ·have z:¬j=k:=λw=>e (n1.trans w);rw[aX z];simp[lk,cp,n1]
    ·have h1:lk (q::r) j=lk r j:=by simp[lk,cp,n1]
     have h2:∀t:Tb,lk (q::t) j=lk t j:=λt=>by simp[lk,cp,n1]
     rw[h1,h2,ih more]
 unfold t9
 by_cases m:(c.any λp=>decide (p.1=k))=true
 ·rw[bg m];obtain⟨p,hp,e⟩:=eB.mp m;exact up c ⟨p,hp,ba e⟩
 ·rw[aX m];have no:∀p∈c,¬p.1=k:=λp hp e=>m (eB.mpr ⟨p,hp,bf e⟩);clear m up
  induction c with
  |nil=>
   by_cases z:j=k
   ·rw[bg z];simp[lk,z]
   ·rw[aX z];have n1:¬k=j:=λw=>z w.symm;simp[lk,cp,n1]
  |cons q r ih=>
   have ih:=ih λp hp=>no p (aF _ hp)
   by_cases n1:q.1=j
   ·have z:¬j=k:=λw=>no q (aB ..) (n1.trans w);rw[aX z];simp[lk,cp,n1]
   ·have h2:∀t:Tb,lk (q::t) j=lk t j:=λt=>by simp[lk,cp,n1]
    rw[List.cons_append,h2,h2,ih]
theorem lQ{a b:Tb}(h:Nd a):Nd (gJ a b):=by
 have go:∀(b c:Tb),Nd c->Nd (b.foldl (λc p=>t9 c p.1 (max p.2 ((lk a p.1).getD p.2))) c):=by
  intro b
  induction b with
  |nil=>exact λc h=>h
  |cons p r ih=>exact λc h=>ih _ (MQ h)
 exact go b a h
theorem qw{a b:Tb}(hb:Nd b)(j:Str):lk (gJ a b) j=match lk b j with|some d=>some (max d ((lk a j).getD d))|none=>lk a j:=by
 have go:∀(b c:Tb),Nd b->lk (b.foldl (λc p=>t9 c p.1 (max p.2 ((lk a p.1).getD p.2))) c) j=match lk b j with|some d=>some (max d ((lk a j).getD d))|none=>lk c j:=by
  intro b
  induction b with
  |nil=>exact λc _=>rfl
  |cons p r ih=>
   intro c h;rw[Nd,aT,cD] at h
   rw[jk,ih _ h.2]
   by_cases n1:p.1=j
   ·have h1:lk (p::r) j=some p.2:=by simp[lk,cp,n1]
    have h2:lk r j=none:=Ez (by rw[<-n1];exact h.1)
    rw[h1,h2]
    dsimp only
    rw[Qw,bg n1.symm,n1]
   ·have h1:lk (p::r) j=lk r j:=by simp[lk,cp,n1]
    rw[h1];cases e:lk r j with
    |some d=>rfl
    |none=>
     dsimp only
     rw[Qw,aX (cY n1)]
 exact go b a hb
theorem NI{a b a' b':Tb}(ha:Nd a)(hb:Nd b)(ha':Nd a')(hb':Nd b')(e1:norm a=norm a')(e2:norm b=norm b'):norm (gJ a b)=norm (gJ a' b'):=
 Qb (lQ ha) (lQ ha') λj=>by rw[qw hb,qw hb',Eo ha ha' e1,Eo hb hb' e2]
theorem LJ{a b l:Tb}{x:Int}(ha:Nd a)(hb:Nd b):Up (gJ a b) l x↔Up a l x/\Up b l x:=by
 have hj:=lQ (b:=b) ha
 constructor
 ·intro h
  constructor
  ·intro p hp;have e:=kG ha hp;have j:=qw (a:=a) hb p.1;rw[e] at j
   cases q:lk b p.1 with
   |none=>
    rw[q] at j
    exact h p ((gO hj).mp j)
   |some d=>
    rw[q] at j
    obtain⟨u,e2,q2⟩:=h (p.1,max d p.2) ((gO hj).mp j);exact⟨u,e2,by have q2:u+max d p.2<=x:=q2;omega⟩
  ·intro p hp;have e:=kG hb hp;have j:=qw (a:=a) hb p.1;rw[e] at j
   obtain⟨u,e2,q2⟩:=h (p.1,max p.2 ((lk a p.1).getD p.2)) ((gO hj).mp j);exact⟨u,e2,by have q2:u+max p.2 ((lk a p.1).getD p.2)<=x:=q2;omega⟩
 ·intro ⟨h1,h2⟩ p hp;have e:=(gO hj (k:=p.1) (d:=p.2)).mpr hp;rw[qw hb] at e
  cases q:lk b p.1 with
  |none=>
   rw[q] at e
   exact h1 p ((gO ha).mp e)
  |some d=>
   rw[q] at e
   have e:max d ((lk a p.1).getD d)=p.2:=bR e;obtain⟨u,e2,q2⟩:=h2 (p.1,d) ((gO hb).mp q);have q2:u+d<=x:=q2;cases q3:lk a p.1 with
   |none=>rw[q3] at e;exact⟨u,e2,by have e:max d d=p.2:=e;omega⟩
   |some d'=>
    rw[q3] at e
    obtain⟨u',e4,q4⟩:=h1 (p.1,d') ((gO ha).mp q3);have e2:lk l p.1=some u:=e2;have e4:lk l p.1=some u':=e4;rw[e2] at e4
    cases e4;have q4:u+d'<=x:=q4;exact⟨u,e2,by have e:max d d'=p.2:=e;omega⟩
theorem Ur{a b:Tb}(h:a≠[])(hb:Nd b)(ha:Nd a):gJ a b≠[]:=by
 cases a with
 |nil=>exact absurd U h
 |cons p r=>
  intro z;have e:=qw (a:=p::r) hb p.1;rw[z] at e
  have e2:lk (p::r) p.1=some p.2:=kG ha (aB ..);rw[e2] at e
  cases q:lk b p.1<;>rw[q] at e<;>cases e
def ua(c:Tb):Ky:=((c.length:Int),c)
def gh(a b:Tb):Bool:=uY (ua a) (ua b)
theorem kP:Bf gh:=⟨λa=>wI.uZ _,λa b c h1 h2=>wI.tr _ _ _ h1 h2,λa b=>(wI.IZ (ua a) (ua b)).imp_right λz=>z.imp_left λe=>dc Prod.snd e⟩
def keep(kept:List Tb)(c:Tb):List Tb:=if(kept.any λlow=>below low c)=true then kept else kept++[c]
def Bq(cs:List Tb):List Tb:=cs.foldl keep []
theorem DA(l:Tb)(x:Int):∀(cs kept:List Tb),(∀c∈cs,Nd c)->(Ups (cs.foldl keep kept) l x↔Ups (kept++cs) l x)
 |[],kept,_=>by rw[List.foldl_nil,cE]
 |c::cs,kept,h=>by
  rw[jk,DA l x cs _ λc' hc=>h c' (aF _ hc)];unfold keep
  split
  ·rename_i m
   obtain⟨low,hl,b⟩:=eB.mp m
   constructor
   ·rintro⟨d,hd,u⟩;rcases a8.mp hd with z|z
    ·exact⟨d,cN _ z,u⟩
    ·exact⟨d,aw _ (aF _ z),u⟩
   ·rintro⟨d,hd,u⟩;rcases a8.mp hd with z|z
    ·exact⟨d,cN _ z,u⟩
    ·obtain rfl|z:=aJ.mp z
     ·exact⟨low,cN _ hl,RP (h d (aB ..)) b u⟩
     ·exact⟨d,aw _ z,u⟩
  ·rw[dj];exact Iff.rfl
theorem md:∀(cs kept:List Tb),∃r,cs.foldl keep kept=kept++r/\r.Sublist cs
 |[],kept=>⟨[],by simp,List.Sublist.refl _⟩
 |c::cs,kept=>by
  rw[jk]
  by_cases m:(kept.any λlow=>below low c)=true
  ·rw[show keep kept c=kept from bg m];obtain⟨r,e,s⟩:=md cs kept;exact⟨r,e,s.cons c⟩
  ·rw[show keep kept c=kept++[c] from aX m];obtain⟨r,e,s⟩:=md cs (kept++[c]);exact⟨c::r,by rw[e];simp,s.cons₂ c⟩
theorem zS{Good:Tb->Prop}(gn:∀c,Good c->Nd c)(o:∀a b:Tb,gh b a=false->Good a->Good b->below b a=true->a=b):∀(cs kept:List Tb),(∀c∈kept++cs,Good c)->Mi gh (kept++cs)->kept.Pairwise (λa b=>below a b=false/\below b a=false)->
  (cs.foldl keep kept).Pairwise (λa b=>below a b=false/\below b a=false)
 |[],kept,_,_,p=>p
 |c::cs,kept,nd,as,p=>by
  rw[jk];have nc:Good c:=nd c (aw _ (aB ..));unfold keep
  split
  ·refine zS gn o cs kept (λd hd=>nd d ?_) (as.sublist ?_) p
   ·rcases a8.mp hd with z|z
    ·exact a8.mpr (.inl z)
    ·exact aw _ (aF _ z)
   ·exact List.Sublist.append_left (List.sublist_cons_self _ _) _
  ·rename_i m
   have e:kept++c::cs=(kept++[c])++cs:=by simp
   rw[e] at nd as
   refine zS gn o cs _ nd as (List.pairwise_append.mpr ⟨p,iM _ _,λa ha b hb=> ?_⟩);have eb:b=c:=by simpa using hb
   subst eb;have m1:below a b=false:=by
    cases q:below a b with
    |false=>rfl
    |true=>exact absurd (eB.mpr ⟨a,ha,q⟩) m
   refine⟨m1, ?_⟩;cases q:below b a with
   |false=>rfl
   |true=>
    have na:Good a:=nd a (cN _ (cN _ ha));have lt:gh b a=false:=(List.pairwise_append.mp (List.pairwise_append.mp as).1).2.2 a ha b (vD _);have:=o a b lt na nc q;subst this;rw[AY (gn _ na)] at m1
    cases m1
theorem sub_len{α:Type} [DecidableEq α]:∀{a b:List α},a.Nodup->(∀x∈a,x∈b)->a.length<=b.length/\(b.Nodup->a.length=b.length->∀x∈b,x∈a)
 |[],b,_,_=>⟨bz _,λ_ e x hx=>by
   have:b=[]:=eV e.symm;rw[this] at hx;cases hx⟩
 |y::a,b,ha,h=>by
  have ha:=cD.mp ha;have hy:y∈b:=h y (aB ..);have p:=List.perm_cons_erase hy;have l:=p.length_eq;rw[aZ] at l
  have sub:∀x∈a,x∈b.erase y:=λx hx=>by
   rcases aJ.mp (p.mem_iff.mp (h x (aF _ hx))) with rfl|z
   ·exact absurd hx ha.1
   ·exact z
  obtain⟨h1,h2⟩:=sub_len ha.2 sub;refine⟨by rw[aZ];omega,λhb e x hx=> ?_⟩
  rw[aZ] at e
  rcases aJ.mp (p.mem_iff.mp hx) with rfl|z
  ·exact aB ..
  ·exact aF _ (h2 (cD.mp (p.nodup_iff.mp hb)).2 (by omega) x z)
structure Nf (c:Tb):Prop where
 nd:Nd c
 asc:Mi sr c
theorem Lw{c:Tb}(h:Nd c):Nf (norm c):=⟨zg h,lV mL c⟩
theorem xI:∀{c:Tb},Nf c->Mi strLt (c.map (·.1))
 |[],_=>List.Pairwise.nil
 |p::r,h=>by
  have h1:=dU.mp h.asc;have h2:p.1∉r.map (·.1)/\Nd r:=by have:=h.nd;rw[Nd,aT,cD] at this;exact this
  rw[aT];refine dU.mpr ⟨λk hk=> ?_,xI ⟨h2.2,h1.2⟩⟩;obtain⟨q,hq,rfl⟩:=a5.mp hk;have e:=h1.1 q hq;have n:q.1≠p.1:=λz=>h2.1 (by rw[<-z];exact hk)
  have e2:sr q p=strLt q.1 p.1:=by show(if q.1=p.1 then _ else _)=_;rw[aX n]
  rw[e2] at e
  exact e
theorem Qx:∀(a b:Tb),a.map (·.1)=b.map (·.1)->Nd a->(∀p∈b,∃u,lk a p.1=some u/\p.2<=u)->uv a b=false
 |[],[],_,_,_=>rfl
 |[],_::_,e,_,_=>by simp at e
 |_::_,[],e,_,_=>by simp at e
 |p::a,q::b,e,nd,h=>by
  rw[aT,aT] at e
  injection e with e1 e2
  have nd2:p.1∉a.map (·.1)/\Nd a:=by have:=nd;rw[Nd,aT,cD] at this;exact this
  show(if p=q then su sr a b else sr p q)=false
  by_cases z:p=q
  ·rw[bg z];refine Qx a b e2 nd2.2 λr hr=> ?_;obtain⟨u,e3,q3⟩:=h r (aF _ hr);have n:¬p.1=r.1:=λw=>nd2.1 (by rw[w,e2];exact a5.mpr ⟨r,hr,U⟩)
   have h1:lk (p::a) r.1=lk a r.1:=by simp[lk,cp,n]
   exact⟨u,by rw[<-h1];exact e3,q3⟩
  ·rw[aX z];obtain⟨u,e3,q3⟩:=h q (aB ..);have h1:lk (p::a) q.1=some p.2:=by simp[lk,cp,e1]
   rw[h1] at e3
   cases e3;show(if p.1=q.1 then jF p.2 q.2 else strLt p.1 q.1)=false;rw[bg e1];exact bJ (by omega)
theorem sP{a b:Tb}(ha:Nf a)(hb:Nf b)(h:below b a=true):gh a b=false:=by
 have h:=i5.mp h;have sub:∀k∈b.map (·.1),k∈a.map (·.1):=λk hk=>by
  obtain⟨p,hp,rfl⟩:=a5.mp hk;obtain⟨u,e,_⟩:=h p hp;exact a5.mpr ⟨(p.1,u),(gO ha.nd).mp e,U⟩
 obtain⟨l1,l2⟩:=sub_len hb.nd sub;rw[ao,ao] at l1
 show(if((a.length:Nat):Int)=((b.length:Nat):Int) then uv a b else jF (a.length:Int) (b.length:Int))=false
 by_cases z:a.length=b.length
 ·rw[bg (by rw[z])];have names:a.map (·.1)=b.map (·.1):=zy jZ (vZ ha.nd hb.nd λk=>⟨l2 ha.nd (by rw[ao,ao,z]) k,sub k⟩) (xI ha) (xI hb);exact Qx a b names ha.nd h
 ·rw[aX (λw=>z (by omega))];exact bJ (by omega)
theorem Dl{a b:Tb}(l:gh b a=false)(ha:Nf a)(hb:Nf b)(h:below b a=true):a=b:=by
 have:=sP ha hb h;rcases kP.IZ a b with z|z|z
 ·rw[this] at z;cases z
 ·exact z
 ·rw[l] at z;cases z
end M4
namespace L3
open PySem PySem.Spec PyProof.Rows L2 PySem.W PySem.Calls
section
variable {X:Cx} {pins:List (aj×Obj)} {σ:L2.St} {H:Hp} {s:ah} {A:bK}
theorem QC(I:L2.Inv X pins σ H s){k:Ky}{p q:aj}(h:jU X.K H p [.int k.1,.ref q]):∃t,s.heap.IsTuple p #[.int k.1 t,.ref q]:=by
 obtain⟨its,r,T,_⟩:=I.tuple h;cases r with
 |cons a r=>
  cases r with
  |cons b r=>
   cases r;obtain⟨t,rfl⟩:=a;cases b;exact⟨t,T⟩
theorem Zas(I:L2.Inv X pins σ H s){x y:Ky}{a b:V}{u v:af}(ra:Rep X.K H (yQ x) a)(rb:Rep X.K H (yQ y) b)(ru:RelV a u)(rv:RelV b v)(hu:A.units+10<cLine):vo X.prog X.w A s .Lt u v (uY x y):=by
 obtain⟨p,q,rfl,hp,hq⟩:=Ad ra;obtain⟨p',q',rfl,hp',QU⟩:=Ad rb;cases ru;cases rv;obtain⟨t,T1⟩:=QC I hp;obtain⟨t',T2⟩:=QC I hp';have u1:A.in1.units+5<cLine:=by show A.units+1+5<cLine;omega
 have go:=Qt (P:=X.prog) (w:=X.w) (A:=A) (e:=λj=>if j=0 then(x.1==y.1) else decide (x.2=y.2)) (c:=λj=>if j=0 then jF x.1 y.1 else uv x.2 y.2) T1 T2 (by omega) (λj h1 h2=> ?_) (λj h1 h2 z=> ?_)
 ·have e:xN #[Value.int x.1 t,Value.ref q] #[Value.int y.1 t',Value.ref q'] (λj=>if j=0 then(x.1==y.1) else decide (x.2=y.2)) (λj=>if j=0 then jF x.1 y.1 else uv x.2 y.2) 0=uY x y:=by
   show(if(x.1==y.1)=true then(if decide (x.2=y.2)=true then false else uv x.2 y.2) else jF x.1 y.1)=if x.1=y.1 then uv x.2 y.2 else jF x.1 y.1
   by_cases z:x.1=y.1
   ·rw[bg (by rw[z];exact cX _),bg z]
    by_cases z2:x.2=y.2
    ·rw[bg (bf z2),z2,xM.uZ]
    ·rw[aX (by rw[bJ z2];simp)]
   ·rw[aX (by rw[iq z];simp),aX z]
  rw[e] at go
  exact go
 ·match j,h1,h2 with
  |0,_,_=>exact λE Q q=>ri q
  |1,_,_=>
   have eq:=(vV I 2 _ _ _ _ (.ref q) (.ref q') A.in1 hq QU rfl rfl (GI 0 _ _) (by omega)).1;rw[LX 0] at eq
   exact eq
 ·match j,h1,h2 with
  |0,_,_=>exact λE Q q=>PyProof.Rows.lt_int q
  |1,_,_=>exact Qs I hq QU u1
theorem PL{ps:List (aj×Obj)}{a:aj}{o o':Obj}{h':Heap}{t':Nat}(I:L2.Inv X ((a,o)::ps) σ H s)(l:A4 X a)(n:∀p∈ps,p.1≠a)(k:∀b u,b≠a->s.heap.get? b=some u->h'.get? b=some u)(e:h'.get? a=some o')(nc:∀v,o'.data≠.cell v):L2.Inv X ((a,o')::ps) σ H {s with heap:=h',toks:=t'}:=by
 have pa:=I.pin (a,o) (aw _ (.head _));have I1:L2.Inv X ps σ H s:=I.iF λp hp=>I.pin p (aw _ (.tail _ hp));have I2:L2.Inv X ps σ H {s with heap:=h',toks:=t'}:=I1.turned (it:=a) (t':=t') k pa.2.1 pa.2.2.1 (.inr l.new) l.cells λp hp=>(a8.mp hp).elim (l.pn p) (n p);refine I2.iF λp hp=> ?_;rcases aJ.mp hp with rfl|hp
 ·exact⟨e,pa.2.1,pa.2.2.1,pa.2.2.2.1,nc⟩
 ·exact I2.pin p (aw _ hp)
theorem vY{ps:List (aj×Obj)}{p q:aj×Obj}(I:L2.Inv X (p::q::ps) σ H s):L2.Inv X (q::p::ps) σ H s:=
 I.iF λr hr=>I.pin r (aw _ (by
  rcases aJ.mp hr with rfl|hr
  ·exact .tail _ (.head _)
  ·rcases aJ.mp hr with rfl|hr
   ·exact .head _
   ·exact .tail _ (.tail _ hr)))
variable {k:Nat} {g:aj} {fd:bC} {p:Str} {sp:Sp}
theorem Nx(F:dJ X.prog X.w X.K X.mg X.base c8 k g fd [p] sp)(hb:Binds X.K fd [p] [])(hr:gF (k+1) X.A)(I:L2.Inv X pins σ H s){x:V}{u:af}(r:RelV x u){Q:VK}(h:sp [x] H Q λ_ _ _=>False):
  wpAny (model X.prog X.w) X.A.in1 (call (.ref g) [u]) (EP X pins σ Q) (λ_ _=>False) s:=by
 have bd:=hb s [u] I.q5 rfl;rw[cE] at bd
 refine gU (gA (F.run X.A.in1 X.stack s H ⟨[u],[]⟩ [u] [x] Q _ hr.in1 I.NV.in1 bd (.cons r .nil) h) λr s2 z=> ?_);cases r with
 |ok fl=>
  cases fl with
  |ret u=>exact I.after z
  |next=>exact False.elim z
  |brk=>exact False.elim z
  |cont=>exact False.elim z
 |error ev=>exact False.elim z
def YW(K:au)(sp:Sp)(l:aj)(xs:List V):List V->V->V->Hp->VK->Prop
 |[],b,_,H,R=>cK K H l xs/\R b H
 |x::r,b,kb,H,R=>cK K H l xs/\sp [x] H (λk H2=>∃y z,Rep K H2 (yQ y) k/\Rep K H2 (yQ z) kb/\(uY y z=true->YW K sp l xs r x k H2 R)/\(uY y z=false->YW K sp l xs r b kb H2 R)) λ_ _ _=>False
abbrev Zac(X:Cx)(pins:List (aj×Obj))(σ:L2.St)(R:VK)(E:af->ah->Prop):Result->ah->Prop:=λr s'=>match r with| .ok (.ret v)=>EP X pins σ R v s'| .ok _=>False| .error e=>E e s'
section
variable {prog:bo} {w:World} {B:bK} {R:Result->ah->Prop} {it S:aj} {key:af} {c:Nat} {s:ah}
theorem wz:toString "min"++toString ".loop"="min.loop":=rfl
end
theorem next_item{l it:aj}{oI:Obj}{ps:List (aj×Obj)}{xs:List V}{j:Nat}{x:V}(hh:X.A.handled=none)(nl:l≠it)(lI:A4 X it)(n:∀p∈ps,p.1≠it)(hq:cK X.K H l xs)(hx:xs[j]? =some x)(I:L2.Inv X ((it,oI)::ps) σ H s)(hit:s.heap.IsListIter it l j)(Q:Option af->ah->Prop)(E:af->ah->Prop)
  (q:∀v h' tk,(RelV x v/\∀YL,∃o,L2.Inv X ((it,o)::ps) σ H {s with heap:=h',toks:=YL}/\∀h2:Heap,h2.get? it=some o->h2.IsListIter it l (j+1))->Q (some v) {s with heap:=h',toks:=tk}):wpAny (model X.prog X.w) X.A.in1 (pyNext (.ref it)) Q E s:=by
 obtain⟨vs,rx,pl,_⟩:=I.list hq;have lt:j<vs.length:=by rw[<-rx.length];exact(bT.mp hx).1
 refine(Walks.list (prog:=X.prog) (w:=X.w) (A:=X.A.in1) hh it l nl vs.toArray).item j s Q E (by rw[aL];exact lt) ⟨hit,pl.isList⟩ λv h' tk pv st kp=>q v h' tk ⟨?_,λYL=> ?_⟩
 ·have e:vs[j]? =some v:=by simpa using pv
  have r:=Dx rx j lt;rw[fJ,fJ,hx,e] at r
  exact r
 ·obtain⟨⟨o,e1,e2,e3⟩,_⟩:=st;exact⟨o,PL I lI n (λb u nb e=>kp b u (by simpa using nb) e) e1 (λv z=>by rw[e3] at z;cases z),λh2 e=>⟨o,e,e2,e3⟩⟩
def ZL(K:au)(sp:Sp)(t:TA):TE:=λσ H Q=>t σ H λvs H1=>∃(l:aj) (x:V) (xs:List V),vs=[.ref l]/\cK K H1 l (x::xs)/\sp [x] H1 (λk H2=>YW K sp l (x::xs) xs x k H2 Q) λ_ _ _=>False
end
end L3
namespace L3
open PySem PySem.Spec PyProof.Rows L2
section
variable {P:bo} {w:World} (l:aj) (xs:Array af) (n:Nat) (d1:Option aj) (s1:Array (Option af)) (y:af) (e:Nat->Bool)
theorem inLoop(k:Nat):∀i:Nat,xs.size-i=k->MeetsIn P w (Builtin.«list.__contains__.loop» ⟨[.ref l,y,rawInt i],[]⟩)
  (λA R s=>s.heap.get? l=some (xO d1 xs n s1)/\(∀j (h1:j<xs.size),yY P w A.in1 s xs[j] y (e j))/\R (.ok (.ret (.bool (((List.range xs.size).drop i).any e)))) s):=by
 induction k with
 |zero=>
  intro i hk A R s h;obtain⟨hq,gs,dr,tk,Bc⟩:=s;obtain⟨u1,ue,q⟩:=h;have v1:xs[((i:Nat):Int).toNat]? =none:=by simp;omega
  have v3:(List.range xs.size).drop i=[]:=by simp;omega
  rw[v3] at q
  wp_walk using aG u1
  rw[v1]
  wp_walk
  exact q
 |succ k ih=>
  intro i hk A R s h;obtain⟨hq,gs,dr,tk,Bc⟩:=s;obtain⟨u1,ue,q⟩:=h;have t1:i<xs.size:=by omega
  have v1:xs[((i:Nat):Int).toNat]? =some xs[i]:=by simp[t1]
  have v3:(List.range xs.size).drop i=i::(List.range xs.size).drop (i+1):=by simp[cB,t1]
  have v4:((i:Int)+1)=((i+1:Nat):Int):=by push_cast;rfl
  rw[v3,iE] at q
  wp_walk using aG u1
  rw[v1];refine aa (ue i t1 _ _ ?_);cases ei:e i with
  |true=>
   rw[ei,Bool.true_or] at q
   wp_walk
   exact q
  |false=>
   rw[ei,Sw] at q
   wp_walk
   rw[v4];refine⟨de jJ _,cW MeetsSeq.entry_contains_loop ?_⟩;rw[cP jJ _];exact ih (i+1) (by omega) A R _ ⟨u1,ue,q⟩
theorem XW:MeetsIn P w (Builtin.«list.__contains__» ⟨[.ref l,y],[]⟩)
  (λA R s=>s.heap.get? l=some (xO d1 xs n s1)/\(∀j (h1:j<xs.size),yY P w A.in1 s xs[j] y (e j))/\R (.ok (.ret (.bool ((List.range xs.size).any e)))) s):=by
 intro A R s h;obtain⟨hq,gs,dr,tk,Bc⟩:=s;obtain⟨u1,ue,q⟩:=h
 wp_walk using aG u1
 refine⟨de jJ _,cW MeetsSeq.entry_contains_loop ?_⟩;rw[cP jJ _];exact inLoop l xs n d1 s1 y e _ 0 U A R _ ⟨u1,ue,by simpa using q⟩
end
section
variable {X:Cx} {pins:List (aj×Obj)} {σ:L2.St} {H:Hp} {s:ah} {A:bK} {E:af->ah->Prop}
theorem has_list{l:aj}{xs:Array af}{y:af}{e:Nat->Bool}{Q:af->ah->Prop}(hl:s.heap.IsList l xs)(he:∀j (h1:j<xs.size),yY X.prog X.w A.in1 s xs[j] y (e j))(q:∀b,b=(List.range xs.size).any e->Q (.bool b) s):
  wpAny (model X.prog X.w) A (call (.builtin "list.__contains__") [.ref l,y]) (λv s'=>∃b,v=.bool b/\Q (.bool b) s') E s:=by
 obtain⟨⟨c1,d1,t1,s1⟩,o1,k1,n,e1⟩:=id hl;simp only at k1 e1
 subst k1 e1;exact gB F.slot_list_contains hl.typeIs F.entry_list_contains (F.args_list_contains_2 _ _) (XW l xs n d1 s1 y e) ⟨o1,he,_,U,q _ U⟩
theorem any_range{α:Type}(f:α->Bool)(d:α):∀l:List α,((List.range l.length).any λj=>f (l.getD j d))=l.any f:=by
 intro l;have e:l=(List.range l.length).map λj=>l.getD j d:=by
  apply nP
  ·simp
  ·intro i h1 h2;simp[h1]
 conv=>rhs;rw[e]
 rw[List.any_map]
 rfl
def Zae(K:au)(neg:Bool):R2:=λx y H Q=>∃p n d xs ds,y=.ref p/\n<=20/\cK K H p xs/\Rep K H d x/\IA K H ds xs/\(∀e∈ds,kM n e d=true)/\Q (.bl (if neg then !(ds.any λe=>gX n e d) else ds.any λe=>gX n e d)) H
theorem Ux(I:L2.Inv X pins σ H s){p:aj}{n:Nat}{d:Dt}{x:V}{v:af}{xs:List V}{ds:List Dt}(hn:n<=20)(hu:X.A.units+30<cLine)(rx:RelV x v)(r1:Rep X.K H d x)(rs:IA X.K H ds xs)(lk:∀e∈ds,kM n e d=true){us:List af}(ru:Vals xs us):
  ∀j (h1:j<us.toArray.size),yY X.prog X.w X.A.in1 s us.toArray[j] v (gX n (ds.getD j (.v .fR)) d):=λj h1=>by
 have h2:j<us.length:=by simpa using h1
 obtain⟨y,ry,rv⟩:=y9 rs ru j h2;have hj:j<ds.length:=by rw[cA rs,ru.length];exact h2
 have m:ds.getD j (.v .fR)∈ds:=by rw[fJ,aK hj];exact iN hj
 rw[iu];exact(vV I n _ d y x _ v X.A.in1 ry r1 rv rx (lk _ m) (by show X.A.units+1+n<cLine;omega)).1
theorem MX(hu:X.A.units+30<cLine):vp X (compareOp .NotIn) (Zae X.K true):=by
 intro pins s σ H x y v u Q I rx ry h;obtain⟨p,n,d,xs,ds,rfl,hn,hq,r1,rs,lk,q⟩:=h;cases ry;obtain⟨us,ru,pl,_⟩:=I.list hq;show wpAny _ X.A (do return Value.bool (!(<-contains (.ref p) v))) _ _ s;refine aa (wpAny_contains_slot pl.isList.typeIs F.slot_list_contains (cF (has_list (X:=X) (Q:=λv s'=>∃b,v=.bool b/\EP X pins σ Q (.bool (!b)) s') pl.isList (Ux (p:=p) I hn hu rx r1 rs lk ru) λb hb=>⟨b,U,.bl (!b),H,I,U, ?_⟩) (λv s' hv=> ?_) λ_ _ e=>e))
 ·have le:us.toArray.size=ds.length:=by rw[aL,<-ru.length,cA rs]
  rw[hb,le,any_range (λe=>gX n e d)];exact q
 ·obtain⟨b,rfl,b',e,told⟩:=hv;cases e;exact dX (aq told)
theorem JB{K:au}(eK:X.K=K)(hu:X.A.units+30<cLine):vp X (compareOp .NotIn) (Zae K true):=by
 subst eK;exact MX hu
end
end L3
namespace L3
open PySem PySem.Spec PyProof.Rows L2 PySem.W PySem.Calls
section
variable {X:Cx}
theorem Vp{pins:List (aj×Obj)}{σ:L2.St}{H:Hp}{s:ah}{a:aj}{kvs:List (Key×V)}(I:L2.Inv X pins σ H s)(h:Rd H a (.dK kvs)):fB X.prog X.w H s.heap a (.dK kvs):=by
 rcases h with h|⟨o,h⟩
 ·exact I.dw a _ h
 ·exact(I.dw a _ h).2
def mS(v a:aj):HO:=.ext λh=>h.IsValuesView v a
def SE(tl:TE):TE:=λσ H Q=>tl σ H λx H1=>∃a kvs,x=.ref a/\Rd H1 a (.dK kvs)/\∀v,H1 v=none->Q (.ref v) (upd H1 v (mS v a))
theorem MU{o:PySem.Expr}{to:TE}{apos gf:Pos}(ho:PE X o to)
  (hb:attributeBase o "values" X.env (eval o X.env)=eval o X.env:=by rfl)(sx:(apos.endLine==gf.line)=true:=by rfl):PE X (.Call (.Attribute o "values" apos) [] [] gf) (SE to):=by
 intro pins s σ H Q I h;refine wpAny_Call_method0_late hb sx (eZ (ho pins s σ H _ I h) λv s1 ⟨x,H1,I1,r1,a,kvs,e,ha,q1⟩=> ?_);subst e;cases r1;obtain⟨t1,t2,_⟩:=QQ I1 (.inl ⟨kvs,ha⟩);obtain⟨z1,z2,vs,z3,z4⟩:=Vp I1 ha;refine⟨"dict","dict.values",OH,F.slot_dict_values,F.type_dict_values,t1,t2,eY U (qT ?_)⟩;refine gB F.slot_dict_values t1 F.entry_dict_values (F.args_dict_values_1 _) (meets_dict_values (eJ X.prog X.w) a z2) ⟨⟨vs,z4⟩, ?_⟩
 refine⟨.ref _,_,I1.laid (a:=s1.heap.objs.size) (o:=mS s1.heap.objs.size a) (t':=s1.toks) (λb q hq=>ai _ hq) (aE _) ?_,U,q1 _ I1.fresh⟩;refine⟨⟨_,aM _ U,U,U⟩,⟨_,aM _ U⟩,λg1 g2 z k=> ?_⟩;obtain⟨ob,e1,e2⟩:=z;exact⟨ob,k _ e1,e2⟩
theorem Kx(hc:X.calm=true):iH X (.builtin "max") (λxs H Q=>∃(v a:aj) (c:List (Key×Int)),xs=[.ref v]/\H v=some (mS v a)/\Rd H a (.dK (c.map λp=>(p.1,V.int p.2)))/\c≠[]/\∀M,A7 (c.map (·.2)) M->Q (.int M) H):=by
 intro pins s σ H xs us Q I r h;obtain⟨v,a,c,rfl,hv,ha,Zb,q⟩:=h;obtain⟨u,rfl,rx⟩:=vals1 r;cases rx;have vw:s.heap.IsValuesView v a:=(I.dw v _ hv).1;obtain⟨z1,z2,vs,z3,z4⟩:=Vp I ha;obtain⟨ep,Yg⟩:=z4.dictAt;have el:vs.length=c.length:=by have:=cA z3;rw[ao] at this;exact this.symm
 have nK:=Yg.lt_size;refine call_max_walk (wpAny_pyIter_values vw Yg ?_);have VQ:∀(i:Nat) (w:af),(∃k,vs[i]? =some (k,w))->∃t,w=.int (((c[i]?).map (·.2)).getD 0) t:=λi w ⟨k,e⟩=>by
  have hi:i<c.length:=by rw[<-el];exact(bT.mp e).1
  obtain⟨u,e1,e2⟩:=Mh z3 (i:=i) (p:=(c[i].1,V.int c[i].2)) (by rw[cj,aK hi];rfl)
  rw[e] at e1
  obtain⟨t,e3⟩:=e2;have e4:w=u:=dc Prod.snd (bR e1);exact⟨t,by rw[e4,e3,aK hi];rfl⟩
 have W:=Walks.dictValues (prog:=X.prog) (w:=X.w) (knd:=eJ X.prog X.w) (A:=X.A.in1) (I.ok.hd hc) s.heap.objs.size a (bc nK) vs ep;have Kg:0<vs.length:=by rw[el];exact List.length_pos_iff.mpr Zb
 refine⟨_,_,_,_,_,_,_,U,W,⟨⟨_,aM _ U,U,U⟩,Yg.push _⟩,λb hb=> ?_,Kg,CmpOf.ints_gt (λi=>((c[i]?).map (·.2)).getD 0) VQ,λw h' tk hP hk=> ?_⟩
 ·have sz:(s.heap.push {cls:=.type "dict_valueiterator",data:=.fields #[.ref a,.int 0 0,.int vs.length 0,.int ep 0]}).objs.size=s.heap.objs.size+1:=fE ..;have all:∀b∈[s.heap.objs.size,a],b<s.heap.objs.size+1:=List.forall_mem_cons.mpr ⟨eh _,λb m=>(dm.mp m)▸di nK⟩;rw[<-sz] at all
  exact all b hb
 ·obtain⟨b1,b2⟩:=argBest_gt (λi=>((c[i]?).map (·.2)).getD 0) (vs.length-1);obtain⟨t,rfl⟩:=VQ _ _ hP;have k2:∀b o,s.heap.get? b=some o->h'.get? b=some o:=λb o e=>hk b o (λz=>absurd (aW e) (by rw[dm.mp z];exact dP _)) (ai _ e)
  refine⟨.int _,H,I.kept (t':=tk) k2,⟨t,U⟩,q _ ⟨?_,λz hz=> ?_⟩⟩
  ·generalize argBest (λi j=>decide (((c[i]?).map (·.2)).getD 0>((c[j]?).map (·.2)).getD 0)) (vs.length-1)=m at b1
   have hm:m<c.length:=by omega
   rw[aK hm];exact a5.mpr ⟨c[m],iN hm,U⟩
  ·obtain⟨p,hp,rfl⟩:=a5.mp hz;obtain⟨j,hj,rfl⟩:=eU hp;have:=b2 j (by omega);simp only [aK hj] at this
   exact this
end
section
variable {X:Cx} {pins:List (aj×Obj)} {σ:L2.St} {H:Hp} {s:ah} {a:aj} {kvs:List (Key×V)} {k:Key} {u:af} {A:bK} {E:af->ah->Prop}
end
section
variable {X:Cx} {o e f:PySem.Expr} {apos gf:Pos} {td ty tx:TE}
end
end L3
namespace L3
open PySem PySem.Spec PyProof.Rows L2
section
variable {X:Cx} {K:au}
end
section
variable {prog:bo} {w:World} {A:bK} {E:af->ah->Prop} {s:ah}
theorem Uu{T newId:String}{self:af}{rest:List af}{kw:List (Str×af)}(hl:typeLookup (.type T) "__init__"=pure (some (.builtin "object.__init__")))
  (hm:Bind.madeBy (.type T)=pure (some newId))(Zb:(some newId !=some "object.__new__")=true)(hk:rest.isEmpty=false):
  Meets (Builtin.«object.__init__» ⟨self::rest,kw⟩) (λ_ R s=>s.TypeIs self T/\R (.ok (.ret .none)) s):=by
 refine Meets.of_wp λ_ _ _ _ _ ⟨ty,fin⟩=> ?_;cases rest with
 |nil=>cases hk
 |cons a r=>
  repeat any_goals first|wp_step|assumption
  exact⟨_,U,fin⟩
theorem Zz{T newId:String}{Bn:Builtin}{args:List af}{kw:List (Str×af)}{S:PySem.Spec}{Q:af->ah->Prop}(ft:TypeCalled T newId "object.__init__")(Zb:(some newId !=some "object.__new__")=true)(h0:args.isEmpty=false)
  (c1:checkTypeCall T ⟨args,kw⟩=pure ())(c2:checkBuiltinCall newId ⟨.type T::args,kw⟩=pure ())(c3:∀obj,argsOk "object.__init__" ⟨obj::args,kw⟩)(en:entryFor table newId=some Bn)(g:Meets (Bn ⟨.type T::args,kw⟩) S)
  (h:S A.in1 (wants (λobj s1=>s1.TypeIs obj T/\Q obj s1) E) s):wpAny (model prog w) A (call (.type T) args kw) Q E s:=by
 obtain⟨cc,tl,m0⟩:=ft.mro;have m1:=ft.made;have m2:=ft.sub;have m3:=ft.notType;have m4:=ft.canCreate;refine gU (codeAny_of_tree (aq ⟨mY _ (by decide+kernel),cW F.entry_type_call ?_⟩));rw[Around.under_plain (weight_type_call_type T args kw) (units_type_call_type T args kw)]
 repeat any_goals first|wp_step|assumption
 refine gA (fH ft.plain en (kI c2 (g prog w A.in1 _ s h))) λr s1 q1=> ?_
 match r,q1 with
 | .ok (.ret obj),⟨ty,fin⟩=>
  have i1:=ft.init.lookup;have i2:=ft.init.bind obj
  repeat any_goals first|wp_step|assumption
  refine gA (fH ft.init.plain F.entry_object_init (ft.init.check _ _ _ _ _ _ _ _ ty (c3 obj) (Uu i1 m1 Zb h0 prog w A.in1 (wants (λr s2=>r=.none/\Q obj s2) E) s1 ⟨ty,U,fin⟩))) λr2 s2 q2=> ?_
  match r2,q2 with
  | .ok (.ret r),⟨e,q⟩=>
   subst e
   repeat any_goals first|wp_step|assumption
  | .error e,q=>exact q
 | .error e,q=>exact q
theorem UH(a b:af):checkTypeCall "enumerate" ⟨[a],[("start",b)]⟩=pure ():=by kernel_rfl
theorem UI(a b:af):checkBuiltinCall "enumerate.__new__" ⟨[.type "enumerate",a],[("start",b)]⟩=pure ():=by kernel_rfl
theorem UJ(o a b:af):argsOk "object.__init__" ⟨[o,a],[("start",b)]⟩:=by
 unfold argsOk;rw[signature?_of (id:="object.__init__") (n:="__tini__".toList) (o:="tcejbo".toList) (by kernel_rfl) F.owner_object]
 kernel_rfl
open AutoSeq1 in
theorem Ks(l:aj)(xs:Array af)(n:Nat)(d1:Option aj)(s1:Array (Option af))(t:Tok):
  Meets (Builtin.«enumerate.__new__» ⟨[.type "enumerate",.ref l],[("start",.int 1 t)]⟩) (λ_ R s=>s.heap.get? l=some (xO d1 xs n s1)/\
   R (.ok (.ret (.ref (s.heap.objs.size+1)))) {s with heap:=(s.heap.push {cls:=.type "list_iterator",data:=.fields #[.ref l,.int 0 0]}).push {cls:=.type "enumerate",data:=.fields #[.none,.bool false,.ref s.heap.objs.size,rawInt 1,.none,.none]}}):=
 .of_wp λ_ _ _ _ s ⟨u1,fin⟩=>by
  obtain⟨hq,gs,dr,tk,Bc⟩:=s;have u2:=sub_enumerate;have u3:Heap.IsList (Shared.heap ⟨hq,gs,dr,tk,Bc⟩) l xs:=⟨_,u1,rfl,n,rfl⟩
  have u4:(hq.push {cls:=.type "list_iterator",data:=.fields #[.ref l,.int 0 0]}).objs.size=hq.objs.size+1:=vG ..
  wp_walk using wpAny_loadPart' u1
  refine wpAny_stack_any λcalls=> ?_;refine aq ?_;have u5:Builtin.SmallTypes.fitsIndex 1=true:=by decide
  rw[<-u4] at fin
  split
  ·rename_i c _ _ _ _ _
   rcases Bool.eq_false_or_eq_true (c==.type "enumerate") with z|z<;>rw[z]<;>(wp_walk using wpAny_loadPart' u1,fk u3)<;>exact⟨_,U,fin⟩
  ·wp_walk using wpAny_loadPart' u1,fk u3
   exact⟨_,U,fin⟩
section
variable {prog:bo} {w:World} {A:bK} {E:af->ah->Prop} {s:ah}
theorem yW{l:aj}{xs:Array af}{t:Tok}{Q:af->ah->Prop}(hl:s.heap.IsList l xs)
  (q:∀h',IsEnum h' (s.heap.objs.size+1) s.heap.objs.size 1 .none->h'.IsListIter s.heap.objs.size l 0->(∀b o,s.heap.get? b=some o->h'.get? b=some o)->Q (.ref (s.heap.objs.size+1)) {s with heap:=h'}):
  wpAny (model prog w) A (call (.type "enumerate") [.ref l] [("start",.int 1 t)]) Q E s:=by
 obtain⟨⟨c1,d1,t1,s1⟩,o1,k1,n,e1⟩:=id hl;simp only at k1 e1
 subst k1 e1;have z:=aM (s.heap.push {cls:=.type "list_iterator",data:=.fields #[.ref l,.int 0 0]}) (o:={cls:=.type "enumerate",data:=.fields #[.none,.bool false,.ref s.heap.objs.size,rawInt 1,.none,.none]}) rfl;rw[vG] at z
 exact Zz F.called_enumerate (by decide) U (UH _ _) (UI _ _) (λo=>UJ o _ _) F.entry_enumerate_new (Ks l xs n d1 s1 t)
  ⟨o1,⟨_,z,rfl⟩,q _ z ⟨_,ai _ (aM _ rfl),rfl,rfl⟩ λb o e=>ai _ (ai _ e)⟩
theorem NW{e it l:aj}{i:Nat}{c:Int}{xs:Array af}{x old:af}{Q:Option af->ah->Prop}(he:IsEnum s.heap e it c old)(hi:s.heap.IsListIter it l i)(hl:s.heap.IsList l xs)(hx:xs[i]? =some x)(ne:e≠it)
  (q:∀h1 h' tk,Heap.SameBut it s.heap h1->(∀b o,b≠e->h1.get? b=some o->h'.get? b=some o)->IsEnumOut h' e it (c+1) x s.heap.objs.size->h'.IsListIter it l (i+1)->h'.get? s.heap.objs.size=some {cls:=.type "tuple",data:=.seq #[.int c s.toks,x]}->Q (some (.ref s.heap.objs.size)) {s with heap:=h',toks:=tk}):wpAny (model prog w) A (pyNext (.ref e)) Q E s:=by
 have ty:s.TypeIs (.ref e) "enumerate":=⟨_,he,rfl⟩
 unfold pyNext;refine aa (jQ (wpAny_callSpecial?_slot (name:="__next__") ty qW (wpAny_call_entry qW ty F.entry_enumerate_next ?_ (F.args_enumerate_next_1 _))));obtain⟨h0,gs,dr,tk,Bc⟩:=s;refine aa (m:=field (.ref e) 2) (wpAny_field he U U (aa (wpAny_nextOf_list_item hi hl hx λh1 hi1 k1=> ?_)));have e1:IsEnum h1 e it c old:=(k1.2 e ne).trans he;refine aa (wpAny_field e1 U U (aa (wpAny_field e1 U U ?_)))
 refine aa (m:=mkInt c) (wpAny_mkInt ?_);refine aa (wpAny_setField_rec e1 (by simp) λh2 e2 k2=> ?_);refine aa (wpAny_setField_rec e2 (by simp) λh3 e3 k3=>aa (wpAny_newTuple ?_));have kk:∀b,b≠e->h3.get? b=h1.get? b:=λb n1=>(k3.2 b n1).trans (k2.2 b n1);have sz:h3.objs.size=h0.objs.size:=k3.1.trans (k2.1.trans k1.1);have ki:h3.get? it=h1.get? it:=(k3.2 it (cY ne)).trans (k2.2 it (cY ne));generalize hT:h3.push {cls:=.type "tuple",data:=.seq #[.int c tk,x]}=h4
 have e4:IsEnum h4 e it (c+1) old:=by rw[<-hT];exact ai _ e3
 have t4:h4.get? h0.objs.size=some {cls:=.type "tuple",data:=.seq #[.int c tk,x]}:=by rw[<-hT,<-sz];exact aM _ U
 have i4:h4.IsListIter it l (i+1):=by
  obtain⟨o,w1,w2⟩:=hi1;exact⟨o,by rw[<-hT];exact ai _ (ki.trans w1),w2⟩
 have k4:∀b o,b≠e->h1.get? b=some o->h4.get? b=some o:=λb o n1 z=>by rw[<-hT];exact ai _ ((kk b n1).trans z)
 have lt:e≠h0.objs.size:=bc (aW he);show wpAny _ _ (Builtin.SmallTypes.ownedTupleIsFree (.ref e)>>=_) _ _ ⟨h4,gs,dr,tk+1,Bc⟩;rw[sz];refine aa (m:=Builtin.SmallTypes.ownedTupleIsFree (.ref e)) ?_;refine aa (m:=field (.ref e) 0) (wpAny_field e4 U U (aq ?_));refine aa (m:=rule _) (rh (aa (wpAny_field e4 U U (aa (wpAny_setField_rec e4 (by simp) λh5 e5 k5=> ?_)))));refine aa (m:=Builtin.SmallTypes.ownedTupleHandOut (.ref e) _) ?_
 refine aa (m:=setField (.ref e) 0 _) (wpAny_setField_rec e5 (by simp) λh6 e6 k6=>wpAny_setField_rec e6 (by simp) λh7 e7 k7=>aa (rn (aq ⟨_,U,aq ?_⟩)));have k47:∀b,b≠e->h7.get? b=h4.get? b:=λb n=>(k7.2 b n).trans ((k6.2 b n).trans (k5.2 b n));refine q h1 h7 (tk+1) k1 (λb o n z=>(k47 b n).trans (k4 b o n z)) e7 ?_ ((k47 _ (cY lt)).trans t4);obtain⟨o,w1,w2⟩:=i4;exact⟨o,(k47 it (cY ne)).trans w1,w2⟩
theorem NX{e it l:aj}{i:Nat}{c:Int}{xs:Array af}{old:af}{Q:Option af->ah->Prop}(hh:A.handled=none)(he:IsEnum s.heap e it c old)(hi:s.heap.IsListIter it l i)(hl:s.heap.IsList l xs)(hx:xs[i]? =none)
  (q:∀h',Heap.ExtBut it s.heap h'->Q none {s with heap:=h'}):wpAny (model prog w) A (pyNext (.ref e)) Q E s:=by
 have ty:s.TypeIs (.ref e) "enumerate":=⟨_,he,rfl⟩
 unfold pyNext;refine aa (jQ (wpAny_callSpecial?_slot (name:="__next__") ty qW (wpAny_call_entry qW ty F.entry_enumerate_next ?_ (F.args_enumerate_next_1 _))));refine aa (m:=field (.ref e) 2) (wpAny_field he U U (aa (wpAny_nextOf_list_end hh hi hl hx λh1 z k1 ⟨o,w1,w2⟩=> ?_)));exact aa (jf (T:="StopIteration") (b:=true) ⟨o,w1,w2⟩ isSubtype_stop (aq (q _ k1)))
end
end
def Ite(K:au)(a:aj)(c:Int):It:=
 ⟨λi H=>∃xs x,cK K H a xs/\xs[i]? =some x,λi H v H'=>∃p x,H p=none/\(∀xs,cK K H a xs->xs[i]? =some x)/\v=.ref p/\H'=upd H p (.tup [.int (c+i),x]),λi H=>∃xs,cK K H a xs/\xs.length<=i⟩
theorem Mx{P:bo}{w:World}{K:au}{elts:List PySem.Expr}{x1:Nat}{pos:Pos}(a e it:aj)(ne:e≠it)(c:Int):
  Turn P w K (.Tuple elts x1 pos) (Ite K a c) [e,it] e (λi h=>(∃old,IsEnum h e it (c+(i:Nat)) old)/\h.IsListIter it a i) where
 mem:=by simp
 obj:=λi h st b hb=>by
  obtain⟨⟨old,s1⟩,o,s2,_,s3⟩:=st;have hb:b=e\/b=it:=by simpa using hb
  rcases hb with rfl|rfl
  ·exact⟨_,s1,λv z=>nomatch z⟩
  ·exact⟨_,s2,λv z=>by rw[s3] at z;cases z⟩
 keep:=λi h h' ⟨⟨old,s1⟩,s2⟩ k=>⟨⟨old,k e (by simp) _ s1⟩,s2.at λo z=>k it (by simp) o z⟩
 item:=by
  intro X hP hw hK hc i pins s σ H E I hf st hg;subst hP hw hK;obtain⟨xs,x,hq,hx⟩:=hg;obtain⟨its,rv,p,hz⟩:=I.list hq;obtain⟨u,hu,ru⟩:=rv.get hx;obtain⟨⟨old,s1⟩,s2⟩:=st;obtain⟨f0,f1,f2,f3,f4,f5⟩:=hf e (by simp);obtain⟨g0,g1,g2,g3,g4,g5⟩:=hf it (by simp);refine NW s1 s2 p.isList (x:=u) (by simpa using hu) ne λh1 h' tk k1 k2 eo il tp=> ?_;have I1:L2.Inv X pins σ H {s with heap:=h1,toks:=s.toks}:=I.turned (t':=s.toks) (λb o hb z=>(k1.2 b hb).trans z) g0 g1 g3 g4 g5
  refine⟨_,U,wpAny_letOwnedTupleGo_enum (s:={s with heap:=h',toks:=tk}) eo λh2 en sb=> ?_⟩;have I2:L2.Inv X pins σ H {s with heap:=h2,toks:=tk}:=I1.turned (t':=tk) (λb o hb z=>(sb.2 b hb).trans (k2 b o hb z)) f0 f1 f3 f4 f5;have ne1:s.heap.objs.size≠e:=λz=>absurd (aW s1) (by rw[<-z];exact dP _)
  have ne2:s.heap.objs.size≠it:=λz=>by
   obtain⟨o,w1,_⟩:=s2;exact absurd (aW w1) (by rw[<-z];exact dP _)
  have fn:=I.BS (H':=H) (aE _) (I.dw.fresh (aE _));have I3:=Dm (q:=.tup [.int (c+(i:Nat)),x]) I2 fn ⟨by show 2<=sizeLine;rw[cJ];decide,[.int (c+(i:Nat)) s.toks,u],.cons ⟨_,rfl⟩ (.cons ru .nil),_,(sb.2 _ ne1).trans tp,rfl,_,rfl⟩
  refine⟨.ref s.heap.objs.size,_,I3,U,⟨_,x,fn.1,λys hy=>by rw[I.Az hy hq];exact hx,U,U⟩,⟨⟨u, ?_⟩,il.at λo z=>(sb.2 it (cY ne)).trans z⟩,λb hb=> ?_⟩
  ·have ec:c+((i+1:Nat):Int)=c+(i:Nat)+1:=by omega
   rw[ec];exact en
  ·have hb:b=e\/b=it:=by simpa using hb
   rcases hb with rfl|rfl
   ·rw[aY (cY ne1)];exact f0
   ·rw[aY (cY ne2)];exact g0
 done:=by
  intro X hP hw hK hc i pins s σ H E I hf st hg;subst hP hw hK;obtain⟨xs,hq,hx⟩:=hg;obtain⟨its,rv,p,hz⟩:=I.list hq;obtain⟨⟨old,s1⟩,s2⟩:=st;obtain⟨g0,g1,g2,g3,g4,g5⟩:=hf it (by simp);have hl:=rv.length;exact NX (I.ok.hd hc) s1 s2 p.isList (by simp;omega) λh' eb=>⟨U,I.turned (t':=s.toks) (λb o hb z=>eb b o hb z) g0 g1 g3 g4 g5⟩
 self:=λ_ _ _ _ _ ⟨⟨_,s1⟩,_⟩ h=>wpAny_pyIter_enum s1 h
section
variable {X:Cx} {pins:List (aj×Obj)} {σ:L2.St} {H:Hp} {s:ah}
theorem Fg{M:Model}{A:bK}{E:af->ah->Prop}{env:Env}{pos:Pos}{T:String}{e:Expr}{rest:List Expr}{YY:List Keyword}{Q:af->ah->Prop}
  (h:wpAny M A (spliced (backTo pos (starEach (e::rest) env))) (λvs s1=>wpAny M A (evalAll ((backToKw pos (keywordEach YY env)).map (·.2))) (λks s2=>wpAny M A (call (.type T) vs (((backToKw pos (keywordEach YY env)).filterMap (·.1)).zip ks)) Q E s2) E s1) E s)
  (e1:backTo pos (starEach (e::rest) env)=(false,eval e env)::backTo pos (starEach rest env))(e2:(backTo pos (starEach (e::rest) env)).any (·.1)=false)
  (e3:(backToKw pos (keywordEach YY env)).all (·.1.isSome)=true)(e4:(backToKw pos (keywordEach YY env)).any (·.1.isNone)=false):
  wpAny M A (callWith pos (.type T) [] (backTo pos (starEach (e::rest) env)) (backToKw pos (keywordEach YY env))) Q E s:=by
 unfold callWith;rw[e1] at h e2⊢
 refine aa (cy (eZ (evalArgs_kwB (f:=.type T) (Q:=λa s1=>wpAny M A (call (.type T) a.pos a.kw) Q E s1) e3 h) λa s1 q=>aa (rl ?_)));simp only [e2,e4,Bool.or_false];exact aa (aq (aa (eZ q λr s2 q2=>aa (cy (wpAny_point (aq q2))))))
theorem Fo:bootBuiltins "enumerate"=some (.type "enumerate"):=by decide+kernel
def ZaD(K:au)(t:TA):TI:=λσ H R=>t σ H λvs H1=>∃a,vs=[.ref a]/\(∃xs,cK K H1 a xs)/\R (Ite K a 1) H1
theorem Ts{K:au}{e:PySem.Expr}{t:TA}{p0 p1 p2 pos tp:Pos}{elts:List PySem.Expr}{x1 j:Nat}(eK:X.K=K)(hg:Gl X "enumerate")(hm:X.mg "enumerate"=none)(ha:PA X [e] t)
  (hs:starEach [e] X.env=[(false,eval e X.env)]:=by rfl):PI X (.Tuple elts x1 tp) (.Call (.Name "enumerate" p0) [e] [⟨some "start",.Constant (.int 1) j p1,p2⟩] pos) (ZaD K t):=by
 subst eK;intro pins s σ H R I h;refine cU (lA I hg hm Fo ?_ (by decide) (by decide));refine Fg (eZ (ha pos pins s σ H _ I h) λus s1 z=> ?_) (by rw[hs];rfl) (by rw[hs];rfl) U U
 obtain⟨vs,H1,I1,r1,a,rfl,⟨xs,hq⟩,q⟩:=z;obtain⟨u,rfl,ru⟩:=vals1 r1;cases ru;refine kws_cons (eZ (a9 (X:=X) pins s1 σ H1 (λv H'=>v=.int 1/\H'=H1) I1 ⟨U,U⟩) λv s2 ⟨x,H2,I2,r2,e1,e2⟩=>kws_nil ?_);subst e1 e2;obtain⟨tk,rfl⟩:=r2;obtain⟨its,rv,pl,hz⟩:=I2.list hq;refine yW pl.isList λh' en il k=>wpAny_pyIter_enum en ?_;have ne:s2.heap.objs.size+1≠s2.heap.objs.size:=jR (eh _);refine⟨_,[s2.heap.objs.size+1,s2.heap.objs.size],_,_,_,U,I2.kept (t':=s2.toks) k,Mx a _ _ ne 1,⟨⟨_,en⟩,il⟩,λb hb=> ?_,q⟩
 have hb:b=s2.heap.objs.size+1\/b=s2.heap.objs.size:=by simpa using hb
 have le:s2.heap.objs.size<=b:=by rcases hb with rfl|rfl<;>omega
 exact I2.BS le (I2.dw.fresh le)
end
def Itv(K:au)(a:aj)(ys:List V):It:=
 ⟨λi H=>cK K H a ys/\i<ys.length,λi H x H'=>H'=H/\ys[ys.length-1-i]? =some x,λi H=>cK K H a ys/\ys.length=i⟩
theorem OW{P:bo}{w:World}{K:au}{tg:PySem.Expr}(a it:aj)(ys:List V):
  Turn P w K tg (Itv K a ys) [it] it (λi h=>h.IsRevIter it a ((ys.length:Int)-1-(i:Nat))) where
 mem:=by simp
 obj:=λi h st b hb=>by
  have e:b=it:=by simpa using hb
  subst e;obtain⟨o,e,c,d⟩:=st;exact⟨o,e,λv z=>by rw[d] at z;cases z⟩
 keep:=λi h h' st k=>st.at λo e=>k it (by simp) o e
 item:=by
  intro X hP hw hK hc i pins s σ H E I hf st hg;subst hP hw hK;obtain⟨hq,lt⟩:=hg;obtain⟨its,rv,p,hz⟩:=I.list hq;have hl:=rv.length;obtain⟨x,hx⟩:∃x,ys[ys.length-1-i]? =some x:=⟨_,aK (by omega)⟩
  obtain⟨u,hu,ru⟩:=rv.get hx;obtain⟨f0,f1,f2,f3,f4,f5⟩:=hf it (by simp);have e1:(ys.length:Int)-1-(i:Nat)=((ys.length-1-i:Nat):Int):=by omega
  have st:s.heap.IsRevIter it a ((ys.length:Int)-1-(i:Nat)):=st;rw[e1] at st
  refine wpAny_pyNext_rev_item st p.isList (x:=u) (by simpa using hu) λh' yI sb=> ?_;have I1:L2.Inv X pins σ H {s with heap:=h'}:=I.turned (t':=s.toks) (λb o hb z=>(sb.2 b hb).trans z) f0 f1 f3 f4 f5;have e2:(ys.length:Int)-1-((i+1:Nat):Int)=((ys.length-1-i:Nat):Int)-1:=by omega
  obtain⟨o,z1,z2,z3⟩:=id yI;exact⟨u,U,CY (s:={s with heap:=h'}) z1 z2 z3 (by decide) ⟨x,H,I1,ru,⟨U,hx⟩,by rw[e2];exact yI,λb hb=>(hf b hb).1⟩⟩
 done:=by
  intro X hP hw hK hc i pins s σ H E I hf st hg;subst hP hw hK;obtain⟨hq,le⟩:=hg;obtain⟨f0,f1,f2,f3,f4,f5⟩:=hf it (by simp);have st:s.heap.IsRevIter it a ((ys.length:Int)-1-(i:Nat)):=st;rw[show(ys.length:Int)-1-(i:Nat)= -1 by omega] at st
  exact wpAny_pyNext_rev_end (I.ok.hd hc) st λh' eb=>⟨U,I.turned (t':=s.toks) (λb o hb z=>eb b o hb z) f0 f1 f3 f4 f5⟩
 self:=λ_ _ _ _ _ st h=>wpAny_pyIter_revIter st h
section
variable {X:Cx}
def ZcU(K:au)(te:TE):TI:=λσ H R=>te σ H λx H1=>∃a ys,x=.ref a/\cK K H1 a ys/\R (Itv K a ys) H1
theorem WW{K:au}{tg e:PySem.Expr}{te:TE}{p pos:Pos}(eK:X.K=K)(hg:Gl X "reversed")(hm:X.mg "reversed"=none)(ha:PE X e te)
  (s1:starEach [e] X.env=(false,eval e X.env)::starEach [] X.env:=by rfl):PI X tg (.Call (.Name "reversed" p) [e] [] pos) (ZcU K te):=by
 subst eK;intro pins s σ H R I h;refine cU (lA I hg hm yB (PyProof.Rows.callWith_type1 ?_ s1 U));rw[s1];show wpAny _ _ (spliced ((false,eval e X.env)::[])) _ _ s;refine gm (eZ (ha pins s σ H _ I h) λu s' ⟨x,H1,I1,r1,a,ys,ex,hq,q⟩=>jS ?_);subst ex;cases r1;obtain⟨us,r,pl,hz⟩:=I1.list hq;have hlen:=r.length;refine call_reversed_list pl.isList ?_;have st:Heap.IsRevIter (s'.heap.push (revObj a ((us.toArray.size:Int)-1))) s'.heap.objs.size a ((us.toArray.size:Int)-1):=⟨_,aM _ rfl,rfl,rfl⟩
 refine wpAny_pyIter_revIter (s:={s' with heap:=s'.heap.push (revObj a ((us.toArray.size:Int)-1))}) st ?_;refine⟨s'.heap.objs.size,[s'.heap.objs.size],_,_,_,U,I1.kept (t':=s'.toks) λb o z=>ai _ z,OW a _ ys, ?_,λb hb=> ?_,q⟩
 ·have e:((ys.length:Int)-1-((0:Nat):Int))=(us.toArray.size:Int)-1:=by rw[aL,<-hlen];omega
  show Heap.IsRevIter _ _ _ _;rw[e];exact st
 ·have e:b=s'.heap.objs.size:=by simpa using hb
  subst e;exact I1.BS (aE _) (I1.dw.fresh (aE _))
theorem Cs:∀{xs:List V} {us vs:List af},(∀v∈xs,∃d,v=.ref d)->Vals xs us->Vals xs vs->us=vs
 |[],_,_,_,.nil,.nil=>rfl
 |x::xs,_,_,h,.cons r t,.cons r2 t2=>by
  obtain⟨d,rfl⟩:=h x (aB ..);cases r;cases r2;rw[Cs (λv hv=>h v (aF _ hv)) t t2]
end
end L3
namespace L3
open PySem PySem.Spec PyProof.Rows L2 PySem.W PySem.Calls
section
variable {X:Cx} {K:au}
theorem uu(eK:X.K=K):vp X (compareOp .NotIn) (rIn K true):=by
 subst eK;exact Eb
theorem zo(eK:X.K=K):IxR X (WS K):=by
 subst eK;exact jc
end
section
variable {P:bo} {w:World} (l b:aj) (xs ys:Array af) (n m:Nat) (d1 d2:Option aj) (s1 s2:Array (Option af)) (e c:Nat->Bool)
end
section
variable {P:bo} {w:World} {A:bK} {s:ah} {l b:aj} {xs ys:Array af} {e c:Nat->Bool}
end
section
variable {X:Cx} {pins:List (aj×Obj)} {σ:L2.St} {H:Hp} {s:ah} {A:bK}
end
section
variable {prog:bo} {w:World} {B:bK} {R:Result->ah->Prop} {it S:aj} {c:Nat} {s:ah}
end
section
variable {X:Cx} {pins:List (aj×Obj)} {σ:L2.St} {H:Hp} {s:ah}
theorem xm:∀{ss:List Str} {vs:List af},Vals (ss.map V.str) vs->StrsAre vs ss
 |[],_,.nil=> .nil
 |x::ss,_,.cons ⟨t,e⟩ r=>by
  subst e;exact .cons x t (xm r)
theorem wV:iH X (.builtin "sorted") (λxs H Q=>∃(l:aj) (ss:List Str),xs=[.ref l]/\cK X.K H l (ss.map V.str)/\ss.length<64/\∀zs,zs.Perm ss->sortedS zs=true->∀D,H D=none->Q (.ref D) (upd H D (.lst (zs.map V.str)))):=by
 intro pins s σ H xs vals Q I r h;obtain⟨l,ss,rfl,hq,Kk,q⟩:=h;obtain⟨u,rfl,rx0⟩:=vals1 r;cases rx0;obtain⟨vs,rx,pl,_⟩:=I.list hq;have lv:vs.length=ss.length:=by rw[<-rx.length,ao]
 have hz:vs.length<=sizeLine:=by rw[cJ];omega
 refine call_function_entry kind_sorted plain_sorted entry_sorted (args_sorted1 (.ref l)) ?_;unfold Builtin.«sorted»;refine aa (m:=checkCount "sorted" 1 1 _) (aq (aa (collect_list pl.isList (aa (gz ?_ hz)) hz)));have YO:((s.heap.push (seqObj "list" #[] 0)).update s.heap.objs.size (Obj.mapSeq (· ++vs.toArray))).objs.size=s.heap.objs.size+1:=by rw[Heap.size_update,fE]
 generalize Zc:(s.heap.push (seqObj "list" #[] 0)).update s.heap.objs.size (Obj.mapSeq (· ++vs.toArray))=h1 at YO
 have k1:∀b u,s.heap.get? b=some u->h1.get? b=some u:=λb u e=>by
  have nK:=aW e;rw[<-Zc];exact dv b u (bc nK) (ai _ e)
 have I1:L2.Inv X pins σ H {s with heap:=h1}:=I.kept (t':=s.toks) k1;refine aa (cy (vR (s:={s with heap:=h1.push (seqObj "list" vs.toArray 0)}) (aM (o:=seqObj "list" vs.toArray 0) h1 U) (xm rx) (by omega) λout O_ o1 o2 o3=>aq ⟨_,U, ?_⟩));obtain⟨e,he⟩:=sortedHeap_at (h:=h1.push (seqObj "list" vs.toArray 0)) (out:=out) (aM (o:=seqObj "list" vs.toArray 0) h1 rfl);have Y1:(O_.map V.str).length<=sizeLine:=by rw[ao,o2.length_eq,cJ];omega
 refine⟨.ref h1.objs.size,_,I1.laid (a:=h1.objs.size) (o:=.lst (O_.map V.str)) (t':=s.toks) (λb o e1=> ?_) (aE _) ⟨Y1,out.toList,e,pN o1,he⟩,U,q O_ o2 o3 _ I1.fresh⟩;have hb:b<h1.objs.size:=aW e1;rw[sortedHeap_old (bc hb) (by rw[fE];exact di hb)]
 exact ai _ e1
end
end L3
namespace L3
open PySem PySem.Spec PyProof.Rows L2
section
variable {X:Cx} {K:au}
end
end L3
namespace L3
open PySem PySem.Spec PyProof.Rows L2 PySem.W PySem.Calls
section
variable {X:Cx} {pins:List (aj×Obj)} {σ:L2.St} {H:Hp} {s:ah} {A:bK}
end
section
variable {prog:bo} {w:World} {B:bK} {R:Result->ah->Prop} {it S:aj} {c:Nat} {s:ah}
end
section
variable {X:Cx} {pins:List (aj×Obj)} {σ:L2.St} {H:Hp} {s:ah}
end
end L3
namespace L3
open PySem PySem.Spec PyProof.Rows L2
section
variable {X:Cx} {K:au}
end
section
variable {X:Cx} {pins:List (aj×Obj)} {σ:L2.St} {H:Hp} {s:ah} {h':Heap}
end
section
variable {X:Cx} {pins:List (aj×Obj)} {σ:L2.St} {H:Hp} {s:ah}
end
end L3
namespace L3
open PySem PySem.Spec PyProof.Rows L2 PySem.W PySem.Calls
def Vb(_:Hp)(n:Int)(v:V):Prop:=v=.int n
section
variable {X:Cx} {pins:List (aj×Obj)} {σ:L2.St} {H:Hp} {s:ah} {α:Type} {lt:α->α->Bool} {R:Hp->α->V->Prop} {d:α}
end
section
variable {X:Cx} {pins:List (aj×Obj)} {σ:L2.St} {H:Hp} {s:ah} {α:Type} {lt:α->α->Bool} {R:Hp->α->V->Prop} {d:α} {k:Nat} {g:aj} {fd:bC} {p:Str} {sp:Sp}
end
end L3
namespace L3
open PySem PySem.Spec PyProof.Rows L2
end L3
namespace L3
open PySem PySem.Spec PyProof.Rows L2 PySem.W PySem.Calls
section
variable {X:Cx} {pins:List (aj×Obj)} {σ:L2.St} {H:Hp} {s:ah} {A:bK}
def SI(tl:TE):TE:=λσ H Q=>tl σ H λx H1=>∃a kvs,x=.ref a/\H1 a=some (.dK kvs)/\Q .fR (upd H1 a (.dK []))
theorem MV{o:PySem.Expr}{to:TE}{apos gf:Pos}(ho:PE X o to)
  (AK:attributeBase o "clear" X.env (eval o X.env)=eval o X.env:=by rfl)(sx:(apos.endLine==gf.line)=true:=by rfl):PE X (.Call (.Attribute o "clear" apos) [] [] gf) (SI to):=by
 intro pins s σ H Q I h;refine wpAny_Call_method0_late AK sx (eZ (ho pins s σ H _ I h) λv s1 ⟨x,H1,I1,r1,a,kvs,e,ha,q1⟩=> ?_);subst e;cases r1;obtain⟨h1,h2⟩:=Dz (T:="dict") (x:=.ref a) I1 rfl (.inr (.inr (.inl ⟨rfl,.inl ⟨kvs,ha⟩⟩)));refine⟨"dict","dict.clear",OH,F.slot_dict_clear,F.type_dict_clear,h1,h2,eY U (qT ?_)⟩;exact UL I1 ha λs' I2=>⟨.fR,_,I2,U,q1⟩
end
section
variable {X:Cx}
end
section
variable {X:Cx} {K:au}
end
section
variable {P:bo} {w:World} {K:Frag} {mg:Str->Option af} {base:Heap} {N:List Str} {qual:Str} {scope:Scope} {f:aj} {dQ:af} {A:bK} {outer:List Env} {s₀:ah} {H₀:Hp} {E:XK} {CX:Dn}
end
section
variable {X:Cx}
end
section
variable {X:Cx} {pins:List (aj×Obj)} {σ:L2.St} {H:Hp} {s:ah} {A:bK}
end
section
variable {w:World} {s:ah} {A:bK} {prog:bo}
end
section
variable {P:bo} {w:World} {K:Frag} {mg:Str->Option af} {base:Heap} {N:List Str} {qual:Str} {scope:Scope} {f:aj} {dQ:af} {A:bK} {outer:List Env} {s₀:ah} {H₀:Hp} {E:XK}
end
def XD(d:aj)(f:Str)(y:V):HO:=.ext λh=>∃ob u,h.get? d=some ob/\lookIn f ob=some (some u)/\RelV y u
section
variable {prog:bo} {w:World} {A:bK} {E:af->ah->Prop} {s:ah} {K:Frag} {x D:aj} {ox:Obj} {od:Option Obj} {name:Str} {v:af}
structure VR (K:Frag) (D:aj) (name:Str):Prop where
 no:findIn K (.ref D) name=some none
 hd:hasDictIn K D=true
theorem NR{tk:Tok}{Q:Fin->ah->Prop}(e:findObj K D od name=some (.value v))(X:K.In s.heap)(I:InstAt s.heap x ox D od)(hq:Q (.done (.ret v)) s):wpAny (model prog w) A (Builtin.«object.__getattribute__» ⟨[.ref x,.str name tk],[]⟩) Q E s:=by
 obtain⟨h,g,d,t,os⟩:=s;refine aa (aq ?_);refine aa (aq ?_);refine aa (I.type.at ?_);refine aa ((looks_find X I e).at ?_);exact aq hq
theorem UD{tk:Tok}{fill ex:Bool}{Q:af->ah->Prop}(Z:jA K D)(e:findObj K D od name=some (.value v))(hv:handedIn v=true)(X:K.In s.heap)(I:InstAt s.heap x ox D od)(hq:Q v s):wpAny (model prog w) A (getAttrByItsOwn (.ref x) (.str name tk) (.ref D) (.builtin "BaseException.__getattribute__") fill ex) Q E s:=by
 obtain⟨h,g,d,t,os⟩:=s;have hook:Looks (model prog w) h (hookBefore (.ref D)) none:=looks_findIn X Z.gt;refine aa (hook.at (aa (jQ (cy ?_))));have called:wpAny (model prog w) A (call (.builtin "BaseException.__getattribute__") [.ref x,.str name tk]) (λv s'=>wpAny (model prog w) A (handedOut v) Q E s') (λ_ _=>False) ⟨h,g,d,t,os⟩:=
  gU (fH lF.ga.plain entry_bexc_ga (C4 (s:=⟨h,g,d,t,os⟩) Z X I (NR (s:=⟨h,g,d,t,os⟩) e X I (handed_on hv hq))))
 unfold callGetattribute;rw[aX (by cases ex<;>(intro z;cases z))]
 exact aa (kI (lF.ga.bind (.ref x)) (cF called (λ_ _ z=>z) λ_ _ z=>z.elim))
theorem UE{ex:Bool}{Q:af->ah->Prop}(Z:jA K D)(e:findObj K D od name=some (.value v))(hv:handedIn v=true)(X:K.In s.heap)(I:InstAt s.heap x ox D od)(hq:Q v {s with toks:=s.toks+1}):wpAny (model prog w) A (getAttr (.ref x) name ex) Q E s:=by
 obtain⟨h,g,d,t,os⟩:=s;have its:Looks (model prog w) h (typeLookup (.ref D) "__getattribute__") (some (.builtin "BaseException.__getattribute__")):=looks_findIn X Z.ga;exact aa (wpAny_mkText (cy (aa (I.type.at (aa (its.at (UD (s:=⟨h,g,d,t+1,os⟩) Z e hv X I hq)))))))
end
section
variable {X:Cx} {pins:List (aj×Obj)} {σ:L2.St} {H:Hp} {s:ah}
theorem zK{e D d:aj}{f:Str}{y:V}(I:L2.Inv X pins σ H s)(h:H e=some (XO e D (some d)))(h2:H d=some (XD d f y)):∃ox od u,InstAt s.heap e ox D (some od)/\lookIn f od=some (some u)/\RelV y u:=by
 obtain⟨⟨ob,e1,e2,e3,e4⟩,_⟩:=I.dw e _ h;obtain⟨⟨od,u,g1,g2,g3⟩,_⟩:=I.dw d _ h2;exact⟨ob,od,u,⟨e1,e2,e4,by rw[e3];exact g1⟩,g2,g3⟩
def ZG(K:Frag)(ta:TE)(f:Str):TE:=λσ H Q=>ta σ H λx H1=>∃e D d y,x=.ref e/\H1 e=some (XO e D (some d))/\H1 d=some (XD d f y)/\jA K D/\VR K D f/\Q y H1
theorem Lm{e:PySem.Expr}{ta:TE}{f:Str}{pos:Pos}(he:PE X e ta)(hb:attributeBase e f X.env (eval e X.env)=eval e X.env):PE X (.Attribute e f pos) (ZG X.K ta f):=by
 intro pins s σ H Q I h;refine Mf hb (eZ (he pins s σ H _ I h) λu s1 ⟨x,H1,I1,rx,a,D,d,y,ex,ea,ed,Z,n,q⟩=> ?_);subst ex;obtain rfl:u=Value.ref a:=rx;obtain⟨ox,od,v,J,l,ry⟩:=zK I1 ea ed;exact UE Z (findObj_own n.hd n.no U (by rw[l])) (CW ry) I1.q5 J ⟨y,H1,I1.tok _,ry,q⟩
end
abbrev Zy:List af:=[.type "ValueError",.type "Exception",.type "BaseException",.type "object"]
structure yX (x:Str) (D fI:aj) (mg:Str->Option af) (h:Heap):Prop where
 bound:mg x=some (.ref D)
 obj:∃bm N nm q bs Yd sn sub ab col dd k0 k1 k2 k3 k5 mN,h.get? D=some (excClassObj nm q D N bs bm Yd sn sub ab col dd k0 k1 k2 k3 k5 "ValueError.__new__")/\h.Ns N mN/\mN "__init__"=some (.ref fI)/\OwnTail h Zy bm
 fn:∃o,h.get? fI=some o/\o.cls=.type "function"
theorem yX.keeps{x:Str}{D fI:aj}{mg:Str->Option af}{h h':Heap}(O:yX x D fI mg h)(k:∀b o,h.get? b=some o->h'.get? b=some o):yX x D fI mg h':=by
 obtain⟨bm,N,nm,q,bs,Yd,sn,sub,ab,col,dd,k0,k1,k2,k3,k5,mN,hC,hN,hi,T⟩:=O.obj;obtain⟨o,e1,e2⟩:=O.fn;exact⟨O.bound,⟨bm,N,nm,q,bs,Yd,sn,sub,ab,col,dd,k0,k1,k2,k3,k5,mN,k _ _ hC,hN.keeps k,hi,T.keeps k⟩,o,k _ _ e1,e2⟩
abbrev Dk(h:Heap)(D:aj)(us:List af):Heap:=(h.push {cls:=.type "tuple",data:=.seq us.toArray}).push {cls:=.ref D,data:=.fields #[.ref h.objs.size,.none,.none,.none,.bool false,.none]}
theorem pK{h:Heap}{D:aj}{us:List af}(b:aj)(o:Obj)(e:h.get? b=some o):(Dk h D us).get? b=some o:=ai _ (ai _ e)
theorem Dj{h:Heap}{D:aj}{us:List af}:(Dk h D us).get? (h.objs.size+1)=some {cls:=.ref D,data:=.fields #[.ref h.objs.size,.none,.none,.none,.bool false,.none]}:=by heap_get
section
variable {P:bo} {w:World} {A:bK} {E:af->ah->Prop} {x:Str} {D fI:aj} {mg:Str->Option af} {h:Heap} {g:Array GenState} {d:Drawn} {t:Nat} {os:OsState} {us:List af}
theorem Ms{Q:Fin->ah->Prop}(O:yX x D fI mg h)(hz:us.length<=sizeLine)(hq:wpAny (model P w) A (call (.ref fI) (.ref (h.objs.size+1)::us)) (λr s'=>r=.none/\Q (.done (.ret (.ref (h.objs.size+1)))) s') E ⟨Dk h D us,g,d,t,os⟩):
  wpAny (model P w) A (Builtin.«type.__call__» ⟨.ref D::us,[]⟩) Q E ⟨h,g,d,t,os⟩:=by
 have F:=excBase_ValueError;have O1:=O.keeps (h':=Dk h D us) pK;obtain⟨bm,_,_,_,_,_,_,_,_,_,_,_,_,_,_,_,_,at_,names,hi,T⟩:=O.obj;obtain⟨o,fn,fc⟩:=O1.fn;have VQ:=pK (D:=D) (us:=us) _ _ at_;have self:(Value.ref D::bm).contains (.ref D)=true:=by simp
 repeat (first|with_reducible refine wpAny_loadPart_at at_ ?_|with_reducible refine wpAny_madeBy_exc at_ ?_|wp_step)
 refine codeAny_call_builtin_code (mY _ F.quiet) (wpAny_check_new_subT F T at_ (codeAny_exc_new_subT F T at_ ?_ hz));show wpAny _ _ _ _ _ _;unfold isInstance
 repeat (first|with_reducible refine wpAny_loadPart_at Dj ?_|(with_reducible refine wpAny_isSubtype_exc VQ ?_;rw[self])|wp_step)
 show wpAny _ _ (typeLookup (.ref D) _) _ _ _;refine wpAny_typeLookup_tail VQ (names.keeps pK) (T.keeps pK) F.mroIs F.init.lookup ?_;rw[hi];refine cy (aa ?_);unfold bindSpecial;refine aa (wpAny_typeOf (T:="function") ⟨_,fn,fc⟩ ?_);rw[bg (by decide)];refine aq (aa (cF hq (λr s' z=> ?_) λ_ _ z=>z));obtain⟨rfl,q⟩:=z
 wp_walk
 exact q
theorem Oe{Q:af->ah->Prop}(O:yX x D fI mg h)(hz:us.length<=sizeLine)(hq:wpAny (model P w) (A.under (.builtin "type.__call__" ⟨.ref D::us,[]⟩)) (call (.ref fI) (.ref (h.objs.size+1)::us)) (λr s'=>r=.none/\Q (.ref (h.objs.size+1)) s') E ⟨Dk h D us,g,d,t,os⟩):
  wpAny (model P w) A (call (.ref D) us) Q E ⟨h,g,d,t,os⟩:=by
 have go:=Ms (A:=A.under (.builtin "type.__call__" ⟨.ref D::us,[]⟩)) (Q:=λf s'=>f=.done (.ret (.ref (h.objs.size+1)))/\Q (.ref (h.objs.size+1)) s') O hz (cF hq (λr s' z=>⟨z.1,rfl,z.2⟩) λ_ _ z=>z);obtain⟨bm,_,_,_,_,_,_,_,_,_,_,_,_,_,_,_,_,at_,_⟩:=O.obj;have f1:=tc_lookup;have f2:=tc_bind (.ref D);have ty:(⟨h,g,d,t,os⟩:ah).TypeIs (.ref D) "type":=⟨_,at_,rfl⟩
 refine gU (codeAny_of_tree ?_);show wpAny _ _ (callAny (.ref D) _) _ _ _
 repeat (any_goals (first|assumption|with_reducible refine wpAny_loadPart_at at_ ?_|wp_step))
 refine⟨U,codeAny_call_builtin_at (mY _ (by decide+kernel)) entry_typeCall (wpAny_check_type_call_sub at_ (cF go (λf s' z=> ?_) λ_ _ z=>z))⟩;obtain⟨rfl,q⟩:=z;exact q
end
def gone(H:Hp)(e:aj):Hp:=λb=>if b=e then none else H b
theorem EX{H:Hp}{e b:aj}(n:b≠e):gone H e b=H b:=aX n
theorem xU{H:Hp}{e:aj}:gone H e e=none:=bg rfl
theorem RZ{X:Cx}{pins:List (aj×Obj)}{σ:L2.St}{H:Hp}{s:ah}{e:aj}{f:Heap->Prop}(I:L2.Inv X pins σ H s)(h:H e=some (.ext f)):L2.Inv X pins σ (gone H e) s:=by
 have none_of:∀b,H b=none->gone H e b=none:=λb z=>by
  unfold gone
  split
  ·rfl
  ·exact z
 have same:∀b u,H b=some u->(∀g,u≠.ext g)->gone H e b=some u:=λb u z n=>by
  rw[EX (λy=>by rw[y,h] at z;injection z with z;exact n _ z.symm)]
  exact z
 refine⟨I.ok,I.os,I.bare,⟨I.base.keep,I.base.slot,λb o eb nb hb=>none_of b (I.base.free b o eb nb hb),I.base.there,λb xs z=>same b _ (I.base.mZ b xs z) (λ_ y=>nomatch y),λb o u z=>same b _ (I.base.oA b o u z) (λ_ y=>nomatch y),λb ps z=> ?_⟩,I.loc,I.cell,none_of _ I.free,λx c z=>none_of _ (I.eL x c z),λp hp=>let ⟨a,b,c⟩:=I.pin p hp;⟨a,none_of _ b,c⟩,λb u z=> ?_,I.len⟩
 ·obtain⟨m,y⟩:=I.base.rL b ps z;exact⟨m,same b _ y (λ_ y=>nomatch y)⟩
 ·have ne:b≠e:=λy=>by rw[y,xU] at z;cases z
  rw[EX ne] at z
  exact(I.dw b u z).vP (λ_ _ _ y=>y) (λc y=>same c _ y (λ_ y=>nomatch y)) λc xs y=>same c _ y (λ_ y=>nomatch y)
section
variable {P:bo} {w:World} {K:Frag} {mg:Str->Option af} {base:Heap} {N:List Str} {qual:Str} {scope:Scope} {f:aj} {dQ:af} {A:bK} {outer:List Env} {s₀:ah} {H₀:Hp} {E:XK}
theorem Ey{pins:List (aj×Obj)}{σ:L2.St}{H:Hp}{s:ah}{e D t:aj}{dk:Option aj}(I:L2.Inv (gp (yh P w) P w K mg base N qual scope f dQ A outer s₀ H₀ E) pins σ H s)
  (he:s.heap.get? e=some {cls:=.ref D,dict:=dk,data:=.fields #[.ref t,.none,.none,.none,.bool false,.none]})(hf:H e=none)(new:s₀.heap.get? e=none)(q:E (.ref D) dk H):(gp (yh P w) P w K mg base N qual scope f dQ A outer s₀ H₀ E).xe (.ref e) s:=by
 have neL:∀b o,s₀.heap.get? b=some o->b≠s₀.heap.objs.size:=λb o e=>bc (aW e);have nse:∀b o,s₀.heap.get? b=some o->b≠e:=λb o y z=>by rw[z,new] at y;cases y
 have nst:∀b o,s₀.heap.get? b=some o->b∉yV outer->b∉e::yV (gp (yh P w) P w K mg base N qual scope f dQ A outer s₀ H₀ E).stack:=λb o eb nb hb=>by
  rcases aJ.mp hb with z|hb
  ·exact nse b o eb z
  ·rcases aJ.mp (I.zU b hb) with z|z
   ·exact neL b o eb z
   ·exact nb z
 have hin:∀env∈(gp (yh P w) P w K mg base N qual scope f dQ A outer s₀ H₀ E).stack,∀a,env.frame=some a->a∈e::yV (gp (yh P w) P w K mg base N qual scope f dQ A outer s₀ H₀ E).stack:=λenv he a ha=>aF _ (kY.mpr ⟨env,he,ha⟩);have en:(hideAll s.heap (e::yV (gp (yh P w) P w K mg base N qual scope f dQ A outer s₀ H₀ E).stack)).get? e=none:=hideAll_none _ (.head _);have ff:=funFrames_hide I.stack hin;have st:(hideAll s.heap (e::yV (gp (yh P w) P w K mg base N qual scope f dQ A outer s₀ H₀ E).stack)).StaysIn s.heap:=λb o z=>of_hideAll _ z
 have ZcO:wpAny (model P w) (gp (yh P w) P w K mg base N qual scope f dQ A outer s₀ H₀ E).A (leaving (gp (yh P w) P w K mg base N qual scope f dQ A outer s₀ H₀ E).env (.ref e)) (λ_ s2=>∃h6,s2={s with heap:=h6}/\Heap.FlyingW (hideAll s.heap (e::yV (gp (yh P w) P w K mg base N qual scope f dQ A outer s₀ H₀ E).stack)) outer e (.ref D) (.ref t) h6/\s.heap.UpToSlots h6) (λ_ _=>False) s:=by
  unfold leaving;have note:wpAny (model P w) (gp (yh P w) P w K mg base N qual scope f dQ A outer s₀ H₀ E).A (noteFrame (.ref e) (gp (yh P w) P w K mg base N qual scope f dQ A outer s₀ H₀ E).env) (λ_ s2=>∃h4,s2={s with heap:=h4}/\Heap.HeldW (hideAll s.heap (e::yV (gp (yh P w) P w K mg base N qual scope f dQ A outer s₀ H₀ E).stack)) (gp (yh P w) P w K mg base N qual scope f dQ A outer s₀ H₀ E).stack e (.ref D) (.ref t) s₀.heap.objs.size h4/\s.heap.UpToSlots h4) (λ_ _=>False) s:=by
   unfold noteFrame;refine aa (wpAny_field (x:=.none) he U U ?_);rw[aX (show¬(Value.none !=Value.none)=true by decide)];exact wpAny_entryW (I.ok.frames) ff U he st en U (show 1<6 by decide) U λh4 ⟨x1,x2,x3,x4⟩=>⟨h4,U,⟨x1,en,x2,x3⟩,x4⟩
  refine aa (cF note (λ_ s2 z=> ?_) λ_ _ z=>z);obtain⟨h4,rfl,held,up4⟩:=z;refine wpAny_landsW held λh6 fl up6=> ?_;obtain⟨k1,k2,⟨_,_,k3⟩,k4⟩:=fl;exact⟨h6,U,⟨k1,k2,k3,k4⟩,up4.trans up6⟩
 refine cF (Kd.any (JY _ _) ZcO) (λ_ s4 z=> ?_) λ_ _ z=>z.1.elim;obtain⟨⟨h6,rfl,fl,ups⟩,dk6⟩:=z;obtain⟨ob6,e6,d6,f6⟩:=dk6 e _ he;refine⟨e,D,_,H,_,U,I.os,I.bare,fl,⟨λb o eb nb hb=>⟨hideAll_get _ (I.base.keep b o eb nb hb (by intro z;cases z)) (nst b o eb hb),I.base.free b o eb nb (by intro z;cases z)⟩,λb o eb nb hb=> ?_,λb o eb hb=> ?_,I.base.mZ,I.base.oA,I.base.rL⟩,
  λb u eb=>(I.dw b u eb).vP (λc v hc z=>hideAll_get _ z λhm=> ?_) (λ_ z=>z) (λ_ _ z=>z),dk,.none,⟨ob6,e6,d6,f6⟩,⟨[],rfl,λ_ z=>nomatch z⟩,q⟩
 ·obtain⟨sl,e1⟩:=I.base.slot b o eb nb hb (by intro z;cases z)
  obtain⟨_,o2,e2,hd⟩:=I.ok.uf.mem hb;have e2:s₀.heap.get? b=some o2:=e2;rw[eb] at e2
  cases e2;obtain⟨sl2,e3⟩:=ups b _ e1 hd;exact⟨⟨sl2,e3⟩,I.base.free b o eb nb (by intro z;cases z)⟩
 ·obtain⟨o',e1⟩:=I.base.there b o eb (by intro z;cases z)
  exact⟨o',hideAll_get _ e1 (nst b o eb hb)⟩
 ·have nn:H c=none:=by
   rcases aJ.mp hm with z|z
   ·rw[z];exact hf
   ·exact I.y6 c z
  rcases hc with rfl|hc
  ·rw[nn] at eb;cases eb
  ·rw[nn] at hc;cases hc
end
def XN(e D:aj)(d:Option aj):HO:=.ext λh=>∃t:aj,h.get? e=some {cls:=.ref D,dict:=d,data:=.fields #[.ref t,.none,.none,.none,.bool false,.none]}
theorem OK{P:bo}{w:World}{H:Hp}{h:Heap}{e D t:aj}{d:Option aj}(he:h.get? e=some {cls:=.ref D,dict:=d,data:=.fields #[.ref t,.none,.none,.none,.bool false,.none]}):fB P w H h e (XN e D d):=⟨⟨t,he⟩,⟨_,he⟩,λh1 h2 ⟨t,q⟩ z=>⟨t,z _ q⟩⟩
section
variable {P:bo} {w:World} {A:bK} {E:af->ah->Prop} {s:ah} {env:Env} {x:Str} {D fI:aj} {mg:Str->Option af}
theorem Gh{make:Sem af}{Q:Flow->ah->Prop}(free:A.handled=none)(h:wpAny (model P w) A make (λv s1=>∃e t dk,v=.ref e/\yX x D fI mg s1.heap/\s1.heap.get? e=some {cls:=.ref D,dict:=dk,data:=.fields #[.ref t,.none,.none,.none,.bool false,.none]}/\E (.ref e) s1) E s):wpAny (model P w) A (raiseStmt env (some make) none) Q E s:=by
 unfold raiseStmt;refine aa (eZ h λv s1 z=> ?_);obtain⟨e,t,dk,rfl,own,e0,q⟩:=z;obtain⟨bm,_,_,_,_,_,_,_,_,_,_,_,_,_,_,_,_,at_,_,_,above⟩:=own.obj;have exc:(Value.ref D::bm).contains (.type "BaseException")=true:=List.contains_iff_mem.mpr (aF _ (List.contains_iff_mem.mp (above.hasType excBase_ValueError.hasBase)));cases s1 with|mk h1 gs dr tk os=>
 dsimp only at e0 at_
 repeat (first|with_reducible refine wpAny_loadPart_at e0 ?_|with_reducible refine wpAny_loadPart_at at_ ?_|(with_reducible refine wpAny_isSubtype_exc at_ ?_;rw[exc])|wp_step)
 exact wpAny_raiseNew_none free q
end
section
variable {P:bo} {w:World} {K:Frag} {mg:Str->Option af} {base:Heap} {N:List Str} {qual:Str} {scope:Scope} {f:aj} {dQ:af} {A:bK} {outer:List Env} {s₀:ah} {H₀:Hp} {E:XK}
def K_(D:aj)(sp:Sp)(E:XK)(t:TA):TS:=λ_ σ H=>t σ H λvs H1=>vs.length<=sizeLine/\∀e,H1 e=none->sp (.ref e::vs) (upd H1 e (XN e D none)) (λv H2=>v=.fR/\∃dk,H2 e=some (XN e D dk)/\E (.ref D) dk (gone H2 e)) λ_ _ _=>False
theorem MR{X:Cx}(eX:X=gp (yh P w) P w K mg base N qual scope f dQ A outer s₀ H₀ E){D fI:aj}{fd:bC}{k:Nat}{ps:List Str}{sp:Sp}{x:Str}{np gf pos:Pos}{e:PySem.Expr}{es:List PySem.Expr}{t:TA}
  (O:yX x D fI mg base)(F:dJ P w K mg base c8 k fI fd ps sp)(hb:Binds K fd ps [])(hr:gF (k+1) X.A)(hc:X.calm=true)(hg:Gl X x)(ha:PA X (e::es) t)
  (u7:(x==("__debug__":Str))=false:=by decide)(hs:starEach (e::es) X.env=(false,eval e X.env)::starEach es X.env:=by rfl)(Bd:(backTo gf (starEach es X.env)).any (·.1)=false:=by rfl):PS X (.Raise (some (.Call (.Name x np) (e::es) [] gf)) none pos) (K_ D sp E t):=by
 intro pins s σ H D' I h;have pl:(backTo gf (starEach (e::es) X.env)).any (·.1)=false:=by rw[hs];exact Bd
 have go:=ha gf pins s σ H _ I h;rw[hs] at go pl
 subst eX;rw[arm_exec_Raise];refine aa (rl (Gh (x:=x) (D:=D) (fI:=fI) (mg:=mg) (I.ok.hd hc) ?_));refine aa (eZ (wpAny_Call_ofName (jw I hg O.bound ?_ u7)) λv s3 z=>aa (rl (aq z)));unfold callWith;rw[hs];refine aa (cy (kJ (eZ go λus s1 z=> ?_)));obtain⟨vs,H1,I1,r1,hz,q1⟩:=z;have own:=O.keeps I1.bk;obtain⟨bm,_,_,_,_,_,_,_,_,_,_,_,_,_,_,_,_,at_,_⟩:=own.obj;simp only [pl];have fresh:=I1.dw.fresh (ir s1.heap.objs.size)
 have I2:L2.Inv (gp (yh P w) P w K mg base N qual scope f dQ A outer s₀ H₀ E) pins σ (upd H1 (s1.heap.objs.size+1) (XN (s1.heap.objs.size+1) D none)) {s1 with heap:=Dk s1.heap D us,toks:=s1.toks}:=Inv.laid I1 pK (ir _) (OK Dj);have q2:=q1 (s1.heap.objs.size+1) fresh;have r2:Vals (V.ref (s1.heap.objs.size+1)::vs) (Value.ref (s1.heap.objs.size+1)::us):=.cons rfl r1;have hl:(Value.ref (s1.heap.objs.size+1)::us).length=ps.length:=by
  have e:=r2.length;rw[F.len _ _ _ _ q2] at e
  exact e.symm
 have bd:=hb _ (Value.ref (s1.heap.objs.size+1)::us) I2.q5 (by rw[cE];exact hl)
 rw[cE] at bd
 have zu:us.length<=sizeLine:=r1.length▸hz;refine aa (rl (aa (wpAny_keeperOf_exc at_ (aa (Oe own zu ?_)))));refine gU (gA (F.run _ (gp (yh P w) P w K mg base N qual scope f dQ A outer s₀ H₀ E).stack _ _ ⟨Value.ref (s1.heap.objs.size+1)::us,[]⟩ (Value.ref (s1.heap.objs.size+1)::us) _ _ _ (hr.make D us []) (I2.NV.make D us []) bd r2 q2) λr s4 z=> ?_);cases r with
 |error ev=>exact z.elim
 |ok fl=>
  cases fl with
  |ret u=>
   obtain⟨v,H3,I3,rv,ev,dk,hx,qx⟩:=I2.after z;subst ev;refine⟨rv,aa (cy (wpAny_point (aq ?_)))⟩;obtain⟨⟨t,e1⟩,_⟩:=I3.dw _ _ hx;refine⟨_,t,dk,U,O.keeps I3.bk,e1, ?_⟩;refine Ey (RZ I3 hx) e1 xU ?_ qx;cases y:s₀.heap.get? (s1.heap.objs.size+1) with
   |none=>rfl
   |some o=>
    obtain⟨o',y2⟩:=I1.base.there _ o y (by intro z;cases z)
    exact absurd (aW y2) (xc.mpr (ir _))
  |next=>exact False.elim z
  |brk=>exact False.elim z
  |cont=>exact False.elim z
end
section
variable {P:bo} {w:World} {A:bK} {E:af->ah->Prop} {s:ah} {K:Frag} {x D t:aj} {name:Str} {v:af}
def FE(K:Frag)(D:aj):Prop:=∃cd B,clsIn K D=some cd/\cd.mro=[.ref D,.ref B,.type "ValueError",.type "Exception",.type "BaseException",.type "object"]
theorem Zaj{ox:Obj}{od:Option Obj}{tk:Tok}{R:Result->ah->Prop}(X:K.In s.heap)(I:InstAt s.heap x ox D od)(O:FE K D)(no:findIn K (.ref D) name=some none)
  (h:wpAny (model P w) A.in1 (Builtin.ObjectAttr.storeInOwnDict (.ref x) (.ref D) (.str name tk) name v false)
   (λf s'=>match f with| .done r=>R (.ok r) s'| .again c=>c.quiet=true/\codeAny (model P w) A c R s') (λe s'=>R (.error e) s') s):
  codeAny (model P w) A (.call (.builtin "object.__setattr__") ⟨[.ref x,.str name tk,v],[]⟩) R s:=by
 obtain⟨cd,B,hc,hm⟩:=O;have isO:mroIn K D (.type "object")=some true:=by
  unfold mroIn;rw[hc,Option.bind_some,hm];simp
 have V:=PySem.F.store_ValueError;have mr:Looks (model P w) s.heap (mroOf (.ref D)) cd.mro:=Looks.andThen (looks_clsIn X hc) .now;have tp:=I.type (M:=model P w);refine fH V.slot.plain V.entry (check_slot (i:="object.__setattr__") (owner:="object") (n:="__setattr__") (self:=.ref x) (rest:=[.str name tk,v]) (kw:=[]) V.kind V.split (tp.andThen (looks_mroIn X isO)) (V.args (.ref x) (.str name tk) v) ?_)
 rw[osa_eq,refuse_eq];refine aa (aa (tp.here (aa (mr.here ?_))));rw[hm,refuseLoop_ref,refuseLoop_ref,V.passes];have lk:=looks_findIn (M:=model P w) X no;refine aq (aa (tp.here (aa (lk.here (aa (aq ?_))))));exact h
theorem MH{Q:Unit->ah->Prop}(X:K.In s.heap)(he:s.heap.get? x=some {cls:=.ref D,data:=.fields #[.ref t,.none,.none,.none,.bool false,.none]})
  (hs:findIn K (.ref D) "__setattr__"=some (some (.builtin "object.__setattr__")))(hp:FE K D)(ht:findIn K (.ref D) name=some none)(hh:hasDictIn K D=true)
  (h:∀h',h'.Ns1 s.heap.objs.size (λy=>if y=name then some v else none)->Heap.SameBut s.heap.objs.size ((s.heap.push {cls:=.type "dict",data:=.dict #[]}).update x λo=>{o with dict:=some s.heap.objs.size}) h'->Q () {s with heap:=h',toks:=s.toks+2}):
  wpAny (model P w) A (setAttr (.ref x) name v) Q E s:=by
 have J:InstAt s.heap x {cls:=.ref D,data:=.fields #[.ref t,.none,.none,.none,.bool false,.none]} D none:=⟨he,rfl,rfl,trivial⟩
 refine set_plain X J hs (Zaj (s:={s with toks:=s.toks+1}) X J hp ht ?_);obtain⟨cd,hc,Ye⟩:=any_some hh;refine aa (aq (aa (aa (wpAny_loadPart he (aa (Looks.here (s:={s with toks:=s.toks+1}) (looks_clsIn X hc) ?_))))));rw[Ye];rw[aX (by decide)];refine aa (wpAny_alloc ?_);have he1:(s.heap.push {cls:=.type "dict",data:=.dict #[]}).get? x=some {cls:=.ref D,data:=.fields #[.ref t,.none,.none,.none,.bool false,.none]}:=ai _ he
 have nx:x≠s.heap.objs.size:=bc (aW he);have hd1:(s.heap.push {cls:=.type "dict",data:=.dict #[]}).get? s.heap.objs.size=some {cls:=.type "dict",data:=.dict #[]}:=Heap.get?_push_at rfl rfl;refine aa (wpAny_update he1 (aa (aq (aq ?_))));refine aa (aq (aa ?_));have ns:((s.heap.push {cls:=.type "dict",data:=.dict #[]}).update x λo=>{o with dict:=some s.heap.objs.size}).Ns1 s.heap.objs.size (λ_=>none):=(OG ⟨_, #[],_,hd1,rfl,(λe he=>absurd he (by simp)),λ_=>rfl⟩).at λo q=>(eW _ _ nx).trans q
 refine wpAny_nsSet1 ns λh' hn2 X0=> ?_;obtain⟨oD,esD,epD,hoD,hdD,hcD⟩:=hn2.count (PySem.Within.cons name v (ns:=[]) λy hy=>absurd rfl hy);refine aa (wpAny_lookBehind hoD (by rw[hdD];exact pastItsLine_dict (bD hcD (by show 1<=_;decide+kernel))) ?_)
 exact aq (h _ hn2 X0)
end
section
variable {X:Cx} {pins:List (aj×Obj)} {σ:L2.St} {H:Hp} {s:ah}
structure Yy (K:Frag) (D:aj) (f:Str):Prop where
 sa:findIn K (.ref D) "__setattr__"=some (some (.builtin "object.__setattr__"))
 po:FE K D
 tk:findIn K (.ref D) f=some none
 hd:hasDictIn K D=true
theorem SR{A:bK}{E:af->ah->Prop}{e D:aj}{f:Str}{y:V}{u:af}{Q:Unit->ah->Prop}(I:L2.Inv X pins σ H s)(he:H e=some (XN e D none))(Z:Yy X.K D f)(ry:RelV y u)
  (h:∀d s',H d=none->d≠e->L2.Inv X pins σ (upd (upd H d (XD d f y)) e (XN e D (some d))) s'->Q () s'):wpAny (model X.prog X.w) A (setAttr (.ref e) f u) Q E s:=by
 obtain⟨⟨t,e0⟩,_⟩:=I.dw e _ he;refine MH I.q5 e0 Z.sa Z.po Z.tk Z.hd λh' ns sb=>h s.heap.objs.size _ (I.dw.fresh (aE _)) (jR (aW e0)) ?_;obtain⟨od,o1,o2⟩:=CI ns;have fr:od.isFreed=false:=(Heap.get?_some_iff.mp o1).2;have g1:(s.heap.push od).get? s.heap.objs.size=some od:=aM s.heap fr;have lk:lookIn f od=some (some u):=(o2 f).trans (dc some (bg rfl));have ne:e≠s.heap.objs.size:=bc (aW e0);have I1:=I.laid (a:=s.heap.objs.size) (o:=XD s.heap.objs.size f y) (h':=s.heap.push od) (t':=s.toks) (λb u q=>ai _ q) (aE _) ⟨⟨od,u,g1,lk,ry⟩,⟨_,g1⟩,λh1 h2 ⟨a,b,c,d⟩ z=>⟨a,b,z _ c,d⟩⟩
 have e1:h'.get? e=some {cls:=.ref D,dict:=some s.heap.objs.size,data:=.fields #[.ref t,.none,.none,.none,.bool false,.none]}:=(sb.2 e ne).trans (f_ _ (ai _ e0) rfl);refine I1.write (x:=e) (e:=e) (by rw[aY ne,he];exact True.intro) (.inl U) (λb v nb q=> ?_) ⟨_,e1⟩ (OK e1)
 by_cases z:b=s.heap.objs.size
 ·subst z;have q:(s.heap.push od).get? s.heap.objs.size=some v:=q;rw[g1] at q
  cases q;exact o1
 ·have q:(s.heap.push od).get? b=some v:=q;refine(sb.2 b z).trans ((eW _ _ (cY nb)).trans (ai _ ?_))
  rwa [Heap.get?_push_ne _ _ _ z] at q
def ZF(K:Frag)(ta tv:TE)(f:Str):TS:=λDd σ H=>tv σ H λy H1=>ta σ H1 λx H2=>∃e D,x=.ref e/\H2 e=some (XN e D none)/\Yy K D f/\∀d,H2 d=none->d≠e->Dd.nx σ (upd (upd H2 d (XD d f y)) e (XN e D (some d)))
theorem Li{o value:PySem.Expr}{ta tv:TE}{f:Str}{pos pos':Pos}(ha:PE X o ta)(hv:PE X value tv)(hs:swapsWith value (some (.Attribute o f pos')) pos.line X.env=pure false):PS X (.Assign [.Attribute o f pos'] value pos) (ZF X.K ta tv f):=by
 intro pins s σ H Dd I h;refine plainObj_wpAny_Assign_Attribute (eZ (hv pins s σ H _ I h) λu s1 ⟨y,H1,I1,ry,q⟩=>eZ (ha pins s1 σ H1 _ I1 q) λov s2 ⟨x,H2,I2,rx,a,D,ex,ea,Z,q2⟩=> ?_) hs;subst ex;obtain rfl:ov=Value.ref a:=rx;exact SR I2 ea Z ry λd s3 fd nd I3=>⟨σ,_,I3,q2 d fd nd⟩
def MD(base:Heap)(mg:Str->Option af)(t:TA):TE:=λσ H Q=>t σ H λvs H1=>∃e D y x fI,vs=[.ref e,.str y]/\H1 e=some (XN e D none)/\yX x D fI mg base/\Q .fR H1
theorem yp{cn:Str}{C:aj}{np apos pos:Pos}{a0 a1:PySem.Expr}{t:TA}{pl:Sem Bool}(hg:Gl X cn)(hm:X.mg cn=some (.ref C))(hr:readsIn X.K C (.type "type")=true)(hga:specialIn X.K (.ref C) "__getattribute__"=some (some (.builtin "type.__getattribute__")))
  (hf:findCls X.K (.ref C) (.type "type") "__init__"=some (.val (.builtin "ValueError.__init__")))(ha:PA X [a0,a1] t)(u7:(cn==("__debug__":Str))=false:=by decide)
  (XZ:starEach [a0,a1] X.env=[(false,eval a0 X.env),(false,eval a1 X.env)]:=by rfl)
  (ht:eval (.Call (.Attribute (.Name cn np) "__init__" apos) [a0,a1] [] pos) X.env=(do
   let ov<-eval (.Name cn np) X.env
   standAt apos.atName
   let (f,first)<-holding [ov] (getMethod ov "__init__" pl)
   callWith pos f first (backTo pos (starEach [a0,a1] X.env)) (backToKw pos (keywordEach [] X.env))):=by rfl):
  PE X (.Call (.Attribute (.Name cn np) "__init__" apos) [a0,a1] [] pos) (MD X.base X.mg t):=by
 intro pins s σ H Q I h;refine methodCall_KW (pl:=pl) (jw I hg hm ?_ u7) ht;refine method_cls I.q5 hga (cls_value I.q5 hr hf U ?_);have I1:=I.tok (s.toks+1);have go:=ha pos pins _ σ H _ I1 h;rw[XZ] at go⊢
 refine eY U (kJ (eZ go λus s1 z=> ?_));obtain⟨vs,H1,I2,r1,e,D,y,x,fI,rfl,he,O,q⟩:=z;obtain⟨u1,u2,rfl,ru1,ru2⟩:=vals2 r1;obtain rfl:u1=Value.ref e:=ru1;obtain⟨t2,rfl⟩:=ru2;obtain⟨⟨t,e0⟩,_⟩:=I2.dw e _ he;have own:=O.keeps I2.bk;obtain⟨bm,_,_,_,_,_,_,_,_,_,_,_,_,_,_,_,_,at_,_,_,T⟩:=own.obj;have F:=excBase_ValueError;cases s1 with|mk h1 gs dr tk os=>
 dsimp only at e0 at_ T
 refine gU (fH F.init.plain F.initEntry (wpAny_check_init_subT F T at_ e0 U ?_))
 wp_walk
 have K1:=I2.kept (h':=h1.push {cls:=.type "tuple",data:=.seq #[.str y t2]}) (t':=tk) λb u q=>ai _ q;have e1:=f_ (Obj.mapFields λx=>x.setIfInBounds 0 (Value.ref h1.objs.size)) (ai {cls:=.type "tuple",data:=.seq #[.str y t2]} e0) rfl;have K2:=K1.write (x:=e) (e:=e) (o:=XN e D none) (h':=(h1.push {cls:=.type "tuple",data:=.seq #[.str y t2]}).update e (Obj.mapFields λx=>x.setIfInBounds 0 (Value.ref h1.objs.size))) (t':=tk) (by rw[he];exact True.intro) (.inl U) (λb v nb q=>(eW _ _ (cY nb)).trans q) ⟨_,e1⟩ (OK e1)
 have same:upd H1 e (XN e D none)=H1:=by
  funext b
  by_cases z:b=e
  ·rw[z,ay,he]
  ·rw[aY z]
 rw[same] at K2
 exact⟨.fR,H1,K2,U,q⟩
end
structure Zba (k:Nat) (A:bK):Prop where
 dp:A.depth+3*k+5<recursionLimit
 un:A.units+16*k+200<cLine
structure FnH (P:bo) (w:World) (K:Frag) (mg:Str->Option af) (base:Heap) (k:Nat) (f:aj) (fd:bC) (ps:List Str) (sp:Sp):Prop where
 len:∀vs H Q E,sp vs H Q E->vs.length=ps.length
 run:∀(A:bK) (c:af) (outer:List Env) (s:ah) (H:Hp) (us:List af) (vs:List V) (Q:VK) (E:XK),A.handled=some c->Zba k A->Bb P w K mg base A outer s H->BindsTo s fd ⟨us,[]⟩ (ps.zip us)->Vals vs us->sp vs H Q E->codeAny (model P w) A (.call (.ref f) ⟨us,[]⟩) (CR c8 outer P w H s Q E) s
theorem okH{P:bo}{w:World}{K:Frag}{mg:Str->Option af}{base:Heap}{x qual:Str}{st:Stmt}{f:aj}{fd:bC}{N ps:List Str}{k:Nat}{sp:Sp}(F:je K x qual st f fd)(S:b_ N ps (bG st))(len:∀vs H Q E,sp vs H Q E->vs.length=ps.length)
  (body:∀(dQ c:af) (A:bK) (outer:List Env) (s:ah) (H:Hp) (vs:List V) (Q:VK) (E:XK),sp vs H Q E->
   ∃t,Fz (sy (gp c8 P w K mg base N qual (bG st) f dQ A outer s H E) c λ_ _=>False) (lT st) t/\t {nx:=λ_ H'=>Q .fR H',rt:=Q} (start N vs) H):FnH P w K mg base (k+1) f fd ps sp:=by
 obtain⟨oc,od,kV,doc,pm,an,dQ,ct,Ov,rfl,lk,LP⟩:=F.ex;refine⟨len,λA c outer s H us vs Q E hh hr e0 hb r q=> ?_⟩;have old:=λb o e=>(e0.bs b o e).1;refine Att.UU (e0.mod.Vz.keeps old) (e0.mod.nolimit.keeps old) lk LP (by have:=hr.dp;omega) hb (List.all_eq_true.mpr λy hy=> ?_) (λs1 x=> ?_) S.co S.gen S.kind
 ·rcases S.par y.1 (jh (b:=y.2) hy).1 with z|z<;>rw[z]<;>rfl
 ·obtain⟨t,go,q1⟩:=body dQ c {A with handled:=none} outer s H vs Q E q;have J:=EV (e:=c) (E:=λ_ _=>False) (CT (CX:=c8) (A:={A with handled:=none}) (E:=E) S rfl ⟨e0.frames,e0.mod,e0.bs,e0.OD,e0.uf,e0.Sm,e0.dw,e0.bare⟩ (len _ _ _ _ q) r x);have eA:∀env,(Around.deeper {A with handled:=none} env).mark (some c)=A.deeper env:=λenv=>by
   cases A;cases hh
   rfl
  have go:=go [] s1 _ H _ J q1;rw[show(sy (gp c8 P w K mg base N qual (bG st) f dQ {A with handled:=none} outer s H E) c λ_ _=>False).A=A.deeper (envOfC qual (bG st) s.heap.objs.size f dQ) from eA _] at go
  refine cF go (λfl s2 z=> ?_) λ_ _ z=>z.elim;cases fl with
  |next=>obtain⟨_,H2,J2,q2⟩:=z;exact⟨.fR,H2,J2.os,J2.bare,J2.base,J2.dw,U,q2⟩
  |ret u=>obtain⟨v,_,H2,J2,rv,q2⟩:=z;exact⟨v,H2,J2.os,J2.bare,J2.base,J2.dw,rv,q2⟩
  |brk=>obtain⟨_,_,_,q2⟩:=z;exact q2.elim
  |cont=>obtain⟨_,_,_,q2⟩:=z;exact q2.elim
section
variable {P:bo} {w:World} {K:Frag} {mg:Str->Option af} {base:Heap} {N:List Str} {qual:Str} {scope:Scope} {f:aj} {dQ:af} {A:bK} {outer:List Env} {s₀:ah} {H₀:Hp} {E:XK}
end
section
variable {P:bo} {w:World}
end
section
variable {P:bo} {w:World} {K:Frag} {mg:Str->Option af} {base:Heap} {N:List Str} {qual:Str} {scope:Scope} {f:aj} {dQ:af} {A:bK} {outer:List Env} {s₀:ah} {H₀:Hp} {E:XK}
end
section
variable {X:Cx}
theorem uA:iH X (.builtin "isinstance") (λxs H Q=>∃e D d f y0 y c b,xs=[.ref e,y]/\H e=some (XO e D (some d))/\H d=some (XD d f y0)/\jA X.K D/\OR y=some c/\kitOne X.K (.ref D) c=some b/\Q (.bl b) H):=by
 intro pins s σ H xs us Q I r h;obtain⟨e,D,d,f,y0,y,c,b,rfl,he,hd,Z,hy,hb,q⟩:=h;obtain⟨u,u2,rfl,rx,ry⟩:=vals2 r;cases rx;obtain rfl:u2=c:=by
  cases y with
  |ty n=>cases hy;exact ry
  |ref a=>cases hy;exact ry
  |_=>cases hy
 obtain⟨ox,od,_,J,_⟩:=zK I he hd;exact kia_one (GR Z) I.q5 ⟨ox,_,J⟩ hb (λz=>nomatch z) λtk=>⟨.bl b,H,I.tok _,U,q⟩
theorem AU:iH X (.builtin "isinstance") (λxs H Q=>∃e D d f y0 p ys cs b,xs=[.ref e,.ref p]/\H e=some (XO e D (some d))/\H d=some (XD d f y0)/\jA X.K D/\H p=some (.tup ys)/\OS ys=some cs/\kitAny X.K (.ref D) cs=some b/\Q (.bl b) H):=by
 intro pins s σ H xs us Q I r h;obtain⟨e,D,d,f,y0,p,ys,cs,b,rfl,he,hd,Z,hp,hy,hb,q⟩:=h;obtain⟨u,u2,rfl,rx,ry⟩:=vals2 r;cases rx;cases ry;obtain⟨_,its,rv,⟨c,dd,da,sl⟩,e1,e2,n,e3⟩:=I.dw p _ hp;obtain rfl:=zQ rv hy;cases e2;cases e3;obtain⟨ox,od,_,J,_⟩:=zK I he hd;exact kia_tup (GR Z) I.q5 ⟨ox,_,J⟩ e1 hb (λz=>nomatch z) λtk=>⟨.bl b,H,I.tok _,U,q⟩
end
structure YA (P:bo) (w:World) (K:Frag) (mg:Str->Option af) (base:Heap) (k:Nat) (x:Str) (D:aj) (ps:List Str) (sp:Sp):Prop where
 ex:∃(fI:aj) (fd:bC),yX x D fI mg base/\dJ P w K mg base c8 k fI fd ps sp/\FnH P w K mg base k fI fd ps sp/\Binds K fd ps []
theorem Lo{P:bo}{w:World}{X:Cx}:Passes (yh P w) X λ_ _ _=>False:=λ_ _ _ _ _ _ _ ⟨_,_,_,_,_,_,_,_,_,_,_,_,_,_,_,q⟩=>q.elim
section
variable {P:bo} {w:World} {K:Frag} {mg:Str->Option af} {base:Heap} {N:List Str} {qual:Str} {scope:Scope} {f:aj} {dQ:af} {A:bK} {outer:List Env} {s₀:ah} {H₀:Hp} {E:XK}
theorem MS{X:Cx}(eX:X=gp (yh P w) P w K mg base N qual scope f dQ A outer s₀ H₀ E){D:aj}{k:Nat}{ps:List Str}{sp:Sp}{x:Str}{np gf pos:Pos}{e:PySem.Expr}{es:List PySem.Expr}{t:TA}(c:YA P w K mg base k x D ps sp)(hr:gF (k+1) X.A)(hc:X.calm=true)(hg:Gl X x)(ha:PA X (e::es) t)
  (u7:(x==("__debug__":Str))=false:=by decide)(hs:starEach (e::es) X.env=(false,eval e X.env)::starEach es X.env:=by rfl)(Bd:(backTo gf (starEach es X.env)).any (·.1)=false:=by rfl):PS X (.Raise (some (.Call (.Name x np) (e::es) [] gf)) none pos) (K_ D sp E t):=by
 obtain⟨fI,fd,O,F,_,B⟩:=c.ex;exact MR eX O F B hr hc hg ha u7 hs Bd
end
theorem Xj{K:Frag}{h:Heap}{N:aj}{m:Str->Option af}{x:Str}{v:af}(X:K.In h)(G:h.Ns N m)(e:nsIn K N x=some (some v)):m x=some v:=by
 obtain⟨o,es,ep,there,data,_,all⟩:=G;cases l:K.lookup N with
 |none=>simp only [nsIn,l] at e;cases e
 |some ob=>
  obtain rfl:ob=o:=bR ((X _ _ l).symm.trans there);obtain⟨c,d,da,sl⟩:=ob;cases data;simp only [nsIn,l] at e
  cases w:es.toList.find? (·.key.isStr x) with
  |none=>rw[w] at e;revert e;dsimp only;split<;>(intro e;cases e)
  |some en=>
   rw[w] at e
   cases e;rw[<-all];unfold nsFind findBy;rw[<-Array.find?_toList,w]
   rfl
section
variable {X:Cx}
end
section
variable {prog:bo} {w:World} {B:bK} {R:Result->ah->Prop} {it S:aj} {key:af} {kw:List (Str×af)} {c:Nat} {s:ah}
abbrev wA(it S:aj)(key:af)(kw:List (Str×af)):Code:=.builtin "min.loop" ⟨[.ref it,key,.ref S],kw⟩
def keyOf(key v:af)(LN:af->Sem af):Sem af:=match key with
 | .none=>pure v
 |_=>tryCatch (holding [v] (call key [v])) LN
theorem GU{jp:af->Sem PySem.Fin}{v:af}{LN:af->Sem af}{Q:PySem.Fin->ah->Prop}{E:af->ah->Prop}(h:wpAny (model prog w) B (keyOf key v LN) (λkv s2=>wpAny (model prog w) B (jp kv) Q E s2) E s):
  wpAny (model prog w) B (match key with| .none=>pure v>>=jp|_=>tryCatch (holding [v] (call key [v])) LN>>=jp) Q E s:=by
 cases key<;>exact aa h
theorem zh{P:PySem.Fin->ah->Prop}(hP:∀f s',P f s'->match f with| .done x=>R (.ok x) s'| .again c'=>c'.quiet=true/\codeAny (model prog w) B c' R s')
  (h:wpAny (model prog w) B.in1 (Builtin.«min.loop» ⟨[.ref it,key,.ref S],kw⟩) P (λe s'=>R (.error e) s') s):codeAny (model prog w) B (wA it S key kw) R s:=
 cW F.entry_min_loop (by
  rw[cP (A:=B) Sv ⟨[Value.ref it,key,.ref S],kw⟩];exact cF h (λf s' z=>hP f s' z) λ_ _ z=>z)
abbrev VU(prog:bo)(w:World)(B:bK)(s:ah)(it:aj)(Kp:Heap->Prop):Prop:=∀(Q:Option af->ah->Prop) (E:af->ah->Prop),(∀h' tk,Kp h'->Q none {s with heap:=h',toks:=tk})->wpAny (model prog w) B.in1 (pyNext (.ref it)) Q E s
abbrev VT(prog:bo)(w:World)(B:bK)(s:ah)(it:aj)(Kv:af->Heap->Prop):Prop:=∀(Q:Option af->ah->Prop) (E:af->ah->Prop),(∀v h' tk,Kv v h'->Q (some v) {s with heap:=h',toks:=tk})->wpAny (model prog w) B.in1 (pyNext (.ref it)) Q E s
theorem Xs{Kp:Heap->Prop}{ub uk:af}(hS:s.heap.get? S=some (seqObj "list" #[ub,uk] c))(hn:VU prog w B s it Kp)
  (kp:∀h',Kp h'->h'.get? S=some (seqObj "list" #[ub,uk] c))(q:∀h' tk,Kp h'->R (.ok (.ret ub)) {s with heap:=h'.update S (Obj.mapSeq λ_=> #[]),toks:=tk}):codeAny (model prog w) B (wA it S key kw) R s:=by
 refine zh (P:=λf s'=>match f with| .done x=>R (.ok x) s'| .again _=>False) (λf s' z=>by cases f with|done x=>exact z|again _=>exact z.elim) ?_;refine aa (m:=seqItems? (.ref S)) (wpAny_seqItems hS U (aa (m:=tryCatch (pyNext (.ref it)) _) (oR (hn _ _ λh' tk k=> ?_))));exact aa (m:=updateSeq S λ_=> #[]) (wpAny_updateSeq (kp h' k) U (aa (rn (aq (q h' tk k)))))
theorem TX{Kp:Heap->Prop}{n:Str}{d:af}(hS:s.heap.get? S=some (seqObj "list" #[] c))(hn:VU prog w B s it Kp)(q:∀h' tk,Kp h'->R (.ok (.ret d)) {s with heap:=h',toks:=tk}):codeAny (model prog w) B (wA it S key [(n,d)]) R s:=by
 refine zh (P:=λf s'=>match f with| .done x=>R (.ok x) s'| .again _=>False) (λf s' z=>by cases f with|done x=>exact z|again _=>exact z.elim) ?_;refine aa (m:=seqItems? (.ref S)) (wpAny_seqItems hS U (aa (m:=tryCatch (pyNext (.ref it)) _) (oR (hn _ _ λh' tk k=> ?_))));exact aa (m:=rule _) (rh (aq (q h' tk k)))
theorem TY{Kv:af->Heap->Prop}{G:af->af->ah->Prop}{ub uk:af}(hS:s.heap.get? S=some (seqObj "list" #[ub,uk] c))(hn:VT prog w B s it Kv)
  (hc:∀LN v h' tk,Kv v h'->wpAny (model prog w) B.in1 (keyOf key v LN) (G v) (λ_ _=>False) {s with heap:=h',toks:=tk})
  (q:∀v kv s2,G v kv s2->∃k,vo prog w B.in1 s2 .Lt kv uk k/\s2.heap.get? S=some (seqObj "list" #[ub,uk] c)/\
   (k=true->codeAny (model prog w) B (wA it S key kw) R {s2 with heap:=s2.heap.update S (Obj.mapSeq λ_=> #[v,kv])})/\(k=false->codeAny (model prog w) B (wA it S key kw) R s2)):
  codeAny (model prog w) B (wA it S key kw) R s:=by
 refine zh (P:=λf s'=>f=.again (wA it S key kw)/\codeAny (model prog w) B (wA it S key kw) R s') (λf s' z=>by rw[z.1];exact⟨de Sv _,z.2⟩) ?_
 refine aa (m:=seqItems? (.ref S)) (wpAny_seqItems hS U (aa (m:=tryCatch (pyNext (.ref it)) _) (oR (hn _ _ λv h' tk k=> ?_))));refine GU (cF (hc _ v h' tk k) (λkv s2 g=> ?_) λ_ _ z=>z.elim);obtain⟨b,rc,gS,yes,no⟩:=q v kv s2 g;refine aa (m:=tryCatch (holding [v,kv] (richCompare .Lt kv uk>>=_)) _) (oR (cy (aa (rc _ _ (aa (cy (dX (aa (rn (aq ?_))))))))));cases b with
 |true=>exact cL (λ_=>aa (wpAny_updateSeq gS U (aa (rn (aq ⟨U,yes U⟩))))) (λz=>absurd U z)
 |false=>exact cL (λz=>nomatch z) (λ_=>aa (rn (aq ⟨U,no U⟩)))
theorem Qj{Kv:af->Heap->Prop}{G:af->af->ah->Prop}(hS:s.heap.get? S=some (seqObj "list" #[] c))(hn:VT prog w B s it Kv)
  (hc:∀LN v h' tk,Kv v h'->wpAny (model prog w) B.in1 (keyOf key v LN) (G v) (λ_ _=>False) {s with heap:=h',toks:=tk})
  (q:∀v kv s2,G v kv s2->s2.heap.get? S=some (seqObj "list" #[] c)/\codeAny (model prog w) B (wA it S key kw) R {s2 with heap:=s2.heap.update S (Obj.mapSeq λ_=> #[v,kv])}):
  codeAny (model prog w) B (wA it S key kw) R s:=by
 refine zh (P:=λf s'=>f=.again (wA it S key kw)/\codeAny (model prog w) B (wA it S key kw) R s') (λf s' z=>by rw[z.1];exact⟨de Sv _,z.2⟩) ?_
 refine aa (m:=seqItems? (.ref S)) (wpAny_seqItems hS U (aa (m:=tryCatch (pyNext (.ref it)) _) (oR (hn _ _ λv h' tk k=> ?_))));refine GU (cF (hc _ v h' tk k) (λkv s2 g=> ?_) λ_ _ z=>z.elim);obtain⟨gS,yes⟩:=q v kv s2 g;exact aa (m:=updateSeq S λ_=> #[v,kv]) (wpAny_updateSeq gS U (aq ⟨U,yes⟩))
end
section
variable {X:Cx} {pins:List (aj×Obj)} {σ:L2.St} {H:Hp} {s:ah}
def VW(X:Cx){α:Type}(lt:α->α->Bool)(R:Hp->α->V->Prop):Prop:=∀{A:bK} {pins:List (aj×Obj)} {σ:L2.St} {H:Hp} {s:ah} {x y:α} {a b:V} {u v:af},L2.Inv X pins σ H s->R H x a->R H y b->RelV a u->RelV b v->A.units+10<cLine->vo X.prog X.w A s .Lt u v (lt x y)
abbrev KS:=V->Hp->VK->Prop
def Keyed(X:Cx)(key:af)(ks:KS):Prop:=∀{pins:List (aj×Obj)} {σ:L2.St} {H:Hp} {s:ah} {x:V} {v:af} {C:VK} (LN:af->Sem af),L2.Inv X pins σ H s->RelV x v->ks x H C->wpAny (model X.prog X.w) X.A.in1 (keyOf key v LN) (EP X pins σ C) (λ_ _=>False) s
def Ow(K:au){α:Type}(ks:KS)(lt:α->α->Bool)(R:Hp->α->V->Prop)(l:aj)(xs:List V):List V->V->V->Hp->VK->Prop
 |[],b,_,H,Q=>cK K H l xs/\Q b H
 |x::r,b,kb,H,Q=>cK K H l xs/\ks x H λk H2=>∃y z,R H2 y k/\R H2 z kb/\(lt y z=true->Ow K ks lt R l xs r x k H2 Q)/\(lt y z=false->Ow K ks lt R l xs r b kb H2 Q)
theorem Ua{α:Type}{ks:KS}{lt:α->α->Bool}{R:Hp->α->V->Prop}{key:af}{kw:List (Str×af)}{E:af->ah->Prop}{l it S:aj}{xs:List V}{Q:VK}(hh:X.A.handled=none)(hu:X.A.units+20<cLine)(as:VW X lt R)(ky:Keyed X key ks)(lI:A4 X it)(lS:A4 X S)(Vv:S≠it)(nl:l≠it)(nI:∀p∈pins,p.1≠it)(nS:∀p∈pins,p.1≠S):
  ∀(r:List V) (j:Nat) (H:Hp) (s:ah) (b kb:V) (ub uk:af) (c:Nat) (oI:Obj),xs.drop j=r->j<=xs.length->L2.Inv X ((it,oI)::(S,seqObj "list" #[ub,uk] c)::pins) σ H s->s.heap.IsListIter it l j->RelV b ub->RelV kb uk->Ow X.K ks lt R l xs r b kb H Q->
   codeAny (model X.prog X.w) X.A (wA it S key kw) (Zac X pins σ Q E) s:=by
 have two:∀(o:Obj) (p:aj×Obj),p∈(S,o)::pins->p.1≠it:=λo p hp=>by
  obtain rfl|m:=aJ.mp hp
  ·exact Vv
  ·exact nI p m
 have one:∀(o:Obj) (p:aj×Obj),p∈(it,o)::pins->p.1≠S:=λo p hp=>by
  obtain rfl|m:=aJ.mp hp
  ·exact λz=>Vv z.symm
  ·exact nS p m
 intro r
 induction r with
 |nil=>
  intro j H s b kb ub uk c oI hj hjl I hit rb rk h;obtain⟨vs,rx,pl,_⟩:=I.list h.1;have hl:vs.toArray.size=j:=by
   rw[aL,<-rx.length];exact Mn (List.drop_eq_nil_iff.mp hj) hjl
  have pI:=I.pin (it,oI) (aw _ (.head _));have pS:=I.pin (S,seqObj "list" #[ub,uk] c) (aw _ (.tail _ (.head _)));have J0:L2.Inv X ((S,seqObj "list" #[ub,uk] c)::pins) σ H s:=I.iF λp hp=>I.pin p (aw _ (.tail _ hp));have J1:∀h' YL,(∀b o,b∉[it]->s.heap.get? b=some o->h'.get? b=some o)->L2.Inv X ((S,seqObj "list" #[ub,uk] c)::pins) σ H {s with heap:=h',toks:=YL}:=λh' YL kp=>J0.turned (it:=it) (t':=YL) (λb u n e=>kp b u (by simpa using n) e) pI.2.1 pI.2.2.1 (.inr lI.new) lI.cells λp hp=>(a8.mp hp).elim (lI.pn p) (two _ p)
  refine Xs (Kp:=λh'=>∀b o,b∉[it]->s.heap.get? b=some o->h'.get? b=some o) pS.1 (λQ E q=>(Walks.list (prog:=X.prog) (w:=X.w) (A:=X.A.in1) hh it l nl vs.toArray).done s Q E ⟨by rw[hl];exact hit,pl.isList⟩ q) (λh' kp=>kp S _ (by simpa using Vv) pS.1) λh' tk kp=> ?_
  have J2:=tI (J1 h' tk kp) lS nS dv (fS (kp S _ (by simpa using Vv) pS.1) λ_=> #[]) gH;exact⟨b,H,J2.iF λp hp=>J2.pin p (aw _ (.tail _ hp)),rb,h.2⟩
 |cons x r ih=>
  intro j H s b kb ub uk c oI hj hjl I hit rb rk h;have hjx:xs[j]? =some x:=by
   have e:=dc List.head? hj;rw[List.head?_drop] at e
   exact e
  have hjn:xs.drop (j+1)=r:=by
   rw[<-List.tail_drop,hj]
   rfl
  have hlx:j+1<=xs.length:=(bT.mp hjx).1;have pS:=I.pin (S,seqObj "list" #[ub,uk] c) (aw _ (.tail _ (.head _)));refine TY pS.1 (next_item hh nl lI (two _) h.1 hjx I hit) (λLN v h' tk ⟨rv,mv⟩=> ?_)
   (G:=λv kv s2=>∃o,RelV x v/\(∀h2:Heap,h2.get? it=some o->h2.IsListIter it l (j+1))/\EP X ((it,o)::(S,seqObj "list" #[ub,uk] c)::pins) σ (λk H2=>∃y z,R H2 y k/\R H2 z kb/\(lt y z=true->Ow X.K ks lt R l xs r x k H2 Q)/\(lt y z=false->Ow X.K ks lt R l xs r b kb H2 Q)) kv s2) λv kv s2 ⟨o,rv,hi2,kx,H2,J2,rkx,y,z,r1,r2,ht,hf⟩=> ?_
  ·obtain⟨o,J1,hi1⟩:=mv tk;exact cF (ky LN J1 rv h.2) (λkv s2 e=>⟨o,rv,hi1,e⟩) λ_ _ z=>z
  ·have pS2:=J2.pin (S,seqObj "list" #[ub,uk] c) (aw _ (.tail _ (.head _)));have pI2:=J2.pin (it,o) (aw _ (.head _));refine⟨_,as J2 r1 r2 rkx rk (show X.A.units+1+10<cLine by omega),pS2.1,λe=> ?_,λe=>ih (j+1) H2 _ b kb ub uk c o hjn hlx J2 (hi2 _ pI2.1) rb rk (hf e)⟩;have J4:=vY (tI (vY J2) lS (one o) dv (fS pS2.1 λ_=> #[v,kv]) gH);exact ih (j+1) H2 _ x kx v kv _ o hjn hlx J4 (hi2 _ (J4.pin (it,o) (aw _ (.head _))).1) rv rkx (ht e)
def Tf(K:au){α:Type}(ks:KS)(lt:α->α->Bool)(R:Hp->α->V->Prop)(l:aj)(d:Option V)(H:Hp)(Q:VK):List V->Prop
 |[]=>cK K H l []/\∃v,d=some v/\Q v H
 |x::r=>cK K H l (x::r)/\ks x H λk H2=>Ow K ks lt R l (x::r) r x k H2 Q
abbrev NK(l:aj):Obj:={cls:=.type "list_iterator",data:=.fields #[.ref l,.int 0 0]}
theorem LA{α:Type}{ks:KS}{lt:α->α->Bool}{R:Hp->α->V->Prop}{key:af}{kw:List (Str×af)}{E:af->ah->Prop}{l:aj}{xs:List V}{Q:VK}{d:Option V}(hh:X.A.handled=none)(hu:X.A.units+20<cLine)(as:VW X lt R)(ky:Keyed X key ks)(I:L2.Inv X pins σ H s)
  (hd:∀v,d=some v->∃n u,kw=[(n,u)]/\RelV v u)(h:Tf X.K ks lt R l d H Q xs):
  codeAny (model X.prog X.w) X.A (wA s.heap.objs.size (s.heap.objs.size+1) key kw) (Zac X pins σ Q E) {s with heap:=(s.heap.push (NK l)).push (seqObj "list" #[] 0)}:=by
 have hq:cK X.K H l xs:=by
  cases xs with
  |nil=>exact h.1
  |cons x r=>exact h.1
 obtain⟨vs,rx,pl,_⟩:=I.list hq;have nl:l≠s.heap.objs.size:=bc (let ⟨_,e,_⟩:=pl.isList;aW e)
 generalize ho:NK l=oI;have YO:(s.heap.push oI).objs.size=s.heap.objs.size+1:=fE ..;have gI:((s.heap.push oI).push (seqObj "list" #[] 0)).get? s.heap.objs.size=some oI:=ai _ (aM _ (by rw[<-ho];rfl))
 have gS:((s.heap.push oI).push (seqObj "list" #[] 0)).get? (s.heap.objs.size+1)=some (seqObj "list" #[] 0):=by rw[<-YO];exact aM _ U
 have lI:A4 X s.heap.objs.size:=zm I (aE _);have lS:A4 X (s.heap.objs.size+1):=zm I (ir _);have fresh:∀a,s.heap.objs.size<=a->H a=none/\a≠X.env.locals/\a∉X.fs:=λa ha=>⟨I.dw.fresh ha,λz=>absurd (z▸ha) (Nat.not_le.mpr I.lt),I.Xk ha⟩
 have old:∀p∈pins,p.1<s.heap.objs.size:=λp hp=>aW (I.pin p (aw _ hp)).1;have nI:∀p∈pins,p.1≠s.heap.objs.size:=λp hp=>bc (old p hp);have nS:∀p∈pins,p.1≠s.heap.objs.size+1:=λp hp=>bc (di (old p hp));have I0:L2.Inv X pins σ H {s with heap:=(s.heap.push oI).push (seqObj "list" #[] 0)}:=I.kept (t':=s.toks) λb u e=>ai _ (ai _ e);have I1:L2.Inv X ((s.heap.objs.size,oI)::(s.heap.objs.size+1,seqObj "list" #[] 0)::pins) σ H {s with heap:=(s.heap.push oI).push (seqObj "list" #[] 0)}:=I0.iF λp hp=>by
  obtain rfl|m:=aJ.mp hp
  ·exact⟨gI,(fresh _ (aE _)).1,(fresh _ (aE _)).2.1,(fresh _ (aE _)).2.2,λv z=>by rw[<-ho] at z;cases z⟩
  ·obtain rfl|m:=aJ.mp m
   ·exact⟨gS,(fresh _ (ir _)).1,(fresh _ (ir _)).2.1,(fresh _ (ir _)).2.2,gH⟩
   ·exact I0.pin p (aw _ m)
 have Vv:s.heap.objs.size+1≠s.heap.objs.size:=Nat.succ_ne_self _;have Zdb:((s.heap.push oI).push (seqObj "list" #[] 0)).IsListIter s.heap.objs.size l 0:=⟨oI,gI,by rw[<-ho],by rw[<-ho];rfl⟩
 generalize hs1:({s with heap:=(s.heap.push oI).push (seqObj "list" #[] 0)}:ah)=s1 at I1 I0
 have ZaM:s1.heap.IsListIter s.heap.objs.size l 0:=by rw[<-hs1];exact Zdb
 generalize s.heap.objs.size=it at*
 have two:∀p∈(it+1,seqObj "list" #[] 0)::pins,p.1≠it:=λp hp=>by
  obtain rfl|m:=aJ.mp hp
  ·exact Vv
  ·exact nI p m
 have pS:=I1.pin (it+1,seqObj "list" #[] 0) (aw _ (.tail _ (.head _)));cases xs with
 |nil=>
  obtain⟨_,v,e,q⟩:=h;obtain⟨n,u,rfl,rv⟩:=hd v e;obtain rfl:vs=[]:=by cases rx;rfl
  have pI:=I1.pin (it,oI) (aw _ (.head _));obtain⟨vs2,rx2,Vr,_⟩:=I1.list hq;obtain rfl:vs2=[]:=by cases rx2;rfl
  refine TX (Kp:=λh'=>∀b o,b∉[it]->s1.heap.get? b=some o->h'.get? b=some o) pS.1 (λQ E q=>(Walks.list (prog:=X.prog) (w:=X.w) (A:=X.A.in1) hh it l nl #[]).done s1 Q E ⟨ZaM,Vr.isList⟩ q) λh' tk kp=> ?_;exact⟨v,H,I0.turned (it:=it) (t':=tk) (λb u n e=>kp b u (by simpa using n) e) pI.2.1 pI.2.2.1 (.inr lI.new) lI.cells λp hp=>(a8.mp hp).elim (lI.pn p) (nI p),rv,q⟩
 |cons x r=>
  refine Qj pS.1 (next_item hh nl lI two hq (j:=0) (x:=x) U I1 ZaM) (λLN v h' tk ⟨rv,mv⟩=> ?_)
   (G:=λv kv s2=>∃o,RelV x v/\(∀h2:Heap,h2.get? it=some o->h2.IsListIter it l (0+1))/\EP X ((it,o)::(it+1,seqObj "list" #[] 0)::pins) σ (λk H2=>Ow X.K ks lt R l (x::r) r x k H2 Q) kv s2) λv kv s2 ⟨o,rv,hi2,kx,H2,J2,rkx,mk⟩=> ?_
  ·obtain⟨o,J1,hi1⟩:=mv tk;exact cF (ky LN J1 rv h.2) (λkv s2 e=>⟨o,rv,hi1,e⟩) λ_ _ z=>z
  ·have pS2:=J2.pin (it+1,seqObj "list" #[] 0) (aw _ (.tail _ (.head _)));have J4:=vY (tI (vY J2) lS (λp hp=>by
    obtain rfl|m:=aJ.mp hp
    ·exact λz=>Vv z.symm
    ·exact nS p m) dv (fS pS2.1 λ_=> #[v,kv]) gH)
   exact⟨pS2.1,Ua (α:=α) (ks:=ks) (lt:=lt) (R:=R) (xs:=x::r) hh hu as ky lI lS Vv nl nI nS r 1 H2 _ x kx v kv _ o U (Nat.succ_le_succ (bz _)) J4 (hi2 _ (J4.pin (it,o) (aw _ (.head _))).1) rv rkx mk⟩
def Av:KS:=λx H C=>C x H
theorem AB:Keyed X .none Av:=λ_ I r h=>aq ⟨_,_,I,r,h⟩
def XI(sp:Sp):KS:=λx H C=>sp [x] H C λ_ _ _=>False
theorem GS{k:Nat}{g:aj}{fd:bC}{p:Str}{sp:Sp}(F:dJ X.prog X.w X.K X.mg X.base c8 k g fd [p] sp)(hb:Binds X.K fd [p] [])(hr:gF (k+1) X.A):Keyed X (.ref g) (XI sp):=λ_ I r h=>
 oR (cy (cF (Nx F hb hr I r h) (λ_ _ z=>z) λ_ _ z=>z.elim))
def ZdS(_:Hp)(x:Str)(v:V):Prop:=v=.str x
theorem SM:VW X strLt ZdS:=λ_ r1 r2 ru rv _=>by
 cases r1;cases r2;obtain⟨t,rfl⟩:=ru;obtain⟨t',rfl⟩:=rv;exact λE Q q=>PyProof.Rows.lt_str q
theorem LK:VW X jF Vb:=λ_ r1 r2 ru rv _=>by
 cases r1;cases r2;obtain⟨t,rfl⟩:=ru;obtain⟨t',rfl⟩:=rv;exact λE Q q=>PyProof.Rows.lt_int q
theorem wD{K:au}{α:Type}{lt:α->α->Bool}{R:Hp->α->V->Prop}{l:aj}{xs:List V}{IK:α->V}{Q:VK}(o:Bf lt)(he:∀x,R H x (IK x))(hq:cK K H l xs):
  ∀(r:List α) (b:α),(∀m,m∈b::r->(∀z∈b::r,lt z m=false)->Q (IK m) H)->Ow K Av lt R l xs (r.map IK) (IK b) (IK b) H Q
 |[],b,q=>⟨hq,q b (.head _) λz hz=>by rw[dm.mp hz];exact o.uZ _⟩
 |x::r,b,q=>by
  refine⟨hq,x,b,he x,he b,λe=>wD o he hq r x λm hm h=>q m (.tail _ hm) λz hz=> ?_,λe=>wD o he hq r b λm hm h=>q m ?_ λz hz=> ?_⟩
  ·rcases aJ.mp hz with rfl|hz
   ·cases c:lt z m with
    |false=>rfl
    |true=>exact absurd (o.tr _ _ _ e c) (by rw[h x (.head _)];exact bj)
   ·exact h z hz
  ·rcases aJ.mp hm with rfl|hm
   ·exact .head _
   ·exact .tail _ (.tail _ hm)
  ·rcases aJ.mp hz with rfl|hz
   ·exact h z (.head _)
   ·rcases aJ.mp hz with rfl|hz
    ·cases c:lt z m with
     |false=>rfl
     |true=>
      rcases o.IZ b m with t|t|t
      ·exact absurd t (by rw[h b (.head _)];exact bj)
      ·exact absurd c (by rw[<-t,e];exact bj)
      ·exact absurd (o.tr _ _ _ c t) (by rw[e];exact bj)
    ·exact h z (.tail _ hz)
theorem Oc{α:Type}{lt:α->α->Bool}{R:Hp->α->V->Prop}(as:VW X lt R)(hc:X.calm=true)(hu:X.A.units+30<cLine):iH X (.builtin "min") (λxs H Q=>∃l us,xs=[.ref l]/\Tf X.K Av lt R l none H Q us):=by
 intro pins s σ H xs vals Q I r h;obtain⟨l,us,rfl,h⟩:=h;obtain⟨u,rfl,rx0⟩:=vals1 r;cases rx0;have hq:cK X.K H l us:=by
  cases us with
  |nil=>exact h.1
  |cons x r=>exact h.1
 obtain⟨vs,rx,pl,_⟩:=I.list hq;refine call_function_tree (Q:=EP X pins σ Q) vz um uo (PySem.F.args_min1 _) ?_;have bp:Builtin.Builtins.bindParams "min" ["key","default"] 0 ⟨[],[]⟩=pure [none,none]:=rfl;refine aa (m:=Builtin.Builtins.bindParams "min" ["key","default"] 0 ⟨[],[]⟩) (kI bp (aa (aq (aa (fk pl.isList (aa (gz ?_ (bz _))))))));rw[wz,show(s.heap.push (NK l)).objs.size=s.heap.objs.size+1 from fE ..]
 exact aq (And.intro (de lY _) (LA (α:=α) (ks:=Av) (lt:=lt) (R:=R) (d:=none) (xs:=us) (I.ok.hd hc) (by omega) as AB I (λ_ z=>nomatch z) h))
theorem Oh(a d:af):argsOk "min" ⟨[a],[(Str.ofString "default",d)]⟩:=by unfold argsOk;kernel_rfl
theorem KI(a k d:af):argsOk "min" ⟨[a],[(Str.ofString "key",k),(Str.ofString "default",d)]⟩:=by unfold argsOk;kernel_rfl
def ZM(K:au){α:Type}(lt:α->α->Bool)(R:Hp->α->V->Prop)(t:TA)(td:TE):TE:=λσ H Q=>t σ H λvs H1=>td σ H1 λd H2=>∃l us,vs=[.ref l]/\Tf K Av lt R l (some d) H2 Q us
theorem Tx{α:Type}{lt:α->α->Bool}{R:Hp->α->V->Prop}{e ed:PySem.Expr}{t:TA}{td:TE}{p0 p2 pos:Pos}(as:VW X lt R)(hc:X.calm=true)(hu:X.A.units+30<cLine)(hg:Gl X "min")(hm:X.mg "min"=none)(ha:PA X [e] t)(hd:PE X ed td)
  (hs:starEach [e] X.env=[(false,eval e X.env)]:=by rfl):PE X (.Call (.Name "min" p0) [e] [⟨some "default",ed,p2⟩] pos) (ZM X.K lt R t td):=by
 intro pins s σ H Q I h;refine cU (lA I hg hm ve ?_ (by decide) (by decide));refine callWith_kw (eZ (ha pos pins s σ H _ I h) λus s1 z=> ?_) (by rw[hs];rfl) (by rw[hs];rfl)
 obtain⟨vs,H1,I1,r1,q1⟩:=z;refine kws_cons (eZ (hd pins s1 σ H1 _ I1 q1) λud s2 ⟨d,H2,I2,rd,q2⟩=>kws_nil ?_);obtain⟨l,xs,rfl,h⟩:=q2;obtain⟨u,rfl,ru⟩:=vals1 r1;cases ru;have hq:cK X.K H2 l xs:=by
  cases xs with
  |nil=>exact h.1
  |cons x r=>exact h.1
 obtain⟨vs,rx,pl,_⟩:=I2.list hq;refine kmk_tree (Q:=EP X pins σ Q) vz um uo (Oh (.ref l) ud) ?_;have bp:Builtin.Builtins.bindParams "min" ["key","default"] 0 ⟨[],[(Str.ofString "default",ud)]⟩=pure [none,some ud]:=rfl;refine aa (m:=Builtin.Builtins.bindParams "min" ["key","default"] 0 ⟨[],[(Str.ofString "default",ud)]⟩) (kI bp (aa (aq (aa (fk pl.isList (aa (gz ?_ (bz _))))))));rw[wz,show(s2.heap.push (NK l)).objs.size=s2.heap.objs.size+1 from fE ..]
 exact aq (And.intro (de lY _) (LA (α:=α) (ks:=Av) (lt:=lt) (R:=R) (d:=some d) (xs:=xs) (I2.ok.hd hc) (by omega) as AB I2 (λ_ z=>⟨_,_,U,by cases z;exact rd⟩) h))
def Wu(K:au){α:Type}(lt:α->α->Bool)(R:Hp->α->V->Prop)(sp:Sp)(t:TA)(td:TE):TE:=λσ H Q=>t σ H λvs H1=>td σ H1 λd H2=>∃l us,vs=[.ref l]/\Tf K (XI sp) lt R l (some d) H2 Q us
theorem PU{α:Type}{lt:α->α->Bool}{R:Hp->α->V->Prop}{k:Nat}{x p:Str}{sp:Sp}{e ed:PySem.Expr}{t:TA}{td:TE}{p0 p1 p2 p3 pos:Pos}(as:VW X lt R)(hc:X.calm=true)(hu:X.A.units+30<cLine)(c:fi X.prog X.w X.K X.mg X.base c8 k x [p] sp)(hr:gF (k+2) X.A)(hg:Gl X "min")(hm:X.mg "min"=none)(hgx:Gl X x)(ha:PA X [e] t)(hd:PE X ed td)(u7:(x==("__debug__":Str))=false:=by decide)
  (hs:starEach [e] X.env=[(false,eval e X.env)]:=by rfl):PE X (.Call (.Name "min" p0) [e] [⟨some "key",.Name x p1,p2⟩,⟨some "default",ed,p3⟩] pos) (Wu X.K lt R sp t td):=by
 intro pins s σ H Q I h;obtain⟨f,fd,hmx,hkp,hb,F⟩:=c.ex;refine cU (lA I hg hm ve ?_ (by decide) (by decide));refine callWith_kw (eZ (ha pos pins s σ H _ I h) λus s1 z=> ?_) (by rw[hs];rfl) (by rw[hs];rfl)
 obtain⟨vs,H1,I1,r1,q1⟩:=z;refine kws_cons (jw I1 hgx hmx (kws_cons (eZ (hd pins s1 σ H1 _ I1 q1) λud s2 ⟨d,H2,I2,rd,q2⟩=>kws_nil ?_)) u7);obtain⟨l,xs,rfl,h⟩:=q2;obtain⟨u,rfl,ru⟩:=vals1 r1;cases ru;have hq:cK X.K H2 l xs:=by
  cases xs with
  |nil=>exact h.1
  |cons x r=>exact h.1
 obtain⟨vs,rx,pl,_⟩:=I2.list hq;refine kmk_tree (Q:=EP X pins σ Q) vz um uo (KI (.ref l) (.ref f) ud) ?_;have bp:Builtin.Builtins.bindParams "min" ["key","default"] 0 ⟨[],[(Str.ofString "key",.ref f),(Str.ofString "default",ud)]⟩=pure [some (.ref f),some ud]:=rfl;refine aa (m:=Builtin.Builtins.bindParams "min" ["key","default"] 0 ⟨[],[(Str.ofString "key",.ref f),(Str.ofString "default",ud)]⟩) (kI bp (aa (aq (aa (fk pl.isList (aa (gz ?_ (bz _))))))))
 rw[wz,show(s2.heap.push (NK l)).objs.size=s2.heap.objs.size+1 from fE ..];exact aq (And.intro (de lY _) (LA (α:=α) (ks:=XI sp) (lt:=lt) (R:=R) (d:=some d) (xs:=xs) (I2.ok.hd hc) (by omega) as (GS F hb (hr.mono (ir _))) I2 (λ_ z=>⟨_,_,U,by cases z;exact rd⟩) h))
end
def uniq:List Str->List Str->List Str
 |acc,[]=>acc
 |acc,x::r=>uniq (if x∈acc then acc else acc++[x]) r
theorem Ci:∀(ws acc:List Str) (x:Str),uniq acc (ws++[x])=if x∈uniq acc ws then uniq acc ws else uniq acc ws++[x]
 |[],_,_=>rfl
 |w::ws,acc,x=>Ci ws _ x
theorem zM(x:Str):∀(ws acc:List Str),x∈uniq acc ws↔x∈acc\/x∈ws
 |[],acc=>by simp[uniq]
 |w::ws,acc=>by
  rw[uniq,zM x ws]
  split
  ·rename_i h
   constructor
   ·rintro(h|h)
    ·exact .inl h
    ·exact .inr (.tail _ h)
   ·rintro(h'|h')
    ·exact .inl h'
    ·rcases aJ.mp h' with rfl|h'
     ·exact .inl h
     ·exact .inr h'
  ·simp[or_assoc]
theorem uJ:∀(ws acc:List Str),acc.Nodup->(uniq acc ws).Nodup
 |[],_,h=>h
 |w::ws,acc,h=>by
  rw[uniq];refine uJ ws _ ?_
  split
  ·exact h
  ·rename_i n
   exact List.nodup_append.mpr ⟨h,by simp,λa ha b hb=>by rw[dm.mp hb];exact λe=>n (e▸ha)⟩
theorem vJ:∀(ws acc:List Str),(uniq acc ws).length<=acc.length+ws.length
 |[],_=>aE _
 |w::ws,acc=>by
  rw[uniq];refine bD (vJ ws _) ?_
  split
  ·rw[aZ];omega
  ·rw[bb,aZ,aZ,kW];omega
section
variable {P:bo} {w:World} {A:bK} {R:Result->ah->Prop} {E:af->ah->Prop} {s:ah}
def Be(w:World):Bool:=w.params.followText "set-order"
structure Fy (w:World) (n:Nat) (t:SetTable):Prop where
 fits:t.fits n=true
 led:t.led=true\/Be w=true
 plain:t.plain=true->n=0
abbrev ng(es:Array (Int×af))(ep:Nat)(t:SetTable):Obj:={cls:=.type "set",dict:=none,data:=.set es ep t}
def pC(e:Int×af):Str:=match e.2 with
 | .str x _=>x
 |_=>default
structure ug (P:bo) (w:World) (ks:List Str) (es:Array (Int×af)):Prop where
 el:ElemsOf (strKind P w) es.toList
 keys:(es.toList.map pC).Perm ks
theorem key_is{e:Int×af}{k k':Str}(h:(strKind P w).is k' e.2=true):(strKind P w).is k e.2=true↔pC e=k:=by
 obtain⟨a,v⟩:=e;obtain⟨t,rfl⟩:=Value.isStrOf_shape h
 constructor
 ·exact λz=>(strKind P w).inj _ _ _ (strKind_is P w k' t) z
 ·intro z;have z:k'=k:=z;subst z;exact h
theorem ug.mem{ks:List Str}{es:Array (Int×af)}(L:ug P w ks es)(k:Str):k∈ks↔∃e∈es.toList,(strKind P w).is k e.2=true:=by
 rw[<-L.keys.mem_iff,List.mem_map]
 constructor
 ·rintro⟨e,he,z⟩;obtain⟨⟨k',hk,_⟩,_⟩:=L.el e he;exact⟨e,he,(key_is hk).mpr z⟩
 ·rintro⟨e,he,z⟩;exact⟨e,he,(key_is z).mp z⟩
theorem ug.size{ks:List Str}{es:Array (Int×af)}(L:ug P w ks es):es.size=ks.length:=by rw[<-L.keys.length_eq,ao,bx]
def gq(P:bo)(w:World)(h:Heap)(a:aj)(ks:List Str):Prop:=∃es ep t,h.get? a=some (ng es ep t)/\ug P w ks es/\Fy w es.size t
theorem gq.keep{h h':Heap}{a:aj}{ks:List Str}(H:gq P w h a ks)(k:∀o,h.get? a=some o->h'.get? a=some o):gq P w h' a ks:=by
 obtain⟨es,ep,t,ho,r⟩:=H;exact⟨es,ep,t,k _ ho,r⟩
theorem ug.perm{ks:List Str}{es es':Array (Int×af)}(L:ug P w ks es)(p:es'.toList.Perm es.toList):ug P w ks es':=⟨L.el.perm p,(p.map _).trans L.keys⟩
theorem ug.push{ks:List Str}{x:Str}{tk:Tok}{es es':Array (Int×af)}(L:ug P w ks es)(p:es'.toList.Perm (es.toList++[((strKind P w).hash x,Value.str x tk)])):ug P w (ks++[x]) es':=by
 refine⟨(L.el.push (strKind_is P w x tk) U).perm p,(p.map _).trans ?_⟩;rw[bN];exact List.Perm.append_right _ L.keys
theorem tD{a:aj}{es es':Array (Int×af)}{ep:Nat}{t t':SetTable}{h:Heap}(ho:h.get? a=some (ng es ep t)):(h.update a (Obj.putSet es' t')).get? a=some (ng es' (ep+1) t'):=f_ (Obj.putSet es' t') ho rfl
theorem Ul(t:SetTable)(es:Array (Int×af))(h:Int)(x:af):(layNew t es h x).2.1.led=t.led/\((layNew t es h x).2.1.plain=true->t.plain=true):=by
 unfold layNew;cases t.freeSlot h with
 |none=>exact⟨U,λz=>nomatch z⟩
 |some p=>
  dsimp only
  unfold SetTable.orStandIn
  split
  ·exact⟨U,λz=>z⟩
  ·exact⟨U,λz=>nomatch z⟩
theorem MN(t:SetTable)(es:Array (Int×af))(n:Nat):(relayAll t es n).2.1.led=t.led/\((relayAll t es n).2.1.plain=true->t.plain=true):=by
 unfold relayAll;cases e:t.relaid (es.map (·.1)) n with
 |none=>exact⟨U,λz=>nomatch z⟩
 |some p=>
  obtain⟨t',o⟩:=p
  dsimp only
  unfold SetTable.relaid SetTable.laid at e
  cases e2:SetTable.layClean (SetTable.sizeAbove n-1) (es.map (·.1)) with
  |none=>rw[e2] at e;cases e
  |some ow=>
   rw[e2] at e
   cases e
   split
   ·exact⟨U,λz=>z⟩
   ·exact⟨U,λz=>nomatch z⟩
theorem Iz{g:Bool->Sem Unit}(hg:∀(b:Bool) (s₁:ah) (Q':Unit->ah->Prop),Q' () s₁->wpAny (model P w) A (g b) Q' E s₁){a:aj}{ks:List Str}{es xV:Array (Int×af)}{ep:Nat}{t t2:SetTable}{wd:Bool}{R:Option Bool->ah->Prop}
  (ho:s.heap.get? a=some (ng es ep t))(L:ug P w ks xV)(T:Fy w xV.size t2)(l:xV.size<scanBound)(h:∀h',Heap.SameBut a s.heap h'->gq P w h' a ks->R (some true) {s with heap:=h'}):
  wpAny (model P w) A (storeSet a xV t2>>=λ_=>if(!wd&&t2.tooFull)=true then g (relayAll t2 xV (SetTable.grown xV.size)).2.2>>=λ_=>storeSet a (relayAll t2 xV (SetTable.grown xV.size)).1 (relayAll t2 xV (SetTable.grown xV.size)).2.1>>=λ_=>pure (some true) else pure (some true)) R E s:=by
 refine aa (wpAny_storeSet_of ho U ?_ (yj l));have h1:=tD (es':=xV) (t':=t2) ho;have sb:=dC s.heap a (Obj.putSet xV t2)
 split
 ·have p:=relayAll_perm t2 xV (SetTable.grown xV.size);have f:=relayAll_fits t2 xV (SetTable.grown xV.size);have d:=MN t2 xV (SetTable.grown xV.size);generalize relayAll t2 xV (SetTable.grown xV.size)=Y at p f d⊢
  obtain⟨Zj,t3,gv⟩:=Y
  dsimp only at p f d⊢
  have L2:=L.perm p;have sz:Zj.size=xV.size:=by rw[L2.size,L.size]
  refine aa (hg _ _ _ (aa (wpAny_storeSet_of h1 U ?_ (yj (by rw[sz];exact l)))))
  exact aq (h _ (sb.trans (dC _ a _)) ⟨Zj,_,t3,tD h1,L2,f,by rw[d.1];exact T.led,λz=>by rw[sz];exact T.plain (d.2 z)⟩)
 ·exact aq (h _ sb ⟨xV,_,t2,h1,L,T⟩)
theorem F9{a:aj}{ks:List Str}{x:Str}{tk:Tok}{Q:Bool->ah->Prop}(H:gq P w s.heap a ks)(l:ks.length<1000)
  (q:∀h' b,Heap.SameBut a s.heap h'->gq P w h' a (if x∈ks then ks else ks++[x])->Q b {s with heap:=h'}):wpAny (model P w) A (setAddHashed a (.str x tk) ((strKind P w).hash x)) Q E s:=by
 obtain⟨es,ep,t,ho,L,T⟩:=H;have hb:es.size<scanBound:=by rw[L.size];unfold scanBound;omega
 unfold setAddHashed setAddHashedIn;refine cy (aa (c_ ho U T.fits ?_))
 dsimp only
 rw[byScan_of (knd:=strKind P w) rfl hb L.el];simp only [↓reduceIte];unfold setAddByScan;refine aa (aa (rh (aa (wpAny_setScan_of (knd:=strKind P w) (strKind_is P w x tk) ho U T.fits L.el ?_))));cases hr:List.findIdx? (λe=>(strKind P w).is x e.2) es.toList with
 |some j=>
  obtain⟨hj,hp,_⟩:=List.findIdx?_eq_some_iff_getElem.mp hr;have hx:x∈ks:=(L.mem x).mpr ⟨_,iN hj,hp⟩;refine aq (aq ?_);have:=q s.heap false (iO ..) (by rw[bg hx];exact⟨es,ep,t,ho,L,T⟩)
  exact this
 |none=>
  have hx:x∉ks:=λz=>by
   obtain⟨e,he,hp⟩:=(L.mem x).mp z;have:=List.findIdx?_eq_none_iff.mp hr e he;rw[hp] at this
   cases this
  have pm:=layNew_perm t es ((strKind P w).hash x) (.str x tk);have ft:=layNew_fits t es ((strKind P w).hash x) (.str x tk);have ld:=Ul t es ((strKind P w).hash x) (.str x tk)
  dsimp only
  generalize layNew t es ((strKind P w).hash x) (.str x tk)=Y at pm ft ld⊢
  obtain⟨xV,t1,wd,gv⟩:=Y
  dsimp only at pm ft ld⊢
  rw[Array.toList_push] at pm
  have L1:=L.push pm;have n1:xV.size≠0:=by rw[L1.size,bb];exact vB _
  have NQ:xV.size<scanBound:=by rw[L1.size,bb];unfold scanBound;show ks.length+1<_;omega
  have T1:∀t2:SetTable,t2.fits xV.size=true->t2.led=t1.led->t2.plain=false->Fy w xV.size t2:=λt2 f e1 e2=>⟨f,by rw[e1,ld.1];exact T.led,λz=>by rw[e2] at z;cases z⟩
  have fin:∀h',Heap.SameBut a s.heap h'->gq P w h' a (ks++[x])->wpAny (model P w) A (pure true) Q E {s with heap:=h'}:=λh' sb st=>aq (q h' true sb (by rw[aX hx];exact st))
  have gw:∀{g:Bool->Sem Unit},g true=rule "set.scan.the-table-gave-way"->g false=pure ()->∀(b:Bool) (s₁:ah) (Q':Unit->ah->Prop),Q' () s₁->wpAny (model P w) A (g b) Q' E s₁:=λe1 e2 b s₁ Q' h=>by
   cases b
   ·rw[e2];exact aq h
   ·rw[e1];exact rh h
  refine aa (gw U U _ _ _ ?_)
  split
  ·refine aa ?_;rw[hashByValue_scannable 8 rfl];exact aq (Iz (gw U U) ho L1 (T1 _ (SetTable.fits_plain_off ft) U U) NQ fin)
  ·rename_i np
   refine aa (aq ?_);simp only [↓reduceIte];exact Iz (gw U U) ho L1 (T1 _ ft U (by simpa using np)) NQ fin
theorem SU{a:aj}{ks:List Str}{x:Str}{t:Tok}{Q:Bool->ah->Prop}(H:gq P w s.heap a ks)(l:ks.length<1000)
  (q:∀h' b tk,Heap.SameBut a s.heap h'->gq P w h' a (if x∈ks then ks else ks++[x])->Q b {s with heap:=h',toks:=tk}):wpAny (model P w) A (setAdd a (.str x t)) Q E s:=
 cy (aa ((strKind P w).pyHash (k:=x) (strKind_is _ _ _ _) (F9 (s:={s with toks:=s.toks+1}) H l λh' b sb st=>q h' b _ sb st)))
theorem Pe{l I S:aj}{its:Array af}{ws:List Str}(hh:A.in1.handled=none)(nl:l≠I)(nS:S≠I)(nSl:S≠l)(rel:∀(i:Nat) (v:af),its[i]? =some v->∃t,v=Value.str (ws.getD i default) t)(lw:its.size=ws.length)(lb:ws.length<1000):
  ∀(k i:Nat) (s:ah),ws.length-i=k->i<=ws.length->s.heap.IsListIter I l i->s.heap.IsList l its->gq P w s.heap S (uniq [] (ws.take i))->
   (∀h' tk,gq P w h' S (uniq [] ws)->(∀b o,b≠S->b≠I->s.heap.get? b=some o->h'.get? b=some o)->R (.ok (.ret .none)) {s with heap:=h',toks:=tk})->
   codeAny (model P w) A (.builtin "set.update.loop" ⟨[.ref S,.ref I],[]⟩) R s:=by
 have W:=Walks.list (prog:=P) (w:=w) (A:=A.in1) hh I l nl its;intro k
 induction k with
 |zero=>
  intro i s hk hi st hl hs q;obtain rfl:i=ws.length:=by omega
  refine cW Bk ?_;rw[cP jV _];refine aa (m:=pyNext (.ref I)) (W.done s _ _ ⟨by rw[lw];exact st,hl⟩ λh' tk kp=>aq (q h' tk ?_ λb o _ nb e=>kp b o (by simpa using nb) e))
  rw[IQ] at hs
  exact hs.keep λo e=>kp S o (by simpa using nS) e
 |succ k ih=>
  intro i s hk hi st hl hs q;refine cW Bk ?_;rw[cP jV _];refine aa (m:=pyNext (.ref I)) (W.item i s _ _ (by omega) ⟨st,hl⟩ λv h' tk pv yI kp=> ?_);obtain⟨t,rfl⟩:=rel i v pv;have hs':gq P w h' S (uniq [] (ws.take i)):=hs.keep λo e=>kp S o (by simpa using nS) e;refine aa (m:=holding _ (setAdd S _)) (cy (SU (s:={s with heap:=h',toks:=tk}) hs' (by have:=vJ (ws.take i) [];rw[dh] at this;simp only [kW] at this;omega) λh2 b tk2 sb F2=> ?_))
  have lt:i<ws.length:=by omega
  have e:ws.take (i+1)=ws.take i++[ws.getD i default]:=by
   rw[dG,aK lt,fJ,aK lt]
   rfl
  rw[<-Ci,<-e] at F2
  refine aq ⟨de jV _,ih (i+1) _ (by omega) lt ?_ ?_ F2 λh3 tk3 Ou kp3=>q h3 tk3 Ou λb o nb Xp e=>kp3 b o nb Xp ?_⟩
  ·obtain⟨o,e1,e2⟩:=yI.1;exact⟨o,(sb.2 I (cY nS)).trans e1,e2⟩
  ·obtain⟨o,e1,e2⟩:=yI.2;exact⟨o,(sb.2 l (cY nSl)).trans e1,e2⟩
  ·exact(sb.2 b nb).trans (kp b o (by simpa using Xp) e)
end
def Ox(m:Nat):Nat->Nat->Nat->Nat×Nat
 |0,i,p=>(i,p)
 |t+1,i,p=>Ox m t (SetTable.leap m i p).1 (SetTable.leap m i p).2
theorem LC(m:Nat):∀a b i p,Ox m (a+b) i p=Ox m b (Ox m a i p).1 (Ox m a i p).2
 |0,b,i,p=>by rw[rj];rfl
 |a+1,b,i,p=>by rw[Nat.succ_add];exact LC m a b _ _
theorem LB(m:Nat):∀t i p,(Ox m t i p).2=p/32^t
 |0,i,p=>by rw[Nat.pow_zero,Nat.div_one];rfl
 |t+1,i,p=>by
  show(Ox m t _ (p/32)).2=_;rw[LB m t,Nat.div_div_eq_div_mul,Nat.pow_succ,Nat.mul_comm]
theorem Qv(m:Nat):∀t i p,i<m+1->(Ox m t i p).1<m+1
 |0,_,_,h=>h
 |t+1,i,p,_=>Qv m t _ _ (xf _ (xb _))
def VM(m:Nat):Bool:=(List.range (m+1)).all λi=>(List.range (m+1)).all λj=>(List.range (m+1)).any λt=>(Ox m t i 0).1==j
theorem ZdL:VM 7=true:=by decide+kernel
theorem Za4:VM 15=true:=by decide+kernel
theorem Za3:VM 31=true:=by decide+kernel
theorem Ud{m i p j:Nat}(c:VM m=true)(hi:i<m+1)(hp:p<2^64)(hj:j<m+1):∃t,t<SetTable.turns m/\(Ox m t i p).1=j:=by
 have z:(Ox m 13 i p).2=0:=by rw[LB];exact Nat.div_eq_of_lt (b4 hp (by decide))
 have h1:=List.all_eq_true.mp c _ (g7.mpr (Qv m 13 i p hi));have h2:=List.all_eq_true.mp h1 _ (g7.mpr hj);obtain⟨t,ht,e⟩:=eB.mp h2;have ht:=g7.mp ht;refine⟨13+t,by unfold SetTable.turns;omega, ?_⟩
 rw[LC,z];exact g6.mp e
theorem LR{m:Nat}{ow:Array (Option Nat)}:∀(f t i p:Nat),t<f->ow.getD (Ox m t i p).1 (some 0)=none->∃j,SetTable.layClean.free m ow f i p=some j/\ow.getD j (some 0)=none
 |f+1,t,i,p,ht,h=>by
  unfold SetTable.layClean.free;cases e:(List.range (SetTable.runEnd m i+1-i)).find? λk=>(ow.getD (i+k) (some 0)).isNone with
  |some k=>
   have:=List.find?_some e;exact⟨i+k,U,Option.isNone_iff_eq_none.mp this⟩
  |none=>
   cases t with
   |zero=>
    have h:ow.getD i (some 0)=none:=h;have n:=List.find?_eq_none.mp e 0 (g7.mpr (by unfold SetTable.runEnd;split<;>omega))
    rw[Nat.add_zero,h] at n
    exact absurd U n
   |succ t=>exact LR f t _ _ (xg ht) h
abbrev held(ow:Array (Option Nat)):List Nat:=ow.toList.filterMap id
theorem CV:∀(l:List (Option Nat)),(l.filterMap id).length<l.length->∃j,j<l.length/\l[j]? =some none
 |[],h=>absurd h (eI _)
 |none::l,_=>⟨0,xb _,rfl⟩
 |some x::l,h=>by
  obtain⟨j,a,b⟩:=CV l (by simpa using h);exact⟨j+1,Nat.succ_lt_succ a,b⟩
theorem AJ:∀(l:List (Option Nat)) (j k:Nat),l[j]? =some none->((l.set j (some k)).filterMap id).Perm (k::l.filterMap id)
 |[],j,k,h=>by simp at h
 |x::l,0,k,h=>by
  have h:x=none:=by simpa using h
  subst h;exact .refl _
 |none::l,j+1,k,h=>AJ l j k (by simpa using h)
 |some x::l,j+1,k,h=>by
  have:=AJ l j k (by simpa using h);exact(List.Perm.cons x this).trans (.swap _ _ _)
theorem UY(h:Int):SetTable.bits h<2^64:=by
 unfold SetTable.bits;have a:=d0 h (show(2^64:Int)≠0 by decide);have b:=dq h (show(0:Int)<2^64 by decide);omega
abbrev EC(m:Nat):Option (Array (Option Nat)×Nat)->Int->Option (Array (Option Nat)×Nat):=λacc h=>do
 let (ow,k)<-acc
 let j<-SetTable.layClean.free m ow (SetTable.turns m) (SetTable.bits h%(m+1)) (SetTable.bits h)
 pure (ow.setIfInBounds j (some k),k+1)
theorem GQ{m:Nat}(c:VM m=true):∀(hs:List Int) (ow:Array (Option Nat)) (k:Nat),ow.size=m+1->(held ow).Perm (List.range k)->k+hs.length<=m->∃ow',hs.foldl (EC m) (some (ow,k))=some (ow',k+hs.length)/\ow'.size=m+1/\(held ow').Perm (List.range (k+hs.length))
 |[],ow,k,sz,pm,_=>⟨ow,rfl,sz,pm⟩
 |h::hs,ow,k,sz,pm,le=>by
  have le:k+(hs.length+1)<=m:=le;have lk:(held ow).length=k:=by rw[pm.length_eq,l8]
  have lo:ow.toList.length=m+1:=by rw[bx,sz]
  obtain⟨j,hj,ej⟩:=CV ow.toList (by rw[lo];show(held ow).length<_;omega)
  rw[lo] at hj
  obtain⟨t,ht,et⟩:=Ud c (i:=SetTable.bits h%(m+1)) (xf _ (xb _)) (UY h) hj;have gj:ow.getD j (some 0)=none:=by
   rw[eC] at ej
   rw[jC,ej];rfl
  obtain⟨j',ef,g'⟩:=LR _ t _ _ ht (by rw[et];exact gj)
  have lt':j'<ow.size:=by
   refine vC λz=> ?_;rw[jC,Array.getElem?_eq_none z] at g'
   cases g'
  have e':ow.toList[j']? =some none:=by
   rw[eC];rw[jC,eR lt'] at g'
   rw[eR lt'];exact dc some g'
  have st:EC m (some (ow,k)) h=some (ow.setIfInBounds j' (some k),k+1):=by
   show(do let j<-SetTable.layClean.free m ow (SetTable.turns m) (SetTable.bits h%(m+1)) (SetTable.bits h);pure (ow.setIfInBounds j (some k),k+1):Option _)=_
   rw[ef];rfl
  rw[jk,st,aZ,show k+(hs.length+1)=(k+1)+hs.length by omega];refine GQ c hs _ (k+1) (by rw[Array.size_setIfInBounds];exact sz) ?_ (by omega)
  have ps:=AJ ow.toList j' k e';rw[<-Array.toList_setIfInBounds] at ps
  exact(ps.trans (List.Perm.cons k pm)).trans (by rw[yk];exact(List.perm_append_singleton k _).symm)
theorem GH:∀(l:List (Option Nat)) (b:Nat),((List.range l.length).filterMap λj=>(l.getD j none).map (b+j, ·)).map (·.2)=l.filterMap id
 |[],_=>rfl
 |x::l,b=>by
  have ih:=GH l (b+1);rw[aZ,lZ,jX];have e:((List.range l.length).map Nat.succ).filterMap (λj=>((x::l).getD j none).map (b+j, ·))=(List.range l.length).filterMap λj=>(l.getD j none).map (b+1+j, ·):=by
   rw[List.filterMap_map];refine dc (λf=>(List.range l.length).filterMap f) (funext λj=> ?_);show(l.getD j none).map (b+(j+1), ·)=_;rw[show b+(j+1)=b+1+j by omega]
  rw[e];cases x with
  |none=>exact ih
  |some v=>
   show v::_=v::_;rw[ih]
theorem LF{m:Nat}(c:VM m=true)(hs:Array Int)(n:hs.size<=m)(fg mv:Nat)(led plain:Bool):∃t o,SetTable.laid m fg mv led plain hs=some (t,o)/\o.toList.Perm (List.range hs.size)/\t.fits hs.size=true/\t.mask=m/\t.dummies= #[]/\t.led=led/\t.plain=plain:=by
 obtain⟨ow,e,sz,pm⟩:=GQ c hs.toList (Array.replicate (m+1) none) 0 (Array.size_replicate ..) (by
  have:held (Array.replicate (m+1) none)=[]:=by
   show(Array.replicate (m+1) none).toList.filterMap id=[];rw[Array.toList_replicate,List.filterMap_eq_nil_iff];intro a ha;exact(List.mem_replicate.mp ha).2
  rw[this];exact .refl _) (by rw[rj,bx];exact n)
 rw[rj,bx] at e pm
 have ec:SetTable.layClean m hs=some ow:=by
  unfold SetTable.layClean;rw[<-Array.foldl_toList];have e2:hs.toList.foldl (EC m) (some (Array.replicate (m+1) none,0))=some (ow,hs.size):=e;exact dc (Option.map (·.1)) e2
 have ls:=GH ow.toList 0;rw[bx,sz] at ls
 have le:((List.range (m+1)).filterMap λj=>(ow.getD j none).map (j, ·))=(List.range (m+1)).filterMap λj=>(ow.toList.getD j none).map (0+j, ·):=by
  refine dc (λf=>(List.range (m+1)).filterMap f) (funext λj=> ?_);rw[rj,jC,fJ,eC]
 refine⟨_,_,by unfold SetTable.laid;rw[ec];rfl, ?_, ?_,rfl,rfl,rfl,rfl⟩
 ·show(((List.range (m+1)).filterMap λj=>(ow.getD j none).map (j, ·)).map (·.2)).Perm _;rw[le,ls];exact pm
 ·have ll:((List.range (m+1)).filterMap λj=>(ow.getD j none).map (j, ·)).length=hs.size:=by
   rw[le,<-ao (f:=(·.2)),ls,pm.length_eq,l8]
  simp only [SetTable.fits,SetTable.fill,aL,ao,ll,Array.size_empty,Nat.add_zero,cX,gR,FI];exact n
section
variable {P:bo} {w:World} {A:bK} {E:af->ah->Prop} {s:ah}
abbrev ZV(led:Bool):Obj:=ng #[] 0 (.fresh 0 0 led)
abbrev t5(w:World):Obj:=ZV (!Be w)
theorem EB(w:World):(!Be w)=true\/Be w=true:=by cases Be w<;>simp
theorem Cr(ep:Nat){h:Heap}{a:aj}(e:h.get? a=some (ng #[] ep (.fresh 0 0 (!Be w)))):gq P w h a []:=
 ⟨#[],ep,_,e,⟨λe he=>by simp at he,.refl _⟩,rfl,EB w,λ_=>rfl⟩
def ZdU(w:World)(h:Heap)(a:aj)(n:Nat):Prop:=∃ep t,h.get? a=some (ng #[] ep t)/\t.place= #[]/\t.dummies= #[]/\VM t.mask=true/\n<=t.mask/\(t.led=true\/Be w=true)
theorem MM:∀n<16,5<=n->(SetTable.sizeAbove (n*2)-1=15\/SetTable.sizeAbove (n*2)-1=31)/\n<=SetTable.sizeAbove (n*2)-1/\SetTable.sizeAbove (n*2)<=64:=by decide+kernel
theorem Gf{m:Nat}(h:m=15\/m=31):VM m=true:=by
 rcases h with rfl|rfl
 ·exact Za4
 ·exact Za3
theorem Td{S:aj}{n:Nat}{Q:Unit->ah->Prop}(hS:s.heap.get? S=some (t5 w))(l:n<=15)(q:∀h',Heap.SameBut S s.heap h'->ZdU w h' S n->Q () {s with heap:=h'}):wpAny (model P w) A (setRoomFor S n) Q E s:=by
 unfold setRoomFor;refine aa (c_ hS U U ?_);have er:(SetTable.fresh 0 0 (!Be w)).roomFor n=if n*5≥21 then some (n*2) else none:=by
  show(if(0+n)*5≥7*3 then some ((0+n)*2) else none)=_;rw[rj]
 dsimp only
 rw[er]
 by_cases z:n*5≥21
 ·rw[bg z];obtain⟨hm,hl,hz⟩:=MM n (by omega) (by omega);show wpAny _ _ (setRelay S (n*2)) _ _ _;unfold setRelay;refine aa (c_ hS U U ?_)
  dsimp only
  rw[aX (by rw[cJ];omega)]
  obtain⟨t,o,e1,e2,e3,e4,e5,e9,_⟩:=LF (Gf hm) #[] (bz _) 0 ((SetTable.fresh 0 0 (!Be w)).movedTo (SetTable.sizeAbove (n*2)-1)) (!Be w) true;have e2:o.toList.Perm []:=e2;have e6:o= #[]:=IT.mp (List.perm_nil.mp e2);subst e6;have e7:(SetTable.fresh 0 0 (!Be w)).relaid ((#[]:Array (Int×af)).map (·.1)) (n*2)=some (t, #[]):=by
   rw[Array.map_empty];exact e1
  have e8:t.place= #[]:=by
   simp only [SetTable.fits,cZ,g6] at e3
   exact Array.eq_empty_of_size_eq_zero e3.1
  rw[e7];refine aa (aq ?_);refine wpAny_storeSet_of hS U (q _ (dC s.heap S _) ⟨1,t, ?_,e8,e5,by rw[e4];exact Gf hm,by rw[e4];exact hl,by rw[e9];exact EB w⟩) (bz _)
  exact f_ (Obj.putSet #[] t) hS U
 ·rw[aX z];refine aq (q s.heap (iO ..) ⟨0,_,hS,U,U,ZdL, ?_,EB w⟩);show n<=7;omega
theorem Qp{S O:aj}{ks:List Str}{each:Sem Unit}{Q:Unit->ah->Prop}(hS:s.heap.get? S=some (t5 w))(hO:gq P w s.heap O ks)(ne:S≠O)(l:ks.length<=15)
  (q:∀h',Heap.SameBut S s.heap h'->gq P w h' S ks->Q () {s with heap:=h'}):wpAny (model P w) A (setMerge S O each) Q E s:=by
 obtain⟨es,ep,t,ho,L,T⟩:=hO;have hb:es.size<scanBound:=by rw[L.size];unfold scanBound;omega
 unfold setMerge;rw[aX (by simpa using ne)];refine aa (c_ ho U T.fits ?_)
 dsimp only
 by_cases z:es.isEmpty=true
 ·rw[bg z];have z0:es= #[]:=by simpa using z
  have k0:ks=[]:=eV (by rw[<-L.size,z0];rfl)
  subst k0;exact aq (q s.heap (iO ..) (Cr 0 hS))
 ·rw[aX z];have np:t.plain=false:=by
   cases c:t.plain with
   |false=>rfl
   |true=>exact absurd (by simpa using T.plain c) z
  refine aa (Td hS (by rw[L.size];exact l) λh1 sb ⟨ep1,t1,g1,p1,d1,c1,n1,l1⟩=> ?_)
  refine aa (c_ (s:={s with heap:=h1}) g1 U (by simp[SetTable.fits,SetTable.fill,p1,d1]) ?_)
  dsimp only
  have f0:t1.fill=0:=by simp[SetTable.fill,p1,d1]
  have er:t1.road t=if t1.mask==t.mask&&t.dummies.isEmpty then .slotForSlot else .clean:=by
   unfold SetTable.road;rw[f0]
   rfl
  have lb:(t1.led&&t.led)=true\/Be w=true:=by
   rcases l1 with h|h
   ·rcases T.led with h'|h'
    ·exact .inl (by rw[h,h'];rfl)
    ·exact .inr h'
   ·exact .inr h
  have pb:(t1.plain&&t.plain)=false:=by rw[np,rE]
  rw[er]
  by_cases c:(t1.mask==t.mask&&t.dummies.isEmpty)=true
  ·rw[bg c];exact wpAny_storeSet_of (s:={s with heap:=h1}) g1 U (q _ (sb.trans (dC h1 S _)) ⟨es,_,_,tD g1,L,T.fits,lb,λz=>by rw[show(t1.plain&&t.plain)=true from z] at pb;cases pb⟩) (yj hb)
  ·rw[aX c];obtain⟨t2,od,e1,e2,e3,e4,e5,e6,e7⟩:=LF c1 (es.map (·.1)) (by rw[Array.size_map];exact n1) t1.finger t1.moves (t1.led&&t.led) (t1.plain&&t.plain)
   rw[Array.size_map] at e2 e3
   have pm:(od.filterMap (es[·]?)).toList.Perm es.toList:=by
    rw[Array.toList_filterMap];refine(e2.filterMap _).trans ?_;rw[filterMap_getElem?_range]
   have sz:(od.filterMap (es[·]?)).size=es.size:=by rw[<-bx,pm.length_eq,bx]
   rw[e1];refine aa (cL (λh=> ?_) (λ_=>aq ?_))
   ·rw[sz] at h
    simp at h
   exact wpAny_storeSet_of (s:={s with heap:=h1}) g1 U (q _ (sb.trans (dC h1 S _)) ⟨_,_,t2,tD g1,L.perm pm,by rw[sz];exact e3,by rw[e6];exact lb,λz=>by rw[e7,pb] at z;cases z⟩) (yj (by rw[sz];exact hb))
theorem wp_choose{src:Source}{n:Nat}{Q:Nat->ah->Prop}(hn:n≠0)(h:∀i d,i<n->Q i {s with drawn:=d}):wpAny (model P w) A (choose src n) Q E s:=λΓ p _=>by
 show Sem.wp _ Γ (.choose src n .pure) _ _ p s;rw[Sem.wp];exact⟨hn,h _ _ (xf _ (Dv hn))⟩
theorem qy{α:Type}:∀(l:List α) (i:Nat) (h:i<l.length),(l[i]::l.eraseIdx i).Perm l
 |[],_,h=>absurd h (eI _)
 |x::l,0,_=> .refl _
 |x::l,i+1,h=>(List.Perm.swap x (l[i]'(xg h)) _).trans ((qy l i (xg h)).cons x)
theorem LY{α:Type}:∀(n:Nat) (xs:List α) (s:ah) {Q:List α->ah->Prop},n=xs.length->(∀ys d,ys.Perm xs->Q ys {s with drawn:=d})->wpAny (model P w) A (drawOrder n xs) Q E s
 |0,xs,s,Q,e,h=>by
  have:xs=[]:=eV e.symm;subst this;exact aq (h [] s.drawn (.refl _))
 |n+1,[],s,Q,e,h=>by cases e
 |n+1,x::xs,s,Q,e,h=>by
  unfold drawOrder;refine aa (wp_choose (by simp) λi d hi=> ?_);rw[aK hi];have e:n+1=xs.length+1:=e;refine aa (LY n _ _ (by rw[List.length_eraseIdx,bg hi,aZ];omega) λys d2 p=>aq (h _ d2 ?_))
  exact(p.cons _).trans (qy _ _ hi)
theorem Ll{α:Type}(nx:Nat->Nat):∀(n k:Nat) (l:List α) (o:Array α),l.length=n->(pickOrder.go nx n k l o).toList.Perm (o.toList++l)
 |0,k,l,o,e=>by
  have:l=[]:=eV e;subst this;rw[cE];exact .refl _
 |n+1,k,l,o,e=>by
  unfold pickOrder.go;have lt:nx k%l.length<l.length:=xf _ (by omega);rw[aK lt];refine(Ll nx n (k+1) _ _ (by rw[List.length_eraseIdx,bg lt];omega)).trans ?_
  rw[Array.toList_push,dj];exact List.Perm.append_left _ (qy _ _ lt)
theorem Lk{α:Type}(nx:Nat->Nat)(xs:Array α):(pickOrder nx xs).toList.Perm xs.toList:=Ll nx _ 0 xs.toList #[] bx
theorem jY{Q:Bool->ah->Prop}(h:Q (Be w) s):wpAny (model P w) A setsByText Q E s:=aa (zC (aq h))
theorem wO{α:Type}(xs:Array α){i:Nat}(h:i<xs.size):(SetTable.eraseAt xs i).toList=xs.toList.eraseIdx i:=by
 unfold SetTable.eraseAt;rw[Array.toList_append,Array.toList_extract,Array.toList_extract,List.eraseIdx_eq_take_drop_succ];simp only [List.extract,zI,Nat.sub_zero];rw[dg (l:=xs.toList.drop (i+1)) (by rw[nO,bx];omega)]
theorem ug.drop{ks:List Str}{es:Array (Int×af)}{x:Str}{i:Nat}(L:ug P w ks es)(lt:i<es.size)(hx:pC es[i]=x):ug P w (ks.erase x) (SetTable.eraseAt es i):=by
 have lt':i<es.toList.length:=by rw[bx];exact lt
 have p:=qy es.toList i lt';have pk:=(p.map pC).trans L.keys;rw[aT] at pk
 have e0:pC es.toList[i]=x:=by rw[Array.getElem_toList];exact hx
 rw[e0] at pk
 have mx:x∈ks:=pk.mem_iff.mp (.head _);have el:=wO es lt;refine⟨λe he=>L.el e (p.mem_iff.mp (.tail _ (el▸he))), ?_⟩;rw[el];exact(pk.trans (List.perm_cons_erase mx)).cons_inv
theorem DC{es:List (Int×af)}(h:ElemsOf (strKind P w) es):∀e∈es,∃x t,e=((strKind P w).hash x,Value.str x t):=λe he=>by
 obtain⟨⟨k,hk,hh⟩,_⟩:=h e he;obtain⟨a,v⟩:=e;obtain⟨t,rfl⟩:=Value.isStrOf_shape hk;exact⟨k,t,by rw[<-show a=(strKind P w).hash k from hh]⟩
theorem Gi{β:Type}{b0:β}{f:Int×af->β->Sem (ForInStep β)}{es:Array (Int×af)}{Q:β->ah->Prop}(h:ElemsOf (strKind P w) es.toList)(hf:∀k x t,f (k,Value.str x t) b0=pure (.yield b0))(q:Q b0 s):wpAny (model P w) A (forIn es b0 f) Q E s:=by
 refine forIn_array_ f (λrest b s'=>b=b0/\s'=s/\ElemsOf (strKind P w) rest) Q (λe rest b s' h=> ?_) (λb s' h=> ?_) es b0 ⟨U,U,h⟩
 ·obtain⟨rfl,rfl,he⟩:=h;obtain⟨x,t,rfl⟩:=DC he e (.head _);rw[hf];exact aq ⟨U,U,he.tail⟩
 ·obtain⟨rfl,rfl,_⟩:=h;exact q
theorem MO{a b:aj}{ks ls:List Str}{Q:Bool->ah->Prop}(ha:gq P w s.heap a ks)(hb:gq P w s.heap b ls)(q:Q true s):wpAny (model P w) A (setsQuiet [a,b]) Q E s:=by
 obtain⟨es,ep,t,ho,L,T⟩:=ha;obtain⟨Zj,ep2,t2,Za,L2,T2⟩:=hb;unfold setsQuiet;simp only [List.forIn_cons,List.forIn_nil];refine aa (aa (aa (wpAny_setEntries_of ho U T.fits (aa (Gi L.el (λ_ _ _=>rfl) (aq ?_))))));refine aa (aa (wpAny_setEntries_of Za U T2.fits (aa (Gi L2.el (λ_ _ _=>rfl) (aq ?_)))));exact aq (aq q)
theorem SA{a:aj}{es:Array (Int×af)}{ep:Nat}{t:SetTable}{Q:Array (Int×af)->ah->Prop}(ho:s.heap.get? a=some (ng es ep t))(hf:t.fits es.size=true)(c:Be w=true\/(t.led=true/\t.plain=true)\/es.size<=1)
  (q:∀ys:Array (Int×af),ys.toList.Perm es.toList->Q ys s):wpAny (model P w) A (setWalk a) Q E s:=by
 unfold setWalk;refine aa (c_ ho U hf ?_)
 dsimp only
 refine aa (jY ?_);refine cL (λh=>aa (zC (aq (q _ (Lk _ _))))) (λh=> ?_);have c:(t.led=true/\t.plain=true)\/es.size<=1:=c.resolve_left h;refine cL (λz=> ?_) (λ_=> ?_)
 ·have z:(!t.plain&&decide (es.size>1))=true:=z;rcases c with ⟨_,c⟩|c
  ·rw[c] at z;cases z
  ·rw[bJ (by omega),rE] at z;cases z
 ·refine aa (cL (λz=> ?_) (λ_=>aq (aq (q _ (.refl _)))));have z:(!t.led&&decide (es.size>1))=true:=z;rcases c with ⟨c,_⟩|c
  ·rw[c] at z;cases z
  ·rw[bJ (by omega),rE] at z;cases z
theorem Mr{a b:aj}{ks ls:List Str}{es:Array (Int×af)}{ep:Nat}{t:SetTable}{Q:Array (Int×af)->ah->Prop}(ho:s.heap.get? a=some (ng es ep t))(L:ug P w ks es)(T:Fy w es.size t)(hb:gq P w s.heap b ls)(lb:ls.length<1000)
  (q:∀(ys:Array (Int×af)) h',ys.toList.Perm es.toList->Heap.SameBut b s.heap h'->gq P w h' b ls->Q ys {s with heap:=h'}):wpAny (model P w) A (setWalkUnseen a [b] (some b)) Q E s:=by
 unfold setWalkUnseen;refine aa (c_ ho U T.fits ?_)
 dsimp only
 refine aa (jY ?_);refine cL (λh=>SA ho T.fits ?_ λys p=>q ys s.heap p (iO ..) hb) (λh=> ?_)
 ·rcases Bool.or_eq_true_iff.mp h with h|h
  ·rcases Bool.or_eq_true_iff.mp h with h|h
   ·exact .inl h
   ·exact .inr (.inl (by simpa using h))
  ·exact .inr (.inr (by simpa using h))
 ·refine aa (MO ⟨es,ep,t,ho,L,T⟩ hb (cL (λz=>nomatch z) (λ_=>aa (rh ?_))));obtain⟨Zj,ep2,t2,Za,L2,T2⟩:=hb;refine aa (c_ Za U T2.fits ?_)
  dsimp only
  refine cL (λz=> ?_) (λz=>aq (q es s.heap (.refl _) (iO ..) ⟨Zj,ep2,t2,Za,L2,T2⟩));refine aa (wpAny_storeSet_of Za U (aq (q es _ (.refl _) (dC s.heap b _) ⟨Zj,_,_,tD Za,L2,T2.fits, ?_,λy=> ?_⟩)) ?_)
  ·show(t2.led&&t.led)=true\/_;rcases T2.led with h1|h1
   ·rcases T.led with h2|h2
    ·exact .inl (by rw[h1,h2];rfl)
    ·exact .inr h2
   ·exact .inr h1
  ·exact T2.plain (oY.mp (show(t2.plain&&t.plain)=true from y)).1
  ·rw[L2.size,cJ];omega
theorem qz{α:Type}(xs:Array α){i:Nat}(h:i<xs.size):(SetTable.eraseAt xs i).size=xs.size-1:=by
 rw[<-bx,wO xs h,List.length_eraseIdx,bx,bg h]
theorem BQ{α:Type}(xs:Array α)(p:Nat)(x:α):(SetTable.insertAt xs p x).size=xs.size+1:=by
 rw[<-bx,(SetTable.insertAt_perm xs p x).length_eq,bx,Array.size_push]
theorem Yp{n:Nat}{t:SetTable}{i:Nat}(T:Fy w n t)(h:i<n):Fy w (n-1) (t.drop i):=by
 have f:=T.fits;simp only [SetTable.fits,SetTable.fill,cZ,g6,FI] at f
 have lt:i<t.place.size:=by omega
 unfold SetTable.drop;rw[eR lt];refine⟨?_,T.led,λz=> ?_⟩
 ·obtain⟨f1,f2⟩:=f;have f2:t.place.size+t.dummies.size<=t.mask:=ba f2;have g:t.place.size-1+(t.dummies.size+1)<=t.mask:=by omega
  simp only [SetTable.fits,SetTable.fill,qz _ lt,BQ,cZ,g6,FI];exact⟨by rw[f1],g⟩
 ·have:=T.plain z;omega
theorem set_drop{a:aj}{ks:List Str}{x:Str}{tk:Tok}{Q:Bool->ah->Prop}(H:gq P w s.heap a ks)(l:ks.length<1000)
  (q:∀h',Heap.SameBut a s.heap h'->gq P w h' a (ks.erase x)->Q (decide (x∈ks)) {s with heap:=h'}):wpAny (model P w) A (setDiscardHashed a (.str x tk) ((strKind P w).hash x)) Q E s:=by
 obtain⟨es,ep,t,ho,L,T⟩:=H;have hb:es.size<scanBound:=by rw[L.size];unfold scanBound;omega
 unfold setDiscardHashed setFind setFindIn;refine aa (aa (c_ ho U T.fits ?_))
 dsimp only
 rw[byScan_of (knd:=strKind P w) rfl hb L.el];simp only [↓reduceIte];refine aa (rh (aa (wpAny_setScan_of (knd:=strKind P w) (strKind_is P w x tk) ho U T.fits L.el ?_)));cases hr:List.findIdx? (λe=>(strKind P w).is x e.2) es.toList with
 |none=>
  have hx:x∉ks:=λz=>by
   obtain⟨e,he,hp⟩:=(L.mem x).mp z;have:=List.findIdx?_eq_none_iff.mp hr e he;rw[hp] at this
   cases this
  have:=q s.heap (iO ..) (by rw[List.erase_of_not_mem hx];exact⟨es,ep,t,ho,L,T⟩)
  rw[bJ hx] at this
  exact aq (aq this)
 |some j=>
  obtain⟨hj,hp,_⟩:=List.findIdx?_eq_some_iff_getElem.mp hr;have hx:x∈ks:=(L.mem x).mpr ⟨_,iN hj,hp⟩;have UA:j<es.size:=by rw[<-bx];exact hj
  have kx:pC es[j]=x:=by
   have:=(key_is (k:=x) hp).mp hp;rw[Array.getElem_toList] at this
   exact this
  refine aq ?_;show wpAny _ _ (setState a>>=_) _ _ _;refine aa (c_ ho U T.fits ?_)
  dsimp only
  rw[rj];have fin:=q _ (dC s.heap a (Obj.putSet (SetTable.eraseAt es j) (t.drop j))) ⟨_,_,_,tD ho,L.drop UA kx,by rw[qz es UA];exact Yp T UA⟩
  rw[bf hx] at fin
  exact aa (wpAny_storeSet_of ho U (aa (wpAny_point (aq fin))) (by rw[qz es UA,cJ];unfold scanBound at hb;omega))
def jG(cur:List Str)(k:Str):List Str:=if k∈cur then cur.erase k else cur++[k]
theorem Rh(cur:List Str)(k:Str):(jG cur k).length<=cur.length+1:=by
 unfold jG
 split
 ·exact Nat.le_succ_of_le (List.length_erase_le ..)
 ·rw[bb];exact aE _
theorem UC{cur:List Str}{k:Str}(h:cur.Nodup):(jG cur k).Nodup:=by
 unfold jG
 split
 ·exact h.erase k
 ·rename_i n
  exact List.nodup_append.mpr ⟨h,by simp,λa ha b hb=>by rw[dm.mp hb];exact λe=>n (e▸ha)⟩
theorem Rg{cur:List Str}{k:Str}(h:cur.Nodup)(z:Str):z∈jG cur k↔(z∈cur/\z≠k)\/(z∉cur/\z=k):=by
 unfold jG
 by_cases m:k∈cur
 ·rw[bg m,h.mem_erase_iff]
  constructor
  ·exact λ⟨a,b⟩=> .inl ⟨b,a⟩
  ·rintro(⟨a,b⟩|⟨a,rfl⟩)
   ·exact⟨b,a⟩
   ·exact absurd m a
 ·rw[aX m,a8,dm]
  constructor
  ·rintro(a|rfl)
   ·exact .inl ⟨a,λe=>m (e▸a)⟩
   ·exact .inr ⟨m,U⟩
  ·rintro(⟨a,_⟩|⟨_,a⟩)
   ·exact .inl a
   ·exact .inr a
theorem C1:∀(ys cur:List Str),ys.Nodup->cur.Nodup->(ys.foldl jG cur).Nodup/\∀z,z∈ys.foldl jG cur↔(z∈cur/\z∉ys)\/(z∉cur/\z∈ys)
 |[],cur,_,h=>⟨h,λz=>by simp⟩
 |y::ys,cur,hy,h=>by
  obtain⟨ny,hy⟩:=cD.mp hy;obtain⟨n,m⟩:=C1 ys (jG cur y) hy (UC h);refine⟨n,λz=> ?_⟩;rw[jk,m z,Rg h z,List.mem_cons]
  by_cases e:z=y
  ·subst e
   by_cases c:z∈cur<;>simp[c,ny]
  ·by_cases c:z∈cur<;>simp[c,e]
theorem Rf{id:String}{S O:aj}{es:Array (Int×af)}{ep:Nat}{t:SetTable}{ls:List Str}{ys:Array (Int×af)}{Q:PUnit->ah->Prop}(ne:S≠O)(hO:s.heap.get? O=some (ng es ep t))(hf:t.fits es.size=true)(hS:gq P w s.heap S ls)(el:ElemsOf (strKind P w) ys.toList)(lb:ls.length+ys.size<1000)
  (q:∀h',Heap.SameBut S s.heap h'->gq P w h' S ((ys.toList.map pC).foldl jG ls)->Q () {s with heap:=h'}):
  wpAny (model P w) A (forIn ys PUnit.unit λx _=>match x with
   |(h,x)=>do
    holding [x] do
     let b<-setDiscardHashed S x h
     if(!b)=true then do
      let _<-setAddHashed S x h
      pure ()
     else pure ()
    Builtin.Frozenset.unchanged id O ep
    pure (ForInStep.yield PUnit.unit)) Q E s:=by
 refine forIn_array_ _ (λrest _ s'=>∃h' cur,s'={s with heap:=h'}/\Heap.SameBut S s.heap h'/\gq P w h' S cur/\ElemsOf (strKind P w) rest/\cur.length+rest.length<1000/\(rest.map pC).foldl jG cur=(ys.toList.map pC).foldl jG ls) Q (λe rest b s' h=> ?_) (λb s' h=> ?_) ys PUnit.unit ⟨s.heap,ls,U,iO ..,hS,el,by rw[bx];exact lb,U⟩
 ·obtain⟨h',cur,rfl,sb,st,el',l,ef⟩:=h;obtain⟨x,tk,rfl⟩:=DC el' e (.head _);have l':cur.length+(rest.length+1)<1000:=l;refine aa (cy (aa (set_drop (s:={s with heap:=h'}) st (by omega) λh2 Pm F2=> ?_)));have ef:(rest.map pC).foldl jG (jG cur x)=(ys.toList.map pC).foldl jG ls:=ef;have fl:=Rh cur x;have fin:∀h3 {Z:ForInStep PUnit->ah->Prop},Heap.SameBut S s.heap h3->Z (.yield ()) {s with heap:=h3}->wpAny (model P w) A (Builtin.Frozenset.unchanged id O ep>>=λ_=>pure (ForInStep.yield PUnit.unit)) Z E {s with heap:=h3}:=λh3 Z sb3 z=>by
   refine aa (aa (wpAny_setEpoch_of (s:={s with heap:=h3}) ((sb3.2 O (cY ne)).trans hO) U hf ?_));exact cL (λz=>by simp at z) (λ_=>aq (aq z))
  by_cases m:x∈cur
  ·rw[bf m];have Ou:gq P w h2 S (jG cur x):=by
    unfold jG;rw[bg m];exact F2
   refine cL (λz=>nomatch z) (λ_=>aq ?_);exact fin h2 (sb.trans Pm) ⟨h2,_,U,sb.trans Pm,Ou,el'.tail,by omega,ef⟩
  ·rw[bJ m];rw[List.erase_of_not_mem m] at F2
   refine cL (λ_=>aa (F9 (s:={s with heap:=h2}) F2 (by omega) λh3 b sb3 Ou=>aq ?_)) (λz=>absurd U z);have st4:gq P w h3 S (jG cur x):=by
    rw[aX m] at Ou
    unfold jG;rw[aX m];exact Ou
   exact fin h3 ((sb.trans Pm).trans sb3) ⟨h3,_,U,(sb.trans Pm).trans sb3,st4,el'.tail,by omega,ef⟩
 ·obtain⟨h',cur,rfl,sb,st,_,_,ef⟩:=h;have ef:cur=(ys.toList.map pC).foldl jG ls:=ef;exact q h' sb (ef▸st)
theorem gq.ty{a:aj}{ks:List Str}(H:gq P w s.heap a ks):s.TypeIs (.ref a) "set":=by
 obtain⟨es,ep,t,ho,_⟩:=H;exact⟨_,ho,U⟩
theorem zz{a:aj}{Q:Bool->ah->Prop}(hT:s.TypeIs (.ref a) "set")(h:Q true s):wpAny (model P w) A (Builtin.Frozenset.isAnySet (.ref a)) Q E s:=by
 unfold Builtin.Frozenset.isAnySet;exact aa (jf hT rA (aq h))
structure Mg (ks ls rs:List Str):Prop where
 nd:rs.Nodup
 mem:∀z,z∈rs↔(z∈ks/\z∉ls)\/(z∉ks/\z∈ls)
theorem Jc{id:String}{S O:aj}{ks ls:List Str}{Q:Unit->ah->Prop}(ne:S≠O)(hS:gq P w s.heap S ls)(hO:gq P w s.heap O ks)(nl:ls.Nodup)(nk:ks.Nodup)(l1:ls.length<=100)(l2:ks.length<=100)
  (q:∀h' rs,Heap.SameBut S s.heap h'->gq P w h' S rs->Mg ls ks rs->Q () {s with heap:=h'}):wpAny (model P w) A (Builtin.Frozenset.symmetricDifferenceUpdate id S (.ref O)) Q E s:=by
 have hT:=hO.ty;unfold Builtin.Frozenset.symmetricDifferenceUpdate;rw[aX (by intro h;exact ne.symm (by simpa using h))]
 refine aa (wpAny_typeOf hT ?_);rw[aX (by decide)];refine aa (zz hT ?_);rw[bg rfl];refine aa (aq (aa (aq ?_)));obtain⟨es,ep,t,ho,L,T⟩:=hO;refine aa (wpAny_setEpoch_of ho U T.fits (cy (aa (Mr ho L T hS (by omega) λys h1 p sb st=> ?_))));have L1:=L.perm p;have Uz:h1.get? O=some (ng es ep t):=(sb.2 O (cY ne)).trans ho;refine aa (Rf (s:={s with heap:=h1}) ne Uz T.fits st L1.el (by rw[L1.size];omega) λh2 Pm F2=>aq ?_)
 obtain⟨n,m⟩:=C1 (ys.toList.map pC) ls (L1.keys.nodup_iff.mpr nk) nl;refine q h2 _ (sb.trans Pm) F2 ⟨n,λz=> ?_⟩;rw[m z,L1.keys.mem_iff]
theorem TU{Q:af->ah->Prop}(h:Q (.ref s.heap.objs.size) {s with heap:=s.heap.push (t5 w)}):wpAny (model P w) A (newSet (.type "set")) Q E s:=by
 unfold newSet;refine aa (jY ?_);simp only [newObj];exact aa (wpAny_alloc (aq h))
theorem SJ{id:String}{a b:aj}{ks ls:List Str}{Q:af->ah->Prop}(ha:gq P w s.heap a ks)(hb:gq P w s.heap b ls)(nk:ks.Nodup)(nl:ls.Nodup)(l1:ks.length<=15)(l2:ls.length<=15)
  (q:∀h' rs,gq P w h' s.heap.objs.size rs->(∀c o,s.heap.get? c=some o->h'.get? c=some o)->Mg ls ks rs->Q (.ref s.heap.objs.size) {s with heap:=h'}):
  wpAny (model P w) A (do
   let c<-Builtin.Frozenset.baseOf a
   let r<-Builtin.Frozenset.newFrom id c (.ref b)
   let x<-Builtin.Frozenset.addrOf r
   holding [r] (Builtin.Frozenset.symmetricDifferenceUpdate id x (.ref a))
   pure r) Q E s:=by
 have lta:a<s.heap.objs.size:=by obtain⟨_,_,_,ho,_⟩:=ha;exact aW ho
 have ltb:b<s.heap.objs.size:=by obtain⟨_,_,_,ho,_⟩:=hb;exact aW ho
 unfold Builtin.Frozenset.baseOf Builtin.Frozenset.newFrom;refine aa (aa (jf ha.ty rA (aq ?_)));rw[bg rfl];have g0:(s.heap.push (t5 w)).get? s.heap.objs.size=some (t5 w):=aM _ rfl;have NQ:gq P w (s.heap.push (t5 w)) b ls:=hb.keep λo e=>ai _ e;have OA:gq P w (s.heap.push (t5 w)) a ks:=ha.keep λo e=>ai _ e;refine aa (aa (TU (aa (aq (aa (cy ?_))))));unfold Builtin.Frozenset.updateFrom Builtin.Frozenset.merge
 refine aa (zz (s:={s with heap:=s.heap.push (t5 w)}) NQ.ty ?_);rw[bg rfl];have hb2:=NQ;obtain⟨es,ep,t,ho,L,T⟩:=hb2;refine aa (aq (aa (wpAny_setEpoch_of (s:={s with heap:=s.heap.push (t5 w)}) ho U T.fits ?_)));refine Qp (s:={s with heap:=s.heap.push (t5 w)}) g0 NQ (jR ltb) l2 λh1 sb st=> ?_;refine aq (aa (aq (aa (cy ?_))));have VE:gq P w h1 a ks:=OA.keep λo e=>(sb.2 a (bc lta)).trans e;refine Jc (s:={s with heap:=h1}) (jR lta) st VE nl nk (by omega) (by omega) λh2 rs Pm F2 x=>aq (q h2 rs F2 (λc o e=> ?_) x)
 have nc:c≠s.heap.objs.size:=bc (aW e);exact(Pm.2 c nc).trans ((sb.2 c nc).trans (ai _ e))
theorem NY:entryFor table "set.__xor__"=some Builtin.«frozenset.__xor__»:=entryFor_alias (id':="frozenset.__xor__") (by kernel_rfl) rfl (by decide+kernel) (by kernel_rfl)
theorem TJ{a b:aj}{ks ls:List Str}{Q:af->ah->Prop}(ha:gq P w s.heap a ks)(hb:gq P w s.heap b ls)(nk:ks.Nodup)(nl:ls.Nodup)(l1:ks.length<=15)(l2:ls.length<=15)
  (q:∀h' rs,gq P w h' s.heap.objs.size rs->(∀c o,s.heap.get? c=some o->h'.get? c=some o)->Mg ls ks rs->Q (.ref s.heap.objs.size) {s with heap:=h'}):wpAny (model P w) A (binaryOp .BitXor (.ref a) (.ref b)) Q E s:=by
 refine wpAny_binaryOp_same (op:=.BitXor) ha.ty hb.ty PySem.F.fills_set_xor slot_set_xor ?_;refine gU (fH slot_set_xor.plain NY (slot_set_xor.check _ _ _ _ _ _ _ _ ha.ty (PySem.F.args_set_xor_2 _ _) ?_));unfold Builtin.«frozenset.__xor__»;refine aa (m:=Builtin.Frozenset.slot1 _ _) (aa (aq (aq ?_)));refine aa (m:=Builtin.Frozenset.isAnySet (.ref a)<&&>Builtin.Frozenset.isAnySet (.ref b)) (aa (zz ha.ty ?_))
 refine zz hb.ty (cL (λz=>nomatch z) (λ_=>aa (aq (aa ?_))));exact SJ ha hb nk nl l1 l2 λh' rs st kp x=>aq ⟨(λz=>nomatch z),q h' rs st kp x⟩
theorem RD(a:af){Q₁:af->ah->Prop}(h:Q₁ (.ref s.heap.objs.size) {s with heap:=s.heap.push (t5 w)}):codeAny (model P w) A (.call (.builtin "set.__new__") ⟨[.type "set",a],[]⟩) (wants Q₁ E) s:=by
 refine codeAny_of_tree (show wpAny _ A.in1 (checkBuiltinCall "set.__new__" ⟨[.type "set",a],[]⟩>>=λ_=>again (.builtin "set.__new__" ⟨[.type "set",a],[]⟩)) _ _ s from aa (kI (PySem.F.newCall_set_1 a) (aq ⟨de YG _,cW PySem.F.entry_set_new ?_⟩)));rw[cP YG _];unfold Builtin.«set.__new__» Builtin.Frozenset.newClass;have sub:=rA;obtain⟨hp,g,d,tk,os⟩:=s
 dsimp only
 wp_walk
 refine zC (aq ?_);simp only [newObj];exact aa (wpAny_alloc (aq (aq h)))
set_option maxHeartbeats 3000000 in
theorem Ob{l:aj}{its:Array af}{ws:List Str}{Q:af->ah->Prop}(hh:A.handled=none)(hl:s.heap.IsList l its)(rel:∀(i:Nat) (v:af),its[i]? =some v->∃t,v=Value.str (ws.getD i default) t)(lw:its.size=ws.length)(lb:ws.length<1000)
  (q:∀h' tk,gq P w h' s.heap.objs.size (uniq [] ws)->(∀b o,s.heap.get? b=some o->h'.get? b=some o)->Q (.ref s.heap.objs.size) {s with heap:=h',toks:=tk}):wpAny (model P w) A (call (.type "set") [.ref l]) Q E s:=by
 have C:=PySem.F.called_set;obtain⟨_,_,mro⟩:=C.mro;have made:=C.made;have sub:=C.sub;have nt:=C.notType;have cc:=C.canCreate;have ct:=PySem.F.typeCall_set_1 (.ref l);refine gU (codeAny_of_tree (show wpAny _ _ (callAny (.type "set") _) _ _ _ from aq ⟨mY _ (by decide+kernel),cW PySem.F.entry_type_call ?_⟩));rw[Around.under_plain (weight_type_call_type "set" [.ref l] []) rfl]
 repeat any_goals first|assumption|wp_step
 refine gA (RD (.ref l) (E:=E) (Q₁:=λo s₁=>o=.ref s.heap.objs.size/\s₁={s with heap:=s.heap.push (t5 w)}) ⟨U,U⟩) λr s₁ hr=> ?_;cases r with
 |error e=>exact hr
 |ok fl=>
  cases fl with
  |ret ob=>
   obtain⟨rfl,rfl⟩:=hr;have ty:Shared.TypeIs {s with heap:=s.heap.push (t5 w)} (.ref s.heap.objs.size) "set":=⟨_,aM _ rfl,rfl⟩
   have lk:=C.init.lookup;have bd:=C.init.bind (.ref s.heap.objs.size)
   repeat any_goals first|assumption|wp_step
   refine gA (fH (R:=wants (λr s₂=>r=.none/\Q (.ref s.heap.objs.size) s₂) E) C.init.plain PySem.F.entry_set_init (PySem.check_set_init_1 ty ?_)) λr₂ s₂ hr₂=> ?_
   ·obtain⟨⟨lc,ld,la,lo⟩,hol,hc,nl,hd⟩:=hl;obtain rfl:lc=.type "list":=hc;obtain rfl:la=.seq its nl:=hd;have Zc2:(s.heap.push (t5 w)).get? l=some {cls:=.type "list",dict:=ld,data:=.seq its nl,slots:=lo}:=ai _ hol;have ls:l<s.heap.objs.size:=aW hol;have s1:=PySem.F.sub_list_set;have s2:=PySem.F.sub_list_frozenset;have ne:(Value.type "list"==Value.type "dict")=false:=by decide
    have hl1:(s.heap.push (t5 w)).IsList l its:=⟨_,Zc2,rfl,nl,rfl⟩
    have sz:(s.heap.push (t5 w)).objs.size=s.heap.objs.size+1:=fE ..;unfold Builtin.«set.__init__» noKeywords Builtin.Frozenset.updateFrom;generalize hPI:pyIter=PI
    wp_walk
    subst hPI;refine fk hl1 (aa (wpAny_runValue ?_));refine Pe (l:=l) (its:=its) (ws:=ws) (by simp[hh]) (by rw[sz];exact bc (di ls)) (by rw[sz];exact bc (eh _)) (jR ls) rel lw lb ws.length 0 _ (Nat.sub_zero _) (bz _) ⟨_,aM _ U,U,U⟩ (hl1.push _) ((Cr 0 (aM s.heap U)).keep λo e=>ai _ e) λh' tk st kp=> ?_
    refine aq ?_;show wpAny _ _ (ret Value.none) _ _ _;refine aq ⟨U,q h' tk st λb o e=>kp b o (bc (aW e)) (by rw[sz];exact bc (di (aW e))) (ai _ (ai _ e))⟩
   ·cases r₂ with
    |error e=>exact hr₂
    |ok fl₂=>
     cases fl₂ with
     |ret r=>
      obtain⟨rfl,hq⟩:=hr₂
      repeat any_goals first|assumption|wp_step
     |_=>exact hr₂.elim
  |_=>exact hr.elim
end
theorem pj:Slot "set_iterator" "__next__" "set_iterator.__next__":=by
 refine .of (owner:="set_iterator") (n:="__next__") ?_ (by decide+kernel) (by decide+kernel) (by decide+kernel) ?_ ?_
 ·rw[typeLookup_type,Dr]
  kernel_rfl
 ·first
   |exact .inl (by decide+kernel)
   |exact .inr (by decide+kernel)
 ·rw[isSubtype_type]
  kernel_rfl
theorem Cq:entryFor table "set_iterator.__next__"=some Builtin.«set_iterator.__next__»:=entryFor_of_tree (by kernel_rfl)
theorem zY:entryFor table "set.__iter__"=some Builtin.«frozenset.__iter__»:=entryFor_alias (id':="frozenset.__iter__") (by kernel_rfl) rfl (by decide+kernel) (by kernel_rfl)
theorem F7(a:af):argsOk "set_iterator.__next__" ⟨[a],[]⟩:=by
 unfold argsOk
 kernel_rfl
section
variable {P:bo} {w:World} {A:bK} {E:af->ah->Prop} {s:ah}
abbrev m_(f:af)(i:Nat)(a:aj)(n ep:Nat):Obj:={cls:=.type "set_iterator",data:=.fields #[f,.int i 0,.ref a,.int n 0,.int ep 0]}
abbrev yG(ps:List Nat):Obj:={cls:=.type "tuple",data:=.seq (ps.map λi:Nat=>Value.int (i:Int) 0).toArray}
theorem QP{a:aj}{es:Array (Int×af)}{ep:Nat}{t:SetTable}{Q:af->ah->Prop}(ho:s.heap.get? a=some (ng es ep t))(T:Fy w es.size t)(l:es.size<1000)
  (q1:(Be w=true\/es.size<=1)->Q (.ref s.heap.objs.size) {s with heap:=s.heap.push (m_ (.int 0 0) 0 a es.size ep)})
  (q2:1<es.size->∀(ps:List Nat) d,ps.Perm (List.range es.size)->Q (.ref (s.heap.objs.size+1)) {s with heap:=(s.heap.push (yG ps)).push (m_ (.ref s.heap.objs.size) 0 a es.size ep),drawn:=d}):wpAny (model P w) A (pyIter (.ref a)) Q E s:=by
 have hT:s.TypeIs (.ref a) "set":=⟨_,ho,rfl⟩
 refine wpAny_pyIter_slot hT YF (wpAny_call_entry YF hT zY ?_ (PySem.F.args_set_iter_1 _));unfold Builtin.«frozenset.__iter__»;refine aa (m:=Builtin.Frozenset.slot0 _ _) (aa (aq (aq ?_)));refine aa (m:=Builtin.Frozenset.sizeOf a) (aa (wpAny_setEntries_of ho U T.fits (aq ?_)));refine aa (m:=setDrawn a) (aa (c_ ho U T.fits (aa (jY (aq ?_)))));have en:∀(f:af) (s1:ah),s1.heap.get? a=some (ng es ep t)->∀{Z:PySem.Fin->ah->Prop},Z (.done (.ret (.ref s1.heap.objs.size))) {s1 with heap:=s1.heap.push (m_ f 0 a es.size ep)}->wpAny (model P w) A.in1 (do
   let e<-setEpoch a
   let r<-newFields "set_iterator" [f,rawInt 0,.ref a,rawInt (es.size:Int),rawInt (e:Int)]
   ret r) Z E s1:=λf s1 h1 Z z=>by
  refine aa (wpAny_setEpoch_of h1 U T.fits ?_);unfold newFields;exact aa (wpAny_newObj_type (aq z))
 refine cL (λz=> ?_) (λz=> ?_)
 ·obtain⟨_,z⟩:=oY.mp z;have z:(!t.plain&&decide (es.size>1))=true:=z;have lt:1<es.size:=ba (oY.mp z).2;refine aa (LY es.size (List.range es.size) s (by rw[l8]) λps d p=> ?_);have lp:ps.length=es.size:=by rw[p.length_eq,l8]
  unfold newTuple;refine aa (wpAny_newObj_type ?_ (by show _<=_;rw[cJ];simp only [aL,ao,lp];omega))
  refine en _ {s with heap:=s.heap.push (yG ps),drawn:=d} (ai _ ho) ⟨_,U,"set_iterator",_,⟨_,aM _ U,U⟩,pj.lookup, ?_⟩;have sz:(s.heap.push (yG ps)).objs.size=s.heap.objs.size+1:=fE ..;have:=q2 lt ps d p;rw[<-sz] at this
  exact this
 ·refine aa (aq (en _ s ho ⟨_,U,"set_iterator",_,⟨_,aM _ U,U⟩,pj.lookup,q1 ?_⟩));cases c:Be w with
  |true=>exact .inl U
  |false=>
   refine .inr (fX λlt=>z ?_);have np:t.plain=false:=by
    cases c2:t.plain with
    |false=>rfl
    |true=>have:=T.plain c2;omega
   show(!Be w&&(!t.plain&&decide (es.size>1)))=true;rw[c,np,bf (show es.size>1 from lt)]
   rfl
theorem y8{it:aj}{f v:af}{i k:Nat}{a:aj}{n ep:Nat}{h:Heap}(hi:h.get? it=some (m_ f i a n ep)):(h.update it (Obj.mapFields (·.setIfInBounds k v))).get? it=some {cls:=.type "set_iterator",data:=.fields (#[f,.int i 0,.ref a,.int n 0,.int ep 0].setIfInBounds k v)}:=f_ _ hi rfl
theorem F6{it:aj}{f:af}{i:Nat}{a:aj}{n ep:Nat}{Z:PySem.Fin->ah->Prop}{Y:af->ah->Prop}(hh:A.handled=none)(hi:s.heap.get? it=some (m_ f i a n ep))(q:∀e h',Heap.ExtBut it s.heap h'->Shared.TypeIs {s with heap:=h'} e "StopIteration"->Y e {s with heap:=h'}):
  wpAny (model P w) A (do
   setField (.ref it) 2 .none
   let e<-newExc (.type "StopIteration") []
   raiseNew e) Z Y s:=by
 refine aa (wpAny_setField hi U (by simp) (aa ?_));simp only [newExc,newTuple,raiseNew];refine aa (wpAny_newObj_type (aa (m:=firstArgMember _ _) (kI (a:=Value.none) U (wpAny_newObj_type (aa (wpAny_handled ?_))))));rw[hh];refine aa (aq (wpAny_throw (q _ _ (((dC ..).extBut.push _).push _) ?_)));exact⟨_,aM _ U,U⟩
theorem tw{it:aj}{k i:Nat}{a:aj}{es:Array (Int×af)}{ep:Nat}{t:SetTable}{r:Option (af×Nat)}{Q:Option af->ah->Prop}(hh:A.handled=none)(hi:s.heap.get? it=some (m_ (.int k 0) i a es.size ep))(ho:s.heap.get? a=some (ng es ep t))(hf:t.fits es.size=true)
  (hs:∀{Z:Option (af×Nat)->ah->Prop} {Y:af->ah->Prop},Z r s->wpAny (model P w) A.in1 (setNext a k i ep) Z Y s)
  (q1:∀x nx h',r=some (x,nx)->Heap.SameBut it s.heap h'->h'.get? it=some (m_ (.int nx 0) (i+1) a es.size ep)->Q (some x) {s with heap:=h'})
  (q2:r=none->∀h',Heap.ExtBut it s.heap h'->Q none {s with heap:=h'}):wpAny (model P w) A (pyNext (.ref it)) Q E s:=by
 have hT:s.TypeIs (.ref it) "set_iterator":=⟨_,hi,rfl⟩
 unfold pyNext;refine aa (jQ (wpAny_callSpecial?_slot (name:=Str.ofString "__next__") hT pj (wpAny_call_entry pj hT Cq ?_ (F7 _))));unfold Builtin.«set_iterator.__next__»;refine aa (aq ?_);refine aa (wpAny_fieldsOf hi U ?_);refine aa (wpAny_setEntries_of ho U hf ?_);rw[aX (by simp)];refine aa (hs ?_);cases r with
 |some p=>
  obtain⟨x,nx⟩:=p;show wpAny _ _ (setField (.ref it) 0 (rawInt (nx:Int))>>=_) _ _ s;refine aa (wpAny_setField hi U (by simp) ?_);have h1:=y8 (k:=0) (v:=rawInt (nx:Int)) hi;refine aa (wpAny_setField (s:={s with heap:=s.heap.update it (Obj.mapFields (·.setIfInBounds 0 (rawInt (nx:Int))))}) h1 rfl (by simp) ?_);have h2:=y8 (k:=1) (v:=rawInt ((i:Int)+1)) (f:=rawInt (nx:Int)) h1;refine aq ⟨_,U,aq (q1 x nx _ U ((dC s.heap it _).trans (dC _ it _)) h2)⟩
 |none=>
  refine F6 (A:=A.in1) hh hi λe h' eb ty=> ?_;refine aa (jf (T:="StopIteration") (b:=true) ty isSubtype_stop ?_);exact aq (q2 U h' eb)
theorem F5{it T:aj}{i:Nat}{a:aj}{es:Array (Int×af)}{ep:Nat}{t:SetTable}{ps:List Nat}{Q:Option af->ah->Prop}(hh:A.handled=none)(hi:s.heap.get? it=some (m_ (.ref T) i a es.size ep))(hP:s.heap.get? T=some (yG ps))(ho:s.heap.get? a=some (ng es ep t))(hf:t.fits es.size=true)(hp:∀p∈ps,p<es.size)
  (q1:∀p x h',ps[i]? =some p->es[p]? =some x->Heap.SameBut it s.heap h'->h'.get? it=some (m_ (.ref T) (i+1) a es.size ep)->Q (some x.2) {s with heap:=h'})
  (q2:ps.length<=i->∀h',Heap.ExtBut it s.heap h'->Q none {s with heap:=h'}):wpAny (model P w) A (pyNext (.ref it)) Q E s:=by
 have hT:s.TypeIs (.ref it) "set_iterator":=⟨_,hi,rfl⟩
 unfold pyNext;refine aa (jQ (wpAny_callSpecial?_slot (name:=Str.ofString "__next__") hT pj (wpAny_call_entry pj hT Cq ?_ (F7 _))));unfold Builtin.«set_iterator.__next__»;refine aa (aq ?_);refine aa (wpAny_fieldsOf hi U ?_);refine aa (wpAny_setEntries_of ho U hf ?_);rw[aX (by simp)];show wpAny _ _ (seqItems? (.ref T)>>=_) _ _ s;refine aa (wpAny_seqItems hP U ?_);cases e:ps[i]? with
 |some p=>
  have lp:=hp p (cI e);have ea:(ps.map λi:Nat=>Value.int (i:Int) 0).toArray[(i:Int).toNat]? =some (.int (p:Int) 0):=by
   rw[jB,List.getElem?_toArray,cj,e]
   rfl
  dsimp only
  rw[ea];show wpAny _ _ (setNextDrawn a (p:Int).toNat (ep:Int).toNat>>=_) _ _ s;rw[jB,jB];unfold setNextDrawn;refine aa (aa (c_ ho U hf ?_))
  dsimp only
  rw[aX (by simp),eR lp];refine aq (aa (wpAny_setField hi U (by simp) ?_));have h2:=y8 (k:=1) (v:=rawInt ((i:Int)+1)) hi;exact aq ⟨_,U,aq (q1 p es[p] _ e (eR lp) (dC s.heap it _) h2)⟩
 |none=>
  have ea:(ps.map λi:Nat=>Value.int (i:Int) 0).toArray[(i:Int).toNat]? =none:=by
   rw[jB,List.getElem?_toArray,cj,e]
   rfl
  dsimp only
  rw[ea];show wpAny _ _ (setField (.ref it) 0 (rawInt 0)>>=_) _ _ s;refine aa (wpAny_setField hi U (by simp) ?_);have h1:(s.heap.update it (Obj.mapFields (·.setIfInBounds 0 (rawInt 0)))).get? it=some (m_ (rawInt 0) i a es.size ep):=y8 (k:=0) (v:=rawInt 0) hi;refine F6 (A:=A.in1) (s:={s with heap:=s.heap.update it (Obj.mapFields (·.setIfInBounds 0 (rawInt 0)))}) hh h1 λe' h' eb ty=> ?_;refine aa (jf (T:="StopIteration") (b:=true) ty isSubtype_stop ?_)
  exact aq (q2 (List.getElem?_eq_none_iff.mp e) h' λb o nb e1=>eb b o nb ((dC s.heap it _).extBut b o nb e1))
theorem CF{a:aj}{k i:Nat}{es:Array (Int×af)}{ep:Nat}{t:SetTable}{Z:Option (af×Nat)->ah->Prop}{Y:af->ah->Prop}(b:Be w=true)(ho:s.heap.get? a=some (ng es ep t))(hf:t.fits es.size=true)(z:Z (((pickOrder (w.params.setOrder a ep) es)[i]?).map λe=>(e.2,k)) s):wpAny (model P w) A (setNext a k i ep) Z Y s:=by
 unfold setNext;refine aa (c_ ho U hf ?_)
 dsimp only
 refine aa (jY ?_);rw[bg b,aX (by simp)];unfold setWalk;refine aa (aa (c_ ho U hf ?_))
 dsimp only
 refine aa (jY ?_);rw[bg b];exact aa (zC (aq (aq z)))
theorem Gw{a:aj}{k i:Nat}{es:Array (Int×af)}{ep:Nat}{t:SetTable}{Z:Option (af×Nat)->ah->Prop}{Y:af->ah->Prop}(b:Be w=false)(T:Fy w es.size t)(l:es.size<=1)(ho:s.heap.get? a=some (ng es ep t))
  (z:Z (match es[SetTable.below t.place k]?,t.place[SetTable.below t.place k]? with|some (_,x),some j=>some (x,j+1)|_,_=>none) s):wpAny (model P w) A (setNext a k i ep) Z Y s:=by
 unfold setNext;refine aa (c_ ho U T.fits ?_)
 dsimp only
 refine aa (jY ?_);rw[aX (by rw[b];exact bj)]
 refine cL (λc=> ?_) (λ_=> ?_)
 ·have c:(!t.plain&&decide (es.size>1))=true:=c;rw[bJ (by omega),rE] at c
  cases c
 ·refine aa (cL (λc=> ?_) (λ_=>aq (aq z)));have ld:t.led=true:=T.led.resolve_right (by rw[b];exact bj)
  have c:(!t.led&& !es.isEmpty)=true:=c;rw[ld] at c
  cases c
end
section
variable {P:bo} {w:World} {A:bK} {E:af->ah->Prop} {s:ah} {R:Result->ah->Prop}
structure Tells (P:bo) (w:World) (A:bK) (it:aj) (vs:List af) (St:Nat->Heap->Prop) (fp:List aj):Prop where
 TZ:it∈fp
 keep:∀i h h',St i h->(∀b∈fp,∀o,h.get? b=some o->h'.get? b=some o)->St i h'
 item:∀i (s:ah) x {Q:Option af->ah->Prop} {E:af->ah->Prop},St i s.heap->vs[i]? =some x->(∀h',Heap.SameBut it s.heap h'->St (i+1) h'->Q (some x) {s with heap:=h'})->wpAny (model P w) A (pyNext (.ref it)) Q E s
 fin:∀(s:ah) {Q:Option af->ah->Prop} {E:af->ah->Prop},St vs.length s.heap->(∀h',Heap.ExtBut it s.heap h'->Q none {s with heap:=h'})->wpAny (model P w) A (pyNext (.ref it)) Q E s
theorem G_{it D:aj}{res:af}{vs:List af}{St:Nat->Heap->Prop}{fp:List aj}(W:Tells P w A.in1 it vs St fp)(nD:D∉fp)(l:vs.length<=sizeLine):
  ∀(k i:Nat) (s:ah) (c:Nat),vs.length-i=k->i<=vs.length->St i s.heap->s.heap.get? D=some (seqObj "list" (vs.take i).toArray c)->
   (∀h' c',h'.get? D=some (seqObj "list" vs.toArray c')->(∀b o,b≠D->b≠it->s.heap.get? b=some o->h'.get? b=some o)->R (.ok (.ret res)) {s with heap:=h'})->
   codeAny (model P w) A (.builtin "list.extend.loop" ⟨[.ref D,.ref it,res],[]⟩) R s:=by
 have nI:D≠it:=λz=>nD (z▸W.TZ);intro k
 induction k with
 |zero=>
  intro i s c hk hi st hD q;obtain rfl:i=vs.length:=by omega
  refine cW Sf ?_;rw[cP ij _];refine aa (m:=pyNext (.ref it)) (W.fin s st λh' eb=>aq (q h' c ?_ λb o _ nb e=>eb b o nb e));rw[IQ] at hD
  exact eb D _ nI hD
 |succ k ih=>
  intro i s c hk hi st hD q;have lt:i<vs.length:=by omega
  refine cW Sf ?_;rw[cP ij _];refine aa (m:=pyNext (.ref it)) (W.item i s vs[i] st (aK lt) λh' sb yI=> ?_);have hD':h'.get? D=some (seqObj "list" (vs.take i).toArray c):=(sb.2 D nI).trans hD;refine aa (m:=Builtin.List.listUpdate (.ref D) _) (listUpdate_at (s:={s with heap:=h'}) hD' U ?_ (by rw[aL,dh];omega) (by rw[Array.size_push,aL,dh];omega))
  have hD2:=fS hD' (·.push vs[i]);have e:(vs.take i).toArray.push vs[i]=(vs.take (i+1)).toArray:=by
   rw[List.push_toArray,dG,aK lt]
   rfl
  rw[e] at hD2
  refine aq ⟨de ij _,ih (i+1) _ _ (by omega) lt (W.keep (i+1) _ _ yI λb hb o e=>dv b o (λz=>nD (z▸hb)) e) hD2 λh2 c2 g2 kp=>q h2 c2 g2 λb o nb Xp e=>kp b o nb Xp ?_⟩;exact dv b o nb ((sb.2 b Xp).trans e)
end
section
variable {P:bo} {w:World} {A:bK} {E:af->ah->Prop} {s:ah}
theorem QX{r:aj}{Q:Bool->ah->Prop}(hT:s.TypeIs (.ref r) "set")(h:Q false s):wpAny (model P w) A (Builtin.List.listLengthHint (.ref r)) Q E s:=by
 unfold Builtin.List.listLengthHint;refine aa (wpAny_specialOf hT PySem.F.slot_set_len.lookup ?_);generalize hid:("set.__len__":String)=id0
 wp_delta
 rw[show splitId id0=some ("set","__len__") from by subst hid;decide+kernel]
 subst hid;refine aa (jf (T:="set") (b:=true) hT rA ?_);refine cL (λz=>absurd z (by decide)) (λ_=>cL (λ_=> ?_) (λz=>absurd (by decide+kernel) z));exact aa (wpAny_typeOf hT (aq h))
theorem I_{it a:aj}{es:Array (Int×af)}{ep:Nat}{t:SetTable}(hh:A.handled=none)(b:Be w=true)(ne:a≠it)(hf:t.fits es.size=true):
  Tells P w A it ((pickOrder (w.params.setOrder a ep) es).toList.map (·.2)) (λi h=>h.get? it=some (m_ (.int 0 0) i a es.size ep)/\h.get? a=some (ng es ep t)) [it,a] where
 TZ:=.head _
 keep:=λi h h' ⟨h1,h2⟩ k=>⟨k it (.head _) _ h1,k a (.tail _ (.head _)) _ h2⟩
 item:=λi s x Q E ⟨h1,h2⟩ hx q=>by
  refine tw (k:=0) hh h1 h2 hf (λz=>CF b h2 hf z) (λy nx h' e sb g=> ?_) (λe=> ?_)
  ·rw[cj,eC] at hx
   cases c:(pickOrder (w.params.setOrder a ep) es)[i]? with
   |none=>rw[c] at hx;cases hx
   |some p=>
    rw[c] at hx e
    cases hx;cases e;exact q h' sb ⟨g,(sb.2 a ne).trans h2⟩
  ·rw[cj,eC] at hx
   rw[Option.map_eq_none_iff] at e
   rw[e] at hx
   cases hx
 fin:=λs Q E ⟨h1,h2⟩ q=>by
  refine tw (k:=0) hh h1 h2 hf (λz=>CF b h2 hf z) (λy nx h' e sb g=> ?_) (λ_=>q);rw[ao,bx,Array.getElem?_eq_none (aE _)] at e
  cases e
theorem FY{it T a:aj}{es:Array (Int×af)}{ep:Nat}{t:SetTable}{ps:List Nat}(hh:A.handled=none)(ne:a≠it)(nT:T≠it)(hf:t.fits es.size=true)(hp:∀p∈ps,p<es.size):
  Tells P w A it (ps.map λp=>((es[p]?).map (·.2)).getD .none) (λi h=>h.get? it=some (m_ (.ref T) i a es.size ep)/\h.get? T=some (yG ps)/\h.get? a=some (ng es ep t)) [it,T,a] where
 TZ:=.head _
 keep:=λi h h' ⟨h1,h2,h3⟩ k=>⟨k it (.head _) _ h1,k T (.tail _ (.head _)) _ h2,k a (.tail _ (.tail _ (.head _))) _ h3⟩
 item:=λi s x Q E ⟨h1,h2,h3⟩ hx q=>by
  rw[cj] at hx
  refine F5 hh h1 h2 h3 hf hp (λp y h' e1 e2 sb g=> ?_) (λe=> ?_)
  ·rw[e1] at hx
   have hx:((es[p]?).map (·.2)).getD .none=x:=bR hx;rw[e2] at hx
   have hx:y.2=x:=hx;rw[hx];exact q h' sb ⟨g,(sb.2 T nT).trans h2,(sb.2 a ne).trans h3⟩
  ·rw[ie e] at hx
   cases hx
 fin:=λs Q E ⟨h1,h2,h3⟩ q=>by
  refine F5 hh h1 h2 h3 hf hp (λp y h' e1 e2 sb g=> ?_) (λ_=>q);rw[ao,ie (aE _)] at e1
  cases e1
theorem UZ(p:Nat):SetTable.below #[p] 0=0:=by
 simp[SetTable.below,SetTable.below.go]
theorem below_1(p:Nat):SetTable.below #[p] (p+1)=1:=by
 simp[SetTable.below,SetTable.below.go]
theorem MB{it a:aj}{es:Array (Int×af)}{ep:Nat}{t:SetTable}(hh:A.handled=none)(b:Be w=false)(ne:a≠it)(T:Fy w es.size t)(l:es.size<=1):
  Tells P w A it (es.toList.map (·.2)) (λi h=>(∃k:Nat,h.get? it=some (m_ (.int k 0) i a es.size ep)/\(i=0->k=0)/\(i≠0->∀p,t.place= #[p]->k=p+1))/\h.get? a=some (ng es ep t)) [it,a] where
 TZ:=.head _
 keep:=λi h h' ⟨⟨k,h1,e⟩,h2⟩ kp=>⟨⟨k,kp it (.head _) _ h1,e⟩,kp a (.tail _ (.head _)) _ h2⟩
 item:=λi s x Q E ⟨⟨k,h1,e0,e1⟩,h2⟩ hx q=>by
  have f:=T.fits;simp only [SetTable.fits,cZ,g6] at f
  have lt:i<es.size:=by
   have:=(bT.mp hx).1;rw[ao,bx] at this
   exact this
  have i0:i=0:=by omega
  have k0:=e0 i0;subst i0;subst k0;have s1:es.size=1:=by omega
  obtain⟨e,ee⟩:∃e,es= #[e]:=nC.mp s1;obtain⟨p,Rn⟩:∃p,t.place= #[p]:=nC.mp (by rw[f.1,s1]);have hx:e.2=x:=by rw[ee] at hx;simpa using hx
  refine tw (k:=0) (r:=some (e.2,p+1)) hh h1 h2 T.fits (λz=>Gw b T l h2 ?_) (λy nx h' c sb g=> ?_) (λc=>by cases c)
  ·rw[Rn,UZ,ee];exact z
  ·cases c;rw[hx];exact q h' sb ⟨⟨p+1,g,(λz=>by cases z),λ_ p' c=>by rw[Rn] at c;cases c;rfl⟩,(sb.2 a ne).trans h2⟩
 fin:=λs Q E ⟨⟨k,h1,e0,e1⟩,h2⟩ q=>by
  have f:=T.fits;simp only [SetTable.fits,cZ,g6] at f
  rw[ao,bx] at h1 e0 e1
  refine tw (k:=k) (r:=none) hh h1 h2 T.fits (λz=>Gw b T l h2 ?_) (λy nx h' c sb g=>by cases c) (λ_=>q)
  by_cases s0:es.size=0
  ·have k0:=e0 s0;subst k0;have ee:es= #[]:=Array.eq_empty_of_size_eq_zero s0;rw[ee];exact z
  ·have s1:es.size=1:=by omega
   obtain⟨e,ee⟩:∃e,es= #[e]:=nC.mp s1;obtain⟨p,Rn⟩:∃p,t.place= #[p]:=nC.mp (by rw[f.1,s1]);have kp:=e1 s0 p Rn;rw[Rn,kp,below_1,ee];exact z
theorem xj:∀{ys:List (Int×af)},ElemsOf (strKind P w) ys->Vals ((ys.map pC).map V.str) (ys.map (·.2))
 |[],_=> .nil
 |e::ys,h=>by
  obtain⟨x,t,rfl⟩:=DC h e (.head _);exact .cons ⟨t,U⟩ (xj h.tail)
theorem AQ{es:Array (Int×af)}:∀(ps:List Nat),(∀p∈ps,p<es.size)->(ps.map λp=>((es[p]?).map (·.2)).getD Value.none)=(ps.filterMap (es[·]?)).map (·.2)
 |[],_=>rfl
 |p::ps,h=>by
  have lp:=h p (.head _);rw[aT,jX,eR lp,AQ ps λq hq=>h q (.tail _ hq)]
  rfl
theorem vg{B:bK}{D it a:aj}{vs:List af}{St:Nat->Heap->Prop}{fp:List aj}{R:Result->ah->Prop}{X:Bool}{Y:af->ah->Prop}(W:Tells P w A.in1 it vs St fp)(nD:D∉fp)(st:St 0 s.heap)(hD:s.heap.get? D=some (seqObj "list" #[] 0))(hT:s.TypeIs (.ref a) "set")(l:vs.length<64)
  (q:∀h' c',h'.get? D=some (seqObj "list" vs.toArray c')->(∀b o,b≠D->b≠it->s.heap.get? b=some o->h'.get? b=some o)->R (.ok (.ret (.ref D))) {s with heap:=h'}):
  wpAny (model P w) B (do
   let room<-holding [.ref it] (Builtin.List.listLengthHint (.ref a))
   if(room||X)=true then do
    rule "list.extend.makes-room"
    let _<-Builtin.List.listTouch (.ref D)
    again (.builtin "list.extend.loop" ⟨[.ref D,.ref it,.ref D],[]⟩)
   else again (.builtin "list.extend.loop" ⟨[.ref D,.ref it,.ref D],[]⟩))
   (λfin s'=>match fin with| .done f=>R (.ok f) s'| .again c'=>c'.quiet=true/\codeAny (model P w) A c' R s') Y s:=by
 have lz:vs.length<=sizeLine:=by rw[cJ];omega
 refine aa (cy (QX hT ?_));refine cL (λ_=>aa (rh (aa ?_))) (λ_=>aq ⟨de ij _,G_ W nD lz vs.length 0 s 0 U (bz _) st hD q⟩);unfold Builtin.List.listTouch;refine aa (listUpdate_at hD U ?_ (bz _) (by rw[cJ];decide))
 have h1:=fS hD (·.push Value.none);refine listUpdate_at (s:={s with heap:=s.heap.update D (Obj.mapSeq (·.push Value.none))}) h1 rfl ?_ (by rw[cJ];decide) (by rw[cJ];decide)
 have h2:=fS h1 (·.pop);refine aq ⟨de ij _,G_ W nD lz vs.length 0 _ _ U (bz _) (W.keep 0 _ _ st λb hb o e=> ?_) h2 λh' c' g kp=>q h' c' g λb o nb Xp e=>kp b o nb Xp ?_⟩
 ·exact dv b o (λz=>nD (z▸hb)) (dv b o (λz=>nD (z▸hb)) e)
 ·exact dv b o nb (dv b o nb e)
theorem E8{a:aj}{ks:List Str}{R:Result->ah->Prop}(hh:A.handled=none)(H:gq P w s.heap a ks)(l:ks.length<64)
  (q:∀(ss:List Str) (vs:List af) h' d D c,ss.Perm ks->Vals (ss.map V.str) vs->h'.get? D=some (seqObj "list" vs.toArray c)->(∀b o,s.heap.get? b=some o->h'.get? b=some o)->R (.ok (.ret (.ref D))) {s with heap:=h',drawn:=d}):codeAny (model P w) A (.builtin "proto.collect" ⟨[.ref a],[]⟩) R s:=by
 obtain⟨es,ep,t,ho,L,T⟩:=H;have la:a<s.heap.objs.size:=aW ho;have ls:es.size<64:=by rw[L.size];exact l
 refine cW entry_proto_collect' ?_;refine aa (m:=newList []) (gz (aq ⟨mY _ (by decide+kernel),cW entry_list_iadd' ?_⟩));have Uz:(s.heap.push (seqObj "list" #[] 0)).get? a=some (ng es ep t):=ai _ ho;have hD:(s.heap.push (seqObj "list" #[] 0)).get? s.heap.objs.size=some (seqObj "list" #[] 0):=aM _ rfl;show wpAny _ _ (Builtin.List.listExtendWith (.ref s.heap.objs.size) (.ref a) (.ref s.heap.objs.size)) _ _ {s with heap:=s.heap.push (seqObj "list" #[] 0)}
 unfold Builtin.List.listExtendWith;refine aa (wpAny_typeOf (T:="set") ⟨_,Uz,U⟩ ?_);have n1:Builtin.List.listSameRef (.ref s.heap.objs.size) (.ref a)=false:=by simp[Builtin.List.listSameRef];exact jR la
 rw[n1,aX (by decide)];have e1:(s.heap.push (seqObj "list" #[] 0)).objs.size=s.heap.objs.size+1:=fE ..;have na:s.heap.objs.size≠a:=jR la;refine aa (QP (s:={s with heap:=s.heap.push (seqObj "list" #[] 0)}) Uz T (by omega) (λc=> ?_) (λlt ps d p=> ?_))
 ·have Xn:s.heap.objs.size≠(s.heap.push (seqObj "list" #[] 0)).objs.size:=by rw[e1];exact bc (eh _)
  have nai:a≠(s.heap.push (seqObj "list" #[] 0)).objs.size:=by rw[e1];exact bc (di la)
  have nD:s.heap.objs.size∉[(s.heap.push (seqObj "list" #[] 0)).objs.size,a]:=by
   intro z;rcases aJ.mp z with z|z
   ·exact Xn z
   ·exact na (dm.mp z)
  have fin:∀(ys:List (Int×af)) h' c',ys.Perm es.toList->h'.get? s.heap.objs.size=some (seqObj "list" (ys.map (·.2)).toArray c')->(∀b o,b≠s.heap.objs.size->b≠(s.heap.push (seqObj "list" #[] 0)).objs.size->((s.heap.push (seqObj "list" #[] 0)).push (m_ (.int 0 0) 0 a es.size ep)).get? b=some o->h'.get? b=some o)->R (.ok (.ret (.ref s.heap.objs.size))) {s with heap:=h'}:=λys h' c' p g kp=>
   q (ys.map pC) _ h' s.drawn _ c' ((p.map _).trans L.keys) (xj (L.el.perm p)) g λb o e=>kp b o (bc (aW e)) (by rw[e1];exact bc (di (aW e))) (ai _ (ai _ e))
  cases bt:Be w with
  |true=>
   have pp:=Lk (w.params.setOrder a ep) es;exact vg (A:=A) (R:=R) (s:={s with heap:=(s.heap.push (seqObj "list" #[] 0)).push (m_ (.int 0 0) 0 a es.size ep)}) (I_ (A:=A.in1) (t:=t) hh bt nai T.fits) nD ⟨aM _ U,ai _ Uz⟩ (ai _ hD) ⟨_,ai _ Uz,U⟩ (by rw[ao,pp.length_eq,bx];exact ls) λh' c' g kp=>fin _ h' c' pp g kp
  |false=>
   have l1:es.size<=1:=c.resolve_left (by rw[bt];exact bj)
   exact vg (A:=A) (R:=R) (s:={s with heap:=(s.heap.push (seqObj "list" #[] 0)).push (m_ (.int 0 0) 0 a es.size ep)}) (MB (A:=A.in1) (t:=t) hh bt nai T l1) nD ⟨⟨0,aM _ U,λ_=>rfl,λz=>absurd U z⟩,ai _ Uz⟩ (ai _ hD) ⟨_,ai _ Uz,U⟩ (by rw[ao,bx];exact ls) λh' c' g kp=>fin _ h' c' (.refl _) g kp
 ·have hp:∀z∈ps,z<es.size:=λz hz=>g7.mp (p.mem_iff.mp hz);have lp:ps.length=es.size:=by rw[p.length_eq,l8]
  have e2:((s.heap.push (seqObj "list" #[] 0)).push (yG ps)).objs.size=(s.heap.push (seqObj "list" #[] 0)).objs.size+1:=fE ..;have gi:(((s.heap.push (seqObj "list" #[] 0)).push (yG ps)).push (m_ (.ref (s.heap.push (seqObj "list" #[] 0)).objs.size) 0 a es.size ep)).get? ((s.heap.push (seqObj "list" #[] 0)).objs.size+1)=some (m_ (.ref (s.heap.push (seqObj "list" #[] 0)).objs.size) 0 a es.size ep):=by
   rw[<-e2];exact aM _ U
  have gT:(((s.heap.push (seqObj "list" #[] 0)).push (yG ps)).push (m_ (.ref (s.heap.push (seqObj "list" #[] 0)).objs.size) 0 a es.size ep)).get? (s.heap.push (seqObj "list" #[] 0)).objs.size=some (yG ps):=ai _ (aM _ rfl);have ga:(((s.heap.push (seqObj "list" #[] 0)).push (yG ps)).push (m_ (.ref (s.heap.push (seqObj "list" #[] 0)).objs.size) 0 a es.size ep)).get? a=some (ng es ep t):=ai _ (ai _ Uz)
  have gD:=ai (m_ (.ref (s.heap.push (seqObj "list" #[] 0)).objs.size) 0 a es.size ep) (ai (yG ps) hD);have nai:a≠(s.heap.push (seqObj "list" #[] 0)).objs.size+1:=by rw[e1];exact bc (di (di la))
  have nD:s.heap.objs.size∉[(s.heap.push (seqObj "list" #[] 0)).objs.size+1,(s.heap.push (seqObj "list" #[] 0)).objs.size,a]:=by
   intro z;rw[e1] at z
   rcases aJ.mp z with z|z
   ·exact absurd z (bc (di (eh _)))
   ·rcases aJ.mp z with z|z
    ·exact absurd z (bc (eh _))
    ·exact na (dm.mp z)
  have py:(ps.filterMap (es[·]?)).Perm es.toList:=(p.filterMap _).trans (by rw[filterMap_getElem?_range]);have dl:=AQ ps hp;refine vg (A:=A) (R:=R) (s:={s with heap:=((s.heap.push (seqObj "list" #[] 0)).push (yG ps)).push (m_ (.ref (s.heap.push (seqObj "list" #[] 0)).objs.size) 0 a es.size ep),drawn:=d}) (FY (A:=A.in1) (t:=t) hh nai (bc (eh _)) T.fits hp) nD ⟨gi,gT,ga⟩ gD ⟨_,ga,U⟩ (by rw[ao,lp];exact ls) λh' c' g kp=> ?_
  rw[dl] at g
  refine q ((ps.filterMap (es[·]?)).map pC) _ h' d _ c' ((py.map _).trans L.keys) (xj (L.el.perm py)) g λb o e=>kp b o (bc (aW e)) ?_ (ai _ (ai _ (ai _ e)));rw[e1];exact bc (di (di (aW e)))
theorem Ip{a:aj}{ks:List Str}{Q:List af->ah->Prop}(hh:A.handled=none)(H:gq P w s.heap a ks)(l:ks.length<64)
  (q:∀(ss:List Str) (vs:List af) h' d,ss.Perm ks->Vals (ss.map V.str) vs->(∀b o,s.heap.get? b=some o->h'.get? b=some o)->Q vs {s with heap:=h',drawn:=d}):wpAny (model P w) A (collect (.ref a)) Q E s:=by
 unfold collect;refine aa (wpAny_runValue (E8 hh H l λss vs h' d D c p v g kp=> ?_));exact aa (wpAny_load g (aq (q ss vs h' d p v kp)))
end
section
variable {X:Cx} {pins:List (aj×Obj)} {σ:L2.St} {H:Hp} {s:ah}
def B3(P:bo)(w:World)(p:aj)(ks:List Str):HO:=.ext λh=>gq P w h p ks
theorem Lb{P:bo}{w:World}{H:Hp}{h:Heap}{p:aj}{ks:List Str}(S:gq P w h p ks):fB P w H h p (B3 P w p ks):=by
 obtain⟨es,ep,t,ho,r⟩:=S;exact⟨⟨es,ep,t,ho,r⟩,⟨_,ho⟩,λh1 h2 ⟨a,b,c,d,e⟩ z=>⟨a,b,c,z _ d,e⟩⟩
theorem DI(I:L2.Inv X pins σ H s){p:aj}{ks:List Str}(h:H p=some (B3 X.prog X.w p ks)):gq X.prog X.w s.heap p ks:=(I.dw p _ h).1
theorem Ol(I:L2.Inv X pins σ H s)(d:Drawn):L2.Inv X pins σ H {s with drawn:=d}:=⟨I.ok,I.os,I.bare,I.base,I.loc,I.cell,I.free,I.eL,I.pin,I.dw,I.len⟩
theorem FR:∀{ws:List Str} {vs:List af},Vals (ws.map V.str) vs->∀(i:Nat) (v:af),vs[i]? =some v->∃t,v=Value.str (ws.getD i default) t
 |[],_,.nil,i,v,h=>by simp at h
 |x::ws,_,.cons r t,0,v,h=>by
  obtain⟨k,rfl⟩:=r;cases h;exact⟨k,U⟩
 |x::ws,_,.cons r t,i+1,v,h=>FR t i v h
theorem RH:bootBuiltins "set"=some (.type "set"):=by decide+kernel
theorem C_(hc:X.calm=true):iH X (.type "set") (λxs H Q=>∃l ws,xs=[.ref l]/\cK X.K H l (ws.map V.str)/\ws.length<1000/\∀p,H p=none->Q (.ref p) (upd H p (B3 X.prog X.w p (uniq [] ws)))):=by
 intro pins s σ H xs us Q I r h;obtain⟨l,ws,rfl,hq,lw,q⟩:=h;obtain⟨u,rfl,rx⟩:=vals1 r;cases rx;obtain⟨vs,rv,pl,_⟩:=I.list hq;have lv:vs.length=ws.length:=by rw[<-rv.length,ao]
 refine Ob (I.ok.hd hc) pl.isList (λi v e=>FR rv i v (by simpa using e)) (by rw[aL];exact lv) lw λh' tk st kp=> ?_
 exact⟨.ref s.heap.objs.size,_,I.laid kp (aE _) (Lb st),U,q _ I.fresh⟩
theorem TK:vp X (binaryOp .BitXor) (λx y H Q=>∃a b ks ls,x=.ref a/\y=.ref b/\H a=some (B3 X.prog X.w a ks)/\H b=some (B3 X.prog X.w b ls)/\ks.Nodup/\ls.Nodup/\ks.length<=15/\ls.length<=15/\∀p rs,H p=none->Mg ls ks rs->Q (.ref p) (upd H p (B3 X.prog X.w p rs))):=by
 intro pins s σ H x y v u Q I rx ry h;obtain⟨a,b,ks,ls,rfl,rfl,ha,hb,nk,nl,l1,l2,q⟩:=h;cases rx;cases ry;refine TJ (DI I ha) (DI I hb) nk nl l1 l2 λh' rs st kp x=> ?_;exact⟨.ref s.heap.objs.size,_,I.laid (t':=s.toks) kp (aE _) (Lb st),U,q _ rs I.fresh x⟩
theorem Fc(hc:X.calm=true):iH X (.builtin "sorted") (λxs H Q=>∃a ks,xs=[.ref a]/\H a=some (B3 X.prog X.w a ks)/\ks.length<64/\∀zs:List Str,zs.Perm ks->sortedS zs=true->∀D,H D=none->Q (.ref D) (upd H D (.lst (zs.map V.str)))):=by
 intro pins s σ H xs vals Q I r h;obtain⟨a,ks,rfl,ha,l,q⟩:=h;obtain⟨u,rfl,rx0⟩:=vals1 r;cases rx0;refine call_function_entry kind_sorted plain_sorted entry_sorted (args_sorted1 (.ref a)) ?_;unfold Builtin.«sorted»;refine aa (m:=checkCount "sorted" 1 1 _) (aq (aa (Ip (I.ok.hd hc) (DI I ha) l λss vs h1 d p rv kp=> ?_)));have lv:vs.length=ss.length:=by rw[<-rv.length,ao]
 have l2:ss.length<64:=by rw[p.length_eq];exact l
 have hz:vs.length<=sizeLine:=by rw[cJ];omega
 refine aa (gz ?_ hz);have I1:L2.Inv X pins σ H {s with heap:=h1,drawn:=d}:=Ol (I.kept (t':=s.toks) kp) d;refine aa (cy (vR (s:={s with heap:=h1.push (seqObj "list" vs.toArray 0),drawn:=d}) (aM (o:=seqObj "list" vs.toArray 0) h1 U) (xm rv) (by omega) λout O_ o1 o2 o3=>aq ⟨_,U, ?_⟩));obtain⟨e,he⟩:=sortedHeap_at (h:=h1.push (seqObj "list" vs.toArray 0)) (out:=out) (aM (o:=seqObj "list" vs.toArray 0) h1 rfl)
 have Y1:(O_.map V.str).length<=sizeLine:=by rw[ao,o2.length_eq,cJ];omega
 refine⟨.ref h1.objs.size,_,I1.laid (a:=h1.objs.size) (o:=.lst (O_.map V.str)) (t':=s.toks) (λb o e1=> ?_) (aE _) ⟨Y1,out.toList,e,pN o1,he⟩,U,q O_ (o2.trans p) o3 _ I1.fresh⟩;have hb:b<h1.objs.size:=aW e1;rw[sortedHeap_old (bc hb) (by rw[fE];exact di hb)]
 exact ai _ e1
theorem EO:∀{ns:List Int} {us:List af},Vals (ns.map V.int) us->∀(j:Nat) (v:af),us[j]? =some v->∃n t,ns[j]? =some n/\v=Value.int n t
 |[],_,.nil,j,v,h=>by simp at h
 |n::ns,_,.cons r t,0,v,h=>by
  obtain⟨k,rfl⟩:=r;cases h;exact⟨n,k,U,U⟩
 |n::ns,_,.cons r t,j+1,v,h=>EO t j v h
def Tg:V->List V->Hp->VK->Prop:=λx vs H Q=>∃(l:aj) (ns:List Int) (k:Int) (j:Nat),x=.ref l/\vs=[.int k]/\H l=some (.lst (ns.map V.int))/\ns[j]? =some k/\j<1000/\(∀m,m<j->ns[m]?≠some k)/\Q (.int (j:Int)) H
theorem Nl:MtM X "list.index" Tg:=by
 intro pins s σ H x vs v us Q I rx rv h;obtain⟨l,ns,k,j,rfl,rfl,hH,hj,h9,no,q⟩:=h;cases rx;obtain⟨u,rfl,ru⟩:=rv.one;obtain⟨tk,rfl⟩:=ru;obtain⟨z,its,n,r,hl,e⟩:=I.Qu hH;have le:its.length=ns.length:=by rw[<-r.length,ao]
 obtain⟨lt,ej⟩:=bT.mp hj;have eq:∀{B:bK} y,y∈its.toArray->SeqAt.EqAt B s y (.int k tk) (isInt k y):=λy hy=>by
  obtain⟨m,hm,em⟩:=eU (List.mem_toArray.mp hy);obtain⟨i,t,_,rfl⟩:=EO r m y (by rw[aK hm,em]);exact SeqAt.EqAt.int_int i t k tk
 have at_:∀m (hm:m<its.toArray.size),∃i t,ns[m]? =some i/\its.toArray[m]=Value.int i t:=λm hm=>by
  obtain⟨i,t,a,b⟩:=EO r m (its[m]'(by simpa using hm)) (aK _);exact⟨i,t,a,by rw[iu];exact b⟩
 have UA:j<its.toArray.size:=by rw[aL,le];exact lt
 refine call_meets F.slot_list_index ⟨_,e,U⟩ F.entry_list_index (F.args_list_index_2 _ _) (SeqAt.list_indexAt l its.toArray n none #[] (.int k tk) (isInt k) j UA (by omega) ?_ (λm hm nK=> ?_)) ⟨e,eq, ?_⟩
 ·obtain⟨i,t,a,b⟩:=at_ j UA;rw[b];rw[hj] at a
  cases a;exact cX k
 ·obtain⟨i,t,a,b⟩:=at_ m hm;rw[b];refine iq λz=>no m nK ?_;rw[a,z]
 exact⟨.int _,H,I.kept (t':=s.toks+1) (λ_ _ e=>e),⟨_,U⟩,q⟩
theorem D0:∀{f:aj×aj->aj} {ps:List (aj×aj)} {us:List af},Vals (ps.map λp=>V.ref (f p)) us->us=ps.map λp=>Value.ref (f p)
 |_,[],_,.nil=>rfl
 |f,p::ps,_,.cons r t=>by
  cases r;rw[D0 t]
  rfl
theorem JC(hu:X.A.units+30<cLine):vp X (compareOp .NotEq) (λx y H Q=>∃(l m:aj) (ps:List (aj×aj)),x=.ref l/\y=.ref m/\cK X.K H l (ps.map λp=>V.ref p.1)/\cK X.K H m (ps.map λp=>V.ref p.2)/\(∀p∈ps,∃xs,cK X.K H p.1 xs/\cK X.K H p.2 xs/\∀v∈xs,∃d,v=.ref d)/\Q (.bl false) H):=by
 intro pins s σ H x y v u Q I rx ry h;obtain⟨l,m,ps,rfl,rfl,h1,h2,hs,q⟩:=h;cases rx;cases ry;obtain⟨us,r1,p1,_⟩:=I.list h1;obtain⟨vs,r2,p2,_⟩:=I.list h2;obtain rfl:=D0 (f:=(·.1)) r1;obtain rfl:=D0 (f:=(·.2)) r2;have rc:=(D5 (P:=X.prog) (w:=X.w) (A:=X.A) (e:=λ_=>true) p1.isList p2.isList (by simp) (by omega) λj j1 j2=> ?_).2
 ·rw[show(List.range (ps.map λp=>Value.ref p.1).toArray.size).all (λ_=>true)=true by simp] at rc
  exact rc _ _ ⟨.bl false,H,I,U,q⟩
 ·have lt:j<ps.length:=by simpa using j1
  obtain⟨xs,g1,g2,hr⟩:=hs ps[j] (iN lt);have e1:(ps.map λp=>Value.ref p.1).toArray[j]=Value.ref ps[j].1:=by simp
  have e2:(ps.map λp=>Value.ref p.2).toArray[j]=Value.ref ps[j].2:=by simp
  rw[e1,e2]
  by_cases z:ps[j].1=ps[j].2
  ·rw[z];exact λE Q q=>Ca _ X.prog X.w E Q q
  ·obtain⟨us,r1,p1,_⟩:=I.list g1;obtain⟨vs,r2,p2,_⟩:=I.list g2;obtain rfl:=Cs hr r1 r2;refine yY.refs z ?_;have rc:=(D5 (P:=X.prog) (w:=X.w) (A:=X.A.in1) (e:=λ_=>true) p1.isList p2.isList rfl (by show X.A.units+1<cLine;omega) λj h1 h2 E Q q=>Ca _ X.prog X.w E Q q).1
   rw[show(List.range us.toArray.size).all (λ_=>true)=true by simp] at rc
   exact rc
theorem FQ{i:Nat}{x:Str}{pos:Pos}{v:V}(I:L2.Inv X pins σ H s)(e:σ[i]? =some (some v))(hN:X.N[i]? =some x)(hk:X.env.scope.names.lookup x=some .local)(hd:(x==("__debug__":Str))=false):∃u,RelV v u/\∀{Q:af->ah->Prop} {E:af->ah->Prop},Q u s->wpAny (model X.prog X.w) X.A (eval (.Name x pos) X.env) Q E s:=by
 obtain⟨m,hn,hl⟩:=I.loc;obtain⟨u,r,l⟩:=hl i x v hN e (.inl hk);refine⟨u,r,λq=> ?_⟩;rcases l with ⟨_,hm⟩|⟨z,_⟩
 ·exact wpAny_Name (wpAny_loadName_local I.ok.kind hk hn hm q) hd
 ·rcases z with z|z<;>(have z:=hk.symm.trans z;cases z)
def Wv(i j:Nat)(k:Int)(a b:Str):TS:=λD σ H=>∃n z,σ[i]? =some (some (.int n))/\σ[j]? =some (some (.str z))/\(n=k->z.length+(z.length+1)*b.length<=16777216/\D.rt (.str (Txt.replace z a b)) H)/\(n≠k->D.nx σ H)
theorem PH{i j:Nat}{x y a b:Str}{k:Int}{c1 c2 c3:Nat}{p0 p1 p2 p3 p4 p5 apos gf Zcu pos:Pos}(hN:X.N[i]? =some x:=by rfl)(hk:X.env.scope.names.lookup x=some .local:=by rfl)(hN2:X.N[j]? =some y:=by rfl)(hk2:X.env.scope.names.lookup y=some .local:=by rfl)(hd:(x==("__debug__":Str))=false:=by decide)(hd2:(y==("__debug__":Str))=false:=by decide)(hab:(a==b)=false:=by decide)(sx:(apos.endLine==gf.line)=true:=by rfl):
  PS X (.If (.Compare (.Name x p0) [.Eq] [.Constant (.int k) c1 p1] p2) [.Return (some (.Call (.Attribute (.Name y p3) "replace" apos) [.Constant (.str a) c2 p4,.Constant (.str b) c3 p5] [] gf)) Zcu] [] pos) (Wv i j k a b):=by
 intro pins s σ H D I h;obtain⟨n,z,e1,e2,q1,q2⟩:=h;obtain⟨u,⟨t,rfl⟩,ev⟩:=FQ (pos:=p0) I e1 hN hk hd;refine wpAny_If (wpAny_isTrue_Compare1 (ev (wpAny_Constant_int (eq_int (dX ?_)))) (cf _));have I1:L2.Inv X pins σ H {s with toks:=s.toks+1}:=I.tok _
 by_cases e:n=k
 ·obtain⟨l,q1⟩:=q1 e;rw[show(n==k)=true from g6.mpr e];obtain⟨u2,⟨t2,rfl⟩,ev2⟩:=FQ (pos:=p3) I1 e2 hN2 hk2 hd2;refine wpAny_execs_cons (wpAny_Return_some (wpAny_Call_method_late U U sx U (ev2 ?_)));refine⟨"str","str.replace",dE,PySem.F.slot_str_replace,PySem.F.type_str_replace,vv _ _ _,(λ_ z=>nomatch z),eY U (kJ ?_)⟩;refine gm (Calls.Constant_str (k:=c2) (pos:=p4) (gm (Calls.Constant_str (k:=c3) (pos:=p5) (jS ?_))))
  refine SC.replace (vB _) (vB _) (λz=>by simp at z) hab l λt' m=> ?_;exact⟨.str _,σ,H,I1.tok _,⟨_,U⟩,q1⟩
 ·rw[show(n==k)=false from iq e];exact iJ ⟨σ,H,I1,q2 e⟩
def KyK(K:au)(H:Hp)(x:Ky)(v:V):Prop:=Rep K H (yQ x) v
theorem XG:VW X uY (KyK X.K):=λI r1 r2 ru rv hu=>Zas I r1 r2 ru rv hu
theorem Lz{K:au}{sp:Sp}{l:aj}{xs:List V}{R:VK}:∀(r:List V) (b kb:V) (H:Hp),YW K sp l xs r b kb H R=Ow K (XI sp) uY (KyK K) l xs r b kb H R
 |[],_,_,_=>rfl
 |x::r,b,kb,H=>by
  unfold YW Ow XI KyK;simp only [Lz r]
  rfl
theorem PV{k:Nat}{x p:Str}{sp:Sp}{e:PySem.Expr}{t:TA}{p0 p1 p2 pos:Pos}(hc:X.calm=true)(hu:X.A.units+30<cLine)(c:fi X.prog X.w X.K X.mg X.base c8 k x [p] sp)(hr:gF (k+2) X.A)(hg:Gl X "min")(hm:X.mg "min"=none)(hgx:Gl X x)(ha:PA X [e] t)(u7:(x==("__debug__":Str))=false:=by decide)
  (hs:starEach [e] X.env=[(false,eval e X.env)]:=by rfl):PE X (.Call (.Name "min" p0) [e] [⟨some "key",.Name x p1,p2⟩] pos) (ZL X.K sp t):=by
 intro pins s σ H Q I h;obtain⟨f,fd,hmx,hkp,hb,F⟩:=c.ex;refine cU (lA I hg hm ve ?_ (by decide) (by decide));refine callWith_kw (eZ (ha pos pins s σ H _ I h) λus s1 z=> ?_) (by rw[hs];rfl) (by rw[hs];rfl)
 obtain⟨vs,H1,I1,r1,l,y,xs,rfl,hq,hk⟩:=z;obtain⟨u,rfl,ru⟩:=vals1 r1;cases ru;obtain⟨vs,rx,pl,_⟩:=I1.list hq;refine kws_cons (jw I1 hgx hmx (kws_nil ?_) u7);refine kmk_tree (Q:=EP X pins σ Q) vz um uo (kmk_min_key (.ref l) (.ref f)) ?_;have bp:Builtin.Builtins.bindParams "min" ["key","default"] 0 ⟨[],[(Str.ofString "key",Value.ref f)]⟩=pure [some (.ref f),none]:=rfl;refine aa (m:=Builtin.Builtins.bindParams "min" ["key","default"] 0 ⟨[],[(Str.ofString "key",Value.ref f)]⟩) (kI bp (aa (aq (aa (fk pl.isList (aa (gz ?_ (bz _))))))))
 rw[wz,show(s1.heap.push (NK l)).objs.size=s1.heap.objs.size+1 from fE ..];simp only [Lz xs] at hk
 exact aq (And.intro (de lY _) (LA (α:=Ky) (ks:=XI sp) (lt:=uY) (R:=KyK X.K) (d:=none) (xs:=y::xs) (I1.ok.hd hc) (by omega) (@XG X) (GS F hb (hr.mono (ir _))) I1 (λ_ z=>nomatch z) ⟨hq,hk⟩))
end
end L3
namespace K40
open PySem PySem.Spec PyProof.Rows L2 L3 M1 M2 M3
set_option maxHeartbeats 5000000
def top(i:Nat):Stmt:=PySem.Challenge.pw_disposehall_k40_books_parted.main.body.getD i (.Pass ⟨0,0,0,0⟩)
abbrev qh:Stmt:=top 21
abbrev r6:Stmt:=top 22
abbrev kg:Stmt:=top 23
abbrev n5:Stmt:=top 24
abbrev xB:Stmt:=top 25
abbrev DT:Stmt:=top 34
abbrev DW:Stmt:=top 35
abbrev DV:Stmt:=top 36
abbrev xC:Stmt:=top 37
abbrev rT:Stmt:=top 38
abbrev qa:Stmt:=top 39
abbrev qb:Stmt:=top 40
abbrev qg:Stmt:=top 41
abbrev mF:Stmt:=top 42
abbrev uV:Stmt:=top 45
abbrev uS:Stmt:=top 46
abbrev DU:Stmt:=top 47
abbrev xv:Stmt:=top 48
abbrev qi:Stmt:=top 49
abbrev Ab:Stmt:=top 50
abbrev r8:Stmt:=top 52
abbrev nZ:Stmt:=top 53
abbrev nY:Stmt:=top 54
abbrev xw:Stmt:=top 55
abbrev lg:Stmt:=top 56
abbrev xx:Stmt:=top 58
abbrev xy:Stmt:=top 59
abbrev xA:Stmt:=top 60
abbrev z_:Stmt:=top 62
abbrev uT:Stmt:=top 63
abbrev qf:Stmt:=top 64
abbrev rV:Stmt:=top 66
abbrev oh:Stmt:=top 67
abbrev n9:Stmt:=top 68
abbrev qe:Stmt:=top 69
abbrev qd:Stmt:=top 70
abbrev lh:Stmt:=top 71
abbrev ke:Stmt:=top 72
abbrev rW:Stmt:=top 73
abbrev uU:Stmt:=top 74
abbrev rX:Stmt:=top 75
abbrev rZ:Stmt:=top 76
abbrev rY:Stmt:=top 77
abbrev og:Stmt:=top 78
abbrev qc:Stmt:=top 79
abbrev mG:Stmt:=top 80
abbrev n_:Stmt:=top 81
abbrev Aa:Stmt:=top 82
abbrev vU:Stmt:=top 83
abbrev kE:Stmt:=inClass (top 12) 0
abbrev r9:Stmt:=inClass (top 29) 0
abbrev qj:Stmt:=inClass (top 30) 0
abbrev se:Stmt:=inClass (top 30) 1
abbrev nG:Stmt:=inClass (top 31) 0
abbrev r_:Stmt:=inClass (top 32) 0
abbrev oi:Stmt:=inClass (top 33) 0
def iD:Str:="0123456789"
def kq:Str:="abcdefghijklmnopqrstuvwxyz"
structure Txt (K:au) (mg:Str->Option af) (bh:Tok) (a4:Tok) (aO:Tok) (aN:Tok) (bF:Tok) (bE:Tok) (a3:Tok) (aP:Tok) (aI:aj) (aD:aj) (aC:aj) (ar:aj) (aV:aj) (bY:aj) (bw:aj) (bL:aj) (bA:aj) (bM:aj) (bq:aj) (a_:aj) (br:aj) (bB:aj) (aS:aj) (bX:aj):Prop where
 M5:mg "YEAR_DAYS"=some (.int 360 bh)
 G4:mg "MONTH_DAYS"=some (.int 30 a4)
 m7:mg "MOST_FIGURES"=some (.int 40 aO)
 m6:mg "MOST_LETTERS"=some (.int 12 aN)
 R4:mg "FIGURES"=some (.str iD bF)
 R3:mg "LETTERS"=some (.str kq bE)
 G3:mg "MOST_WORDS"=some (.int 61 a3)
 m8:mg "MOST_CLAUSES"=some (.int 40 aP)
 u9:mg "ValueError"=none
 Z0F:mg "abs"=none
 Z0E:mg "all"=none
 Z0G:mg "any"=none
 Z0k:mg "bool"=none
 U8:mg "dict"=none
 K9:mg "enumerate"=none
 Z0D:mg "int"=none
 b7:mg "isinstance"=none
 j6:mg "len"=none
 S7:mg "list"=none
 Z0j:mg "max"=none
 U7:mg "min"=none
 V6:mg "range"=none
 K7:mg "reversed"=none
 Z0C:mg "set"=none
 u6:mg "sorted"=none
 Z0i:mg "str"=none
 X3:mg "tuple"=none
 kib:PySem.W.kitOne K (.type "int") (.type "bool")=some false
 kii:PySem.W.kitOne K (.type "int") (.type "int")=some true
 kss:PySem.W.kitOne K (.type "str") (.type "str")=some true
 kdd:PySem.W.kitOne K (.type "dict") (.type "dict")=some true
 ktt:PySem.W.kitOne K (.type "tuple") (.type "tuple")=some true
 Iq:IM K aI
 zN:Zm K aI
 kO:IM K aD
 lP:jd K aD "kind"
 qq:jd K aD "days"
 OQ:Zm K aD
 mO:IM K aC
 sj:jd K aC "one"
 oq:jd K aC "other"
 zO:Zm K aC
 jz:IM K ar
 oy:jd K ar "one"
 ly:jd K ar "other"
 zP:Zm K ar
 qu:mg "HallError"=some (.ref aV)
 Qm:mg "NoDay"=some (.ref bY)
 GG:mg "NoLength"=some (.ref bw)
 Nq:mg "NoTerm"=some (.ref bL)
 JP:mg "TooWide"=some (.ref bA)
 Nr:mg "NoBook"=some (.ref bM)
 GD:mg "PutTwice"=some (.ref bq)
 Ex:mg "HeldTwice"=some (.ref a_)
 GF:mg "NoSeries"=some (.ref br)
 JQ:mg "RunBack"=some (.ref bB)
 Np:mg "Unlike"=some (.ref aS)
 Ql:mg "NoRow"=some (.ref bX)
 Qo:mg "After"=some (.ref aD)
 JR:mg "Earlier"=some (.ref ar)
 Qn:mg "Later"=some (.ref aC)
 oZ:jA K aS
 Cc:VR K aS "name"
 Cb:Yy K aS "name"
 BM:PySem.W.kitOne K (.ref aI) (.ref aD)=some false
 yR:PySem.W.kitOne K (.ref aI) (.ref ar)=some false
 BL:PySem.W.kitOne K (.ref aI) (.ref aC)=some false
 BP:PySem.W.kitOne K (.ref aD) (.ref aD)=some true
 Oz:PySem.W.kitOne K (.ref aD) (.ref ar)=some false
 Sk:PySem.W.kitOne K (.ref aD) (.ref aC)=some false
 BO:PySem.W.kitOne K (.ref aC) (.ref aD)=some false
 yS:PySem.W.kitOne K (.ref aC) (.ref ar)=some false
 BN:PySem.W.kitOne K (.ref aC) (.ref aC)=some true
 yT:PySem.W.kitOne K (.ref ar) (.ref aD)=some false
 wK:PySem.W.kitOne K (.ref ar) (.ref ar)=some true
 Oy:PySem.W.kitOne K (.ref ar) (.ref aC)=some false
 Lg:PySem.W.readsIn K aV (.type "type")=true
 LQ:PySem.W.specialIn K (.ref aV) "__getattribute__"=some (some (.builtin "type.__getattribute__"))
 LV:PySem.W.findCls K (.ref aV) (.type "type") "__init__"=some (.val (.builtin "ValueError.__init__"))
 Zb7:PySem.W.exmOne K (.ref aS) (.ref aV)=some true
 XX:PySem.W.kitOne K (.ref aS) (.type "ValueError")=some true
 Ke:PySem.W.kitOne K (.ref aS) (.ref aS)=some true
 Kc:PySem.W.kitAny K (.ref aS) [.ref a_,.ref bM,.ref bY,.ref bw,.ref bX,.ref br,.ref bL,.ref bq,.ref bB,.ref bA]=some false
 f9:aI≠aD
 d8:aI≠aC
 b8:aI≠ar
 g8:aD≠aC
 d7:aD≠ar
 c7:aC≠ar
theorem fo:100000<=sizeLine:=by rw[cJ];decide
theorem sl{n:Nat}(h:n<=100000:=by decide):n<=sizeLine:=bD h fo
theorem aU{H:Hp}{p:aj}{o:HO}(h:H p=none):bU H (upd H p o):=λb u e=>by rw[aY (bI e h)];exact e
theorem len_one(x:Str)(c:Nat):(x++⟨#[c]⟩:Str).length=x.length+1:=a7 x ⟨#[c]⟩
theorem A1{α:Type}{xs:List α}{i:Int}(h0: -(xs.length:Int)<=i)(h1:i<xs.length):∃v,A2 xs i=some v:=by
 unfold A2 XT
 by_cases h:0<=i
 ·rw[bg h,bg h1];exact⟨_,aK (by omega)⟩
 ·rw[aX h,bg h0];exact⟨_,aK (by omega)⟩
theorem RU{ns:List Int}{i:Int}(h0: -(ns.length:Int)<=i)(h1:i<ns.length):∃c,c∈ns/\A2 (ns.map V.int) i=some (.int c):=by
 obtain⟨v,e⟩:=A1 (xs:=ns.map V.int) (i:=i) (by rw[ao];exact h0) (by rw[ao];exact h1)
 obtain⟨j,_,hj,_⟩:=wY e;rw[cj] at hj
 cases q:ns[j]? with
 |none=>rw[q] at hj;cases hj
 |some c=>
  rw[q] at hj
  cases hj;exact⟨c,cI q,e⟩
theorem vW{Q:VK}{a b:V}{H:Hp}(q:Q a H)(e:a=b):Q b H:=e▸q
theorem RV{α:Type}{xs:List α}{c:α}(h:A2 xs 0=some c):xs.head? =some c:=by
 unfold A2 XT at h
 rw[bg (by decide)] at h
 split at h
 ·rw[List.head?_eq_getElem?];exact h
 ·cases h
theorem EM{c A B:Prop} [Decidable c](hc:c)(h:A):if decide c=true then A else B:=by
 rw[bf hc];exact jH h
theorem Fq(k:Nat):((10:Int)^k)=((10^k:Nat):Int):=by simp
theorem GX{K:au}{i:Nat}{j:Int}{σ:L2.St}{H:Hp}{Q:VK}{a:aj}{xs:List V}{v:V}(e:σ[i]? =some (some (.ref a)))(h:jU K H a xs)(m:A2 xs j=some v)(k:Q v H):OY (WS K) (yH i) (tC (.int j)) σ H Q:=⟨_,e,a,_,_,_,rfl,rfl,h,m,k⟩
theorem vI{C:Int->Int->Prop}{g:Int->Int->V}{i:Nat}{σ:L2.St}{H:Hp}{Q:VK}{a k:Int}(e:σ[i]? =some (some (.int a)))(c:C a k)(q:Q (g a k) H):OY (rI C g) (yH i) (tC (.int k)) σ H Q:=⟨_,e,a,k,rfl,rfl,c,q⟩
theorem vEq{i:Nat}{σ:L2.St}{H:Hp}{k:Bool->Hp->Prop}{x v:V}(e:σ[i]? =some (some x))(f:Pf x v=true)(q:k (decide (x=v)) H):Vl (OY rEq (yH i) (tC v)) σ H k:=⟨_,e,f,_,rfl,q⟩
def kD:Sp:=λvs H Q _=>∃x y:Str,vs=[.str x,.str y]/\x.length<=100000/\∀H',bU H H'->Q (.bl (x.cps.toList.all (LL y))) H'
def isNum(x:Str):Bool:=if x.length=0\/40<x.length then false else if(cs x).head? =some 48/\x≠⟨#[48]⟩ then false else x.cps.toList.all (LL iD)
def pW:Sp:=λvs H Q _=>∃x:Str,vs=[.str x]/\x.length<=100000/\∀H',bU H H'->Q (.bl (isNum x)) H'
theorem XC:Str.ofString "0"=⟨#[48]⟩:=by decide
theorem Gq(c:Nat):V.str ⟨#[c]⟩=V.str (Str.ofString "0")↔c=48:=by
 rw[XC]
 constructor
 ·intro e
  injection e with e
  injection e with e
  have e:[c]=[48]:=dc Array.toList e
  injection e
 ·rintro rfl
  rfl
theorem Ym:∀k<10,LL iD (48+k)=true:=by decide+kernel
theorem Yl:∀c∈cs iD,48<=c/\c<=57:=by decide+kernel
theorem Uv(c:Nat):LL iD c=true↔48<=c/\c<=57:=by
 refine⟨λh=>Yl c ((Uw _ _).mp h),λh=> ?_⟩;have:=Ym (c-48) (by omega)
 rwa [Nat.add_sub_cancel' h.1] at this
theorem NM{n:Nat}(h:n<10^40):isNum (num n)=true:=by
 have h1:(num n).length<=40:=ze (by decide) h;have h2:(num n).length≠0:=by
  rw[kj];intro e;exact JK n (List.length_eq_zero_iff.mp e)
 unfold isNum;rw[aX (by omega)];rw[aX (by
  rintro⟨e1,e2⟩;have:=P_ n e1;subst this;exact e2 P9)]
 rw[eP];intro c hc;exact(Uv c).mpr (qp n c hc)
def rH(x:Str):V:=if x=Str.ofString "y" then .int 360 else if x=Str.ofString "m" then .int 30 else if x=Str.ofString "d" then .int 1 else .fR
def shown(d:Nat):Str:=if d%360=0 then num (d/360)++Str.ofString "y" else if d%30=0 then num (d/30)++Str.ofString "m" else num d++Str.ofString "d"
def jL:Sp:=λvs H Q _=>∃x:Str,vs=[.str x]/\∀H',bU H H'->Q (rH x) H'
def mi:Sp:=λvs H Q _=>∃(n c u:Nat),vs=[.str (num n++⟨#[c]⟩)]/\n<10^40/\rH ⟨#[c]⟩=.int (u:Int)/\u<=360/\∀H',bU H H'->Q (.int ((n*u:Nat):Int)) H'
theorem Xz{m:Nat}(h:m<10^100):((m:Nat):Int).natAbs.log2<1920:=by
 rw[Int.natAbs_natCast]
 by_cases z:m=0
 ·rw[z];decide
 ·exact(Nat.log2_lt z).mpr (Nat.lt_trans h (by decide+kernel))
theorem JL{m:Nat}(h:m<10^100):(num m).length<=100:=ze (by decide) h
theorem Zau:Str.ofString "y"=⟨#[121]⟩:=by decide
theorem XB:Str.ofString "m"=⟨#[109]⟩:=by decide
theorem Zav:Str.ofString "d"=⟨#[100]⟩:=by decide
theorem Wn:rH ⟨#[121]⟩=.int 360:=by decide
theorem OM:rH ⟨#[109]⟩=.int 30:=by decide
theorem OO:rH ⟨#[100]⟩=.int 1:=by decide
theorem F8(d:Nat):∃n c u,shown d=num n++⟨#[c]⟩/\n<=d/\rH ⟨#[c]⟩=.int ((u:Nat):Int)/\u<=360/\n*u=d:=by
 unfold shown
 by_cases h1:d%360=0
 ·rw[bg h1,Zau];exact⟨d/360,121,360,U,by omega,Wn,by omega,by omega⟩
 ·rw[aX h1]
  by_cases h2:d%30=0
  ·rw[bg h2,XB];exact⟨d/30,109,30,U,by omega,OM,by omega,by omega⟩
  ·rw[aX h2,Zav];exact⟨d,100,1,U,by omega,OO,by omega,by omega⟩
def isName(x:Str):Bool:=decide (1<=x.length)&&decide (x.length<=12)&&x.cps.toList.all (LL kq)
def pX:Sp:=λvs H Q _=>∃x:Str,vs=[.str x]/\x.length<=100000/\∀H',bU H H'->Q (.bl (isName x)) H'
def Nm(z:Str):Prop:=1<=z.length/\z.length<=12/\∀c∈cs z,97<=c/\c<=122
inductive Tr where
 |never|after (k:Str) (d:Int)|later (x y:Tr)|cO (x y:Tr)
def Tr.deep:Tr->Nat
 | .never=>0
 | .after _ _=>0
 | .later x y=>max x.deep y.deep+1
 | .cO x y=>max x.deep y.deep+1
def Tr.cnt:Tr->Nat
 | .never=>1
 | .after _ _=>1
 | .later x y=>x.cnt+y.cnt
 | .cO x y=>x.cnt+y.cnt
def QB:Option Int->Option Int->Option Int
 |some a,some b=>some (if b>a then b else a)
 |_,_=>none
def wQ:Option Int->Option Int->Option Int
 |none,o=>o
 |some a,none=>some a
 |some a,some b=>some (if b<a then b else a)
def Tr.xa(l:Tb):Tr->Option Int
 | .never=>none
 | .after k d=>(lk l k).map (· +d)
 | .later x y=>QB (x.xa l) (y.xa l)
 | .cO x y=>wQ (x.xa l) (y.xa l)
def oV:Option Int->V
 |some i=> .int i
 |none=> .fR
def fA(k:Str)(d:Int):List (Str×V):=pw "days" (.int d) (pw "kind" (.str k) [])
def fP(p q:aj):List (Str×V):=pw "other" (.ref q) (pw "one" (.ref p) [])
def eG(cn ca cl ce:aj)(H:Hp):Tr->aj->Prop
 | .never,a=>∃dx,H a=some (.ins cn dx [])
 | .after k d,a=>∃dx,H a=some (.ins ca dx (fA k d))
 | .later x y,a=>∃dx p q,H a=some (.ins cl dx (fP p q))/\eG cn ca cl ce H x p/\eG cn ca cl ce H y q
 | .cO x y,a=>∃dx p q,H a=some (.ins ce dx (fP p q))/\eG cn ca cl ce H x p/\eG cn ca cl ce H y q
def C9(cn ca cl ce:aj):Tr->aj
 | .never=>cn
 | .after _ _=>ca
 | .later _ _=>cl
 | .cO _ _=>ce
def nW(C:aj):Sp:=λvs H Q _=>∃(x dx:aj) (k:Str) (d:Int),vs=[.ref x,.str k,.int d]/\H x=some (.ins C dx [])/\Q .fR (upd H x (.ins C dx (fA k d)))
def jM(C:aj):Sp:=λvs H Q _=>∃(x dx p q:aj),vs=[.ref x,.ref p,.ref q]/\H x=some (.ins C dx [])/\Q .fR (upd H x (.ins C dx (fP p q)))
def zV(cn ca cl ce:aj):Sp:=λvs H Q _=>vs=[]/\∀a H',bU H H'->H a=none->eG cn ca cl ce H' .never a->Q (.ref a) H'
def zX(cn ca cl ce:aj):Sp:=λvs H Q _=>∃(k:Str) (d:Int),vs=[.str k,.int d]/\∀a H',bU H H'->H a=none->eG cn ca cl ce H' (.after k d) a->Q (.ref a) H'
def zW(cn ca cl ce:aj):Sp:=λvs H Q _=>∃(p q:aj) (x y:Tr),vs=[.ref p,.ref q]/\eG cn ca cl ce H x p/\eG cn ca cl ce H y q/\∀a H',bU H H'->H a=none->eG cn ca cl ce H' (.later x y) a->Q (.ref a) H'
def uO(cn ca cl ce:aj):Sp:=λvs H Q _=>∃(p q:aj) (x y:Tr),vs=[.ref p,.ref q]/\eG cn ca cl ce H x p/\eG cn ca cl ce H y q/\∀a H',bU H H'->H a=none->eG cn ca cl ce H' (.cO x y) a->Q (.ref a) H'
def pY(cn ca cl ce:aj)(n:Nat)(C:aj):Sp:=λvs H Q _=>∃(a b:aj) (t:Tr) (l:Tb),vs=[.ref a,.ref b]/\eG cn ca cl ce H t a/\t.deep<n/\C9 cn ca cl ce t=C/\Rd H b (.dK (kk l))/\∀H',bU H H'->Q (oV (t.xa l)) H'
theorem wR{cn ca cl ce C:aj}:∀vs H Q E,¬pY cn ca cl ce 0 C vs H Q E:=λ_ _ _ _ ⟨_,_,t,_,_,_,z,_⟩=>eI t.deep z
def Tr.good:Tr->Prop
 | .never=>True
 | .after k d=>Nm k/\0<=d/\d<10^40
 | .later x y=>x.good/\y.good
 | .cO x y=>x.good/\y.good
def uX(d:Nat)(c:Int):Str:=if c%3=0/\d%30=0 then num (d/30)++Str.ofString "m" else if c%3=1 then num d++Str.ofString "d" else shown d
def Tr.tC:Tr->Int->Str
 | .never,_=>Str.ofString "never"
 | .after k d,c=>Str.ofString "after "++k++Str.ofString " "++uX d.toNat c
 | .later x y,c=>Str.ofString "later"++Str.ofString " "++x.tC (c/2)++Str.ofString " "++y.tC (c/3)
 | .cO x y,c=>Str.ofString "earlier"++Str.ofString " "++x.tC (c/2)++Str.ofString " "++y.tC (c/3)
def Tr.wC:Tr->Int->List Str
 | .never,_=>[Str.ofString "never"]
 | .after k d,c=>[Str.ofString "after",k,uX d.toNat c]
 | .later x y,c=>Str.ofString "later"::(x.wC (c/2)++y.wC (c/3))
 | .cO x y,c=>Str.ofString "earlier"::(x.wC (c/2)++y.wC (c/3))
theorem IC{c:Nat}:∀{u v:List (List Nat)},u≠[]->v≠[]->J c (u++v)=J c u++c::J c v
 |[],_,h,_=>absurd rfl h
 |[p],[],_,h=>absurd rfl h
 |[p],q::r,_,_=>rfl
 |p::q::r,v,_,hv=>by
  show p++c::J c ((q::r)++v)=(p++c::J c (q::r))++c::J c v;rw[IC (by simp) hv];simp
theorem Tr.zL(t:Tr)(c:Int):t.wC c≠[]:=by cases t<;>simp[Tr.wC]
theorem blank:cs (Str.ofString " ")=[32]:=by decide+kernel
theorem L7(a:Str){x y:Str}{u v:List Str}(hu:u≠[])(hv:v≠[])(h1:cs x=J 32 (u.map cs))(h2:cs y=J 32 (v.map cs)):cs (a++Str.ofString " "++x++Str.ofString " "++y)=J 32 ((a::(u++v)).map cs):=by
 rw[dH,dH,dH,dH,blank,h1,h2,aT,bN];have e:([cs a]++(u.map cs++v.map cs))=cs a::(u.map cs++v.map cs):=rfl;rw[<-e,IC (by simp) (by simp[hu]),IC (by simpa using hu) (by simpa using hv)];show cs a++[32]++_++[32]++_=cs a++32::_;simp
theorem yA:∀(t:Tr) (c:Int),cs (t.tC c)=J 32 ((t.wC c).map cs)
 | .never,c=>rfl
 | .after k d,c=>by
  show cs (Str.ofString "after "++k++Str.ofString " "++uX d.toNat c)=cs (Str.ofString "after")++32::(cs k++32::cs (uX d.toNat c));rw[dH,dH,dH,blank,show cs (Str.ofString "after ")=cs (Str.ofString "after")++[32] by decide+kernel];simp
 | .later x y,c=>L7 _ (x.zL _) (y.zL _) (yA x _) (yA y _)
 | .cO x y,c=>L7 _ (x.zL _) (y.zL _) (yA x _) (yA y _)
theorem AA(d:Nat)(c:Int):∃n ch u,uX d c=num n++⟨#[ch]⟩/\n<=d/\rH ⟨#[ch]⟩=.int ((u:Nat):Int)/\u<=360/\n*u=d:=by
 unfold uX
 by_cases h1:c%3=0/\d%30=0
 ·rw[bg h1,XB];exact⟨d/30,109,30,U,by omega,OM,by omega,by omega⟩
 ·rw[aX h1]
  by_cases h2:c%3=1
  ·rw[bg h2,Zav];exact⟨d,100,1,U,by omega,OO,by omega,by omega⟩
  ·rw[aX h2];exact F8 d
def IB(z:Str)(d:Int):Prop:=∃n c u:Nat,z=num n++⟨#[c]⟩/\n<10^40/\rH ⟨#[c]⟩=.int (u:Int)/\u<=360/\d=((n*u:Nat):Int)
def B4:Tr->List Str->Prop
 | .never,ws=>ws=[Str.ofString "never"]
 | .after k d,ws=>∃z,ws=[Str.ofString "after",k,z]/\Nm k/\IB z d
 | .later x y,ws=>∃u v,ws=Str.ofString "later"::(u++v)/\B4 x u/\B4 y v
 | .cO x y,ws=>∃u v,ws=Str.ofString "earlier"::(u++v)/\B4 x u/\B4 y v
def jm:Sp:=λvs H Q _=>∃(R:aj) (xs:List V) (z:Str),vs=[.ref R]/\H R=some (.lst (xs++[.str z]))/\Q (.str z) (upd H R (.lst xs))
def nU:Sp:=λvs H Q _=>∃(R:aj) (xs:List V) (z:Str),vs=[.ref R]/\H R=some (.lst (xs++[.str z]))/\Nm z/\∀H',bU (upd H R (.lst xs)) H'->Q (.str z) H'
def k9:Sp:=λvs H Q _=>∃(R:aj) (xs:List V) (z:Str) (d:Int),vs=[.ref R]/\H R=some (.lst (xs++[.str z]))/\IB z d/\∀H',bU (upd H R (.lst xs)) H'->Q (.int d) H'
def jn(cn ca cl ce:aj)(n:Nat):Sp:=λvs H Q _=>∃(R:aj) (xs:List V) (t:Tr) (ws:List Str),vs=[.ref R]/\H R=some (.lst (xs++ws.reverse.map V.str))/\B4 t ws/\t.deep<n/\∀p H',bU (upd H R (.lst xs)) H'->eG cn ca cl ce H' t p->Q (.ref p) H'
def pO(cn ca cl ce:aj):Sp:=λvs H Q _=>∃(t:Tr) (x:Str) (ws:List Str),vs=[.str x]/\cs x=J 32 (ws.map cs)/\B4 t ws/\t.cnt<=15/\x.length<=2000/\∀p H',bU H H'->eG cn ca cl ce H' t p->Q (.ref p) H'
theorem yJ{cn ca cl ce:aj}:∀vs H Q E,¬jn cn ca cl ce 0 vs H Q E:=λ_ _ _ _ ⟨_,_,t,_,_,_,_,z,_⟩=>eI t.deep z
theorem Uk{d:Int}(h0:0<=d)(h1:d<10^40)(c:Int):IB (uX d.toNat c) d:=by
 obtain⟨n,ch,u,e1,e2,e3,e4,e5⟩:=AA d.toNat c;rw[Fq] at h1
 generalize hB:(10^40:Nat)=B at h1
 exact⟨n,ch,u,e1,by omega,e3,e4,by omega⟩
theorem nF:∀(t:Tr) (c:Int),t.good->B4 t (t.wC c)
 | .never,c,_=>rfl
 | .after k d,c,⟨hk,h0,h1⟩=>⟨_,rfl,hk,Uk h0 h1 c⟩
 | .later x y,c,⟨h1,h2⟩=>⟨_,_,rfl,nF x _ h1,nF y _ h2⟩
 | .cO x y,c,⟨h1,h2⟩=>⟨_,_,rfl,nF x _ h1,nF y _ h2⟩
theorem Qz{z:Str}{d:Int}(h:IB z d):32∉cs z:=by
 obtain⟨n,c,u,rfl,_,hu,_⟩:=h;rw[dH,oB];intro m;rcases a8.mp m with m|m
 ·have:=qp n 32 m;omega
 ·have e:32=c:=by simpa using m
  rw[<-e,show rH ⟨#[32]⟩=.fR by decide+kernel] at hu
  cases hu
theorem TN{k:Str}(h:Nm k):32∉cs k:=λm=>by have:=h.2.2 32 m;omega
theorem pq:∀{t:Tr} {ws:List Str},B4 t ws->∀p∈ws,32∉cs p
 | .never,ws,h,p,m=>by
  rw[show ws=_ from h] at m
  rw[show p=Str.ofString "never" by simpa using m]
  decide+kernel
 | .after k d,ws,⟨z,e,hk,hz⟩,p,m=>by
  rw[e] at m
  have m:p=Str.ofString "after"\/p=k\/p=z:=by simpa using m
  rcases m with rfl|rfl|rfl
  ·decide+kernel
  ·exact TN hk
  ·exact Qz hz
 | .later x y,ws,⟨u,v,e,h1,h2⟩,p,m=>by
  rw[e] at m
  rcases aJ.mp m with rfl|m
  ·decide+kernel
  ·exact(a8.mp m).elim (pq h1 p) (pq h2 p)
 | .cO x y,ws,⟨u,v,e,h1,h2⟩,p,m=>by
  rw[e] at m
  rcases aJ.mp m with rfl|m
  ·decide+kernel
  ·exact(a8.mp m).elim (pq h1 p) (pq h2 p)
theorem mE:∀{t:Tr} {ws:List Str},B4 t ws->0<ws.length/\ws.length+1<=4*t.cnt
 | .never,ws,h=>by rw[show ws=_ from h];exact⟨Mm,by decide⟩
 | .after k d,ws,⟨z,e,hk,hz⟩=>by rw[e];exact⟨by show 0<3;decide,by show 4<=4*1;decide⟩
 | .later x y,ws,⟨u,v,e,h1,h2⟩=>by
  have a:=mE h1;have b:=mE h2;rw[e,aZ,bb];show _/\_<=4*(x.cnt+y.cnt);omega
 | .cO x y,ws,⟨u,v,e,h1,h2⟩=>by
  have a:=mE h1;have b:=mE h2;rw[e,aZ,bb];show _/\_<=4*(x.cnt+y.cnt);omega
theorem GP{d:Nat}(h:d<10^40)(c:Int):(uX d c).length<=41:=by
 obtain⟨n,ch,u,e1,e2,_⟩:=AA d c;rw[e1,len_one];have:=ze (k:=40) (by decide) (rC e2 h);omega
theorem toNat_lt{d:Int}(h0:0<=d)(h1:d<10^40):d.toNat<10^40:=by
 rw[Fq] at h1
 generalize hB:(10^40:Nat)=B at*
 omega
theorem me:∀(t:Tr) (c:Int),t.good->(t.tC c).length+20<=80*t.cnt
 | .never,c,_=>by show(Str.ofString "never").length+20<=80;decide+kernel
 | .after k d,c,⟨hk,h0,h1⟩=>by
  have l:=GP (toNat_lt h0 h1) c;have a:=hk.2.1;show(Str.ofString "after "++k++Str.ofString " "++uX d.toNat c).length+20<=80;rw[a7,a7,a7,show(Str.ofString "after ").length=6 by decide+kernel,show(Str.ofString " ").length=1 by decide+kernel];omega
 | .later x y,c,⟨h1,h2⟩=>by
  have a:=me x (c/2) h1;have b:=me y (c/3) h2;show(Str.ofString "later"++Str.ofString " "++x.tC (c/2)++Str.ofString " "++y.tC (c/3)).length+20<=80*(x.cnt+y.cnt);rw[a7,a7,a7,a7,show(Str.ofString "later").length=5 by decide+kernel,show(Str.ofString " ").length=1 by decide+kernel];omega
 | .cO x y,c,⟨h1,h2⟩=>by
  have a:=me x (c/2) h1;have b:=me y (c/3) h2;show(Str.ofString "earlier"++Str.ofString " "++x.tC (c/2)++Str.ofString " "++y.tC (c/3)).length+20<=80*(x.cnt+y.cnt);rw[a7,a7,a7,a7,show(Str.ofString "earlier").length=7 by decide+kernel,show(Str.ofString " ").length=1 by decide+kernel];omega
def bW:Tr->List Tb
 | .never=>[]
 | .after k d=>[[(k,d)]]
 | .later a b=>M4.Bq (M4.fV M4.gh ((bW a).flatMap λx=>(bW b).map λy=>M4.norm (M4.gJ x y)))
 | .cO a b=>M4.Bq (M4.fV M4.gh (bW a++bW b))
def uy:Tr->Tb->Int->Prop
 | .never,_,_=>False
 | .after k d,l,x=>∃u,lk l k=some u/\u+d<=x
 | .later a b,l,x=>uy a l x/\uy b l x
 | .cO a b,l,x=>uy a l x\/uy b l x
theorem vL{cs:List Tb}{c:Tb}(h:c∈M4.Bq cs):c∈cs:=by
 obtain⟨r,e,s⟩:=M4.md cs [];have:c∈r:=by
  unfold M4.Bq at h
  rw[e] at h
  simpa using h
 exact s.subset this
theorem FX(cs:List Tb):(M4.Bq cs).length<=cs.length:=by
 obtain⟨r,e,s⟩:=M4.md cs [];unfold M4.Bq;rw[e,jj];exact s.length_le
theorem iz{cs:List Tb}{c:Tb}:c∈M4.fV M4.gh cs↔c∈cs:=(M4.j_ cs).mem_iff
theorem tu(cs:List Tb):(M4.fV M4.gh cs).length=cs.length:=(M4.j_ cs).length_eq
theorem pE{as bs:List Tb}{c:Tb}(h:c∈as.flatMap λx=>bs.map λy=>M4.norm (M4.gJ x y)):∃x∈as,∃y∈bs,c=M4.norm (M4.gJ x y):=by
 obtain⟨x,hx,h⟩:=List.mem_flatMap.mp h;obtain⟨y,hy,e⟩:=a5.mp h;exact⟨x,hx,y,hy,e.symm⟩
theorem dM:∀(t:Tr),∀c∈bW t,M4.Nf c/\c≠[]
 | .never,c,h=>nomatch h
 | .after k d,c,h=>by
  have e:c=[(k,d)]:=by simpa [bW] using h
  subst e;exact⟨⟨cD.mpr ⟨(λz=>nomatch z),l7⟩,iM _ _⟩,by simp⟩
 | .later a b,c,h=>by
  obtain⟨x,hx,y,hy,rfl⟩:=pE (iz.mp (vL h));have nx:=dM a x hx;have ny:=dM b y hy;refine⟨M4.Lw (M4.lQ nx.1.nd),λz=>M4.Ur nx.2 ny.1.nd nx.1.nd ?_⟩;have:=M4.fW (M4.gJ x y);rw[z] at this
  exact eV this.symm
 | .cO a b,c,h=>by
  rcases a8.mp (iz.mp (vL h)) with z|z
  ·exact dM a c z
  ·exact dM b c z
theorem FU{cs:List Tb}{l:Tb}{x:Int}:M4.Ups (M4.fV M4.gh cs) l x↔M4.Ups cs l x:=
 ⟨λ⟨c,h,u⟩=>⟨c,iz.mp h,u⟩,λ⟨c,h,u⟩=>⟨c,iz.mpr h,u⟩⟩
theorem js:∀(t:Tr) (l:Tb) (x:Int),M4.Ups (bW t) l x↔uy t l x
 | .never,l,x=>⟨λ⟨_,h,_⟩=>(nomatch h),λh=>h.elim⟩
 | .after k d,l,x=>⟨λ⟨c,h,u⟩=>by
   have e:c=[(k,d)]:=by simpa [bW] using h
   subst e;exact u (k,d) (aB ..),λ⟨u,e,q⟩=>⟨[(k,d)],aB ..,λp hp=>by
    have e2:p=(k,d):=by simpa using hp
    subst e2;exact⟨u,e,q⟩⟩⟩
 | .later a b,l,x=>by
  have nf:∀c∈M4.fV M4.gh ((bW a).flatMap λx=>(bW b).map λy=>M4.norm (M4.gJ x y)),M4.Nd c:=λc hc=>by
   obtain⟨x,hx,y,hy,rfl⟩:=pE (iz.mp hc);exact M4.zg (M4.lQ (dM a x hx).1.nd)
  have e:=M4.DA l x _ [] nf;rw[jj] at e
  refine(e.trans FU).trans ⟨λ⟨c,hc,u⟩=> ?_,λ⟨h1,h2⟩=> ?_⟩
  ·obtain⟨y,hy,z,hz,rfl⟩:=pE hc;obtain⟨u1,u2⟩:=(M4.LJ (dM a y hy).1.nd (dM b z hz).1.nd).mp (M4.KZ.mp u);exact⟨(js a l x).mp ⟨y,hy,u1⟩,(js b l x).mp ⟨z,hz,u2⟩⟩
  ·obtain⟨y,hy,u1⟩:=(js a l x).mpr h1;obtain⟨z,hz,u2⟩:=(js b l x).mpr h2;exact⟨_,List.mem_flatMap.mpr ⟨y,hy,a5.mpr ⟨z,hz,U⟩⟩,M4.KZ.mpr ((M4.LJ (dM a y hy).1.nd (dM b z hz).1.nd).mpr ⟨u1,u2⟩)⟩
 | .cO a b,l,x=>by
  have nf:∀c∈M4.fV M4.gh (bW a++bW b),M4.Nd c:=λc hc=>by
   rcases a8.mp (iz.mp hc) with z|z
   ·exact(dM a c z).1.nd
   ·exact(dM b c z).1.nd
  have e:=M4.DA l x _ [] nf;rw[jj] at e
  refine(e.trans FU).trans ⟨λ⟨c,hc,u⟩=> ?_,λh=> ?_⟩
  ·rcases a8.mp hc with z|z
   ·exact .inl ((js a l x).mp ⟨c,z,u⟩)
   ·exact .inr ((js b l x).mp ⟨c,z,u⟩)
  ·rcases h with h|h
   ·obtain⟨c,hc,u⟩:=(js a l x).mpr h;exact⟨c,cN _ hc,u⟩
   ·obtain⟨c,hc,u⟩:=(js b l x).mpr h;exact⟨c,aw _ hc,u⟩
theorem Cn{cs:List Tb}(h:∀c∈cs,M4.Nf c):(M4.Bq (M4.fV M4.gh cs)).Pairwise (λa b=>below a b=false/\below b a=false)/\M4.Mi M4.gh (M4.Bq (M4.fV M4.gh cs)):=by
 have h':∀c∈[]++M4.fV M4.gh cs,M4.Nf c:=λc hc=>h c (iz.mp (by simpa using hc));refine⟨M4.zS (Good:=M4.Nf) (λc z=>z.nd) (λa b l ha hb z=>M4.Dl l ha hb z) _ [] h' (by rw[jj];exact M4.lV M4.kP cs) List.Pairwise.nil, ?_⟩
 obtain⟨r,e,s⟩:=M4.md (M4.fV M4.gh cs) [];unfold M4.Bq;rw[e,jj];exact(M4.lV M4.kP cs).sublist s
theorem JV(t:Tr):(bW t).Pairwise (λa b=>below a b=false/\below b a=false)/\M4.Mi M4.gh (bW t):=by
 cases t with
 |never=>exact⟨List.Pairwise.nil,List.Pairwise.nil⟩
 |after k d=>exact⟨iM _ _,iM _ _⟩
 |later a b=>
  refine Cn λc hc=> ?_;obtain⟨x,hx,y,hy,rfl⟩:=pE hc;exact M4.Lw (M4.lQ (dM a x hx).1.nd)
 |cO a b=>
  refine Cn λc hc=> ?_;rcases a8.mp hc with z|z
  ·exact(dM a c z).1
  ·exact(dM b c z).1
def yq(n:Nat):Nat:=[0,1,2,3,4,6,9,12,18,27,36].getD n 1000
theorem tQ:∀a,a<11->∀b,b<11->a+b<11->yq a*yq b<=yq (a+b)/\yq a+yq b<=yq (a+b):=by decide
theorem GW(as bs:List Tb):(as.flatMap λx=>bs.map λy=>M4.norm (M4.gJ x y)).length=as.length*bs.length:=by
 induction as with
 |nil=>simp
 |cons a as ih=>rw[fK,bb,ih,ao,aZ,Nat.succ_mul,Nat.add_comm]
theorem ia:∀t:Tr,t.cnt<=10->(bW t).length<=yq t.cnt
 | .never,_=>bz _
 | .after _ _,_=>aE 1
 | .later x y,h=>by
  have h:x.cnt+y.cnt<=10:=h;have a:=ia x (by omega);have b:=ia y (by omega);have s:=(tQ x.cnt (by omega) y.cnt (by omega) (by omega)).1;have l:=FX (M4.fV M4.gh ((bW x).flatMap λx=>(bW y).map λy=>M4.norm (M4.gJ x y)));rw[tu,GW] at l
  exact bD l (bD (Nat.mul_le_mul a b) s)
 | .cO x y,h=>by
  have h:x.cnt+y.cnt<=10:=h;have a:=ia x (by omega);have b:=ia y (by omega);have s:=(tQ x.cnt (by omega) y.cnt (by omega) (by omega)).2;have l:=FX (M4.fV M4.gh (bW x++bW y));rw[tu,bb] at l
  exact bD l (bD (Nat.add_le_add a b) s)
theorem qr:∀n,n<=10->yq n<=36:=by decide
theorem JZ{a b:Tb}(ha:M4.Nd a)(hb:M4.Nd b){p:Str×Int}(h:p∈M4.gJ a b):p.1∈a.map (·.1)\/p.1∈b.map (·.1):=by
 have e:=(M4.gO (M4.lQ (b:=b) ha) (k:=p.1) (d:=p.2)).mpr h;rw[M4.qw hb] at e
 by_cases q:p.1∈b.map (·.1)
 ·exact .inr q
 ·rw[M4.Ez q] at e
  exact .inl (a5.mpr ⟨p,(M4.gO ha).mp e,U⟩)
theorem CQ{a b:Tb}(ha:M4.Nd a)(hb:M4.Nd b):(M4.gJ a b).length<=a.length+b.length:=by
 have:=(M4.sub_len (a:=(M4.gJ a b).map (·.1)) (b:=a.map (·.1)++b.map (·.1)) (M4.lQ ha) λk hk=>by
  obtain⟨p,hp,rfl⟩:=a5.mp hk;exact a8.mpr (JZ ha hb hp)).1
 simpa using this
theorem gc:∀t:Tr,∀c∈bW t,c.length<=t.cnt
 | .never,c,h=>nomatch h
 | .after k d,c,h=>by
  have e:c=[(k,d)]:=by simpa [bW] using h
  subst e;exact aE _
 | .later a b,c,h=>by
  obtain⟨x,hx,y,hy,rfl⟩:=pE (iz.mp (vL h));rw[M4.fW];exact bD (CQ (dM a x hx).1.nd (dM b y hy).1.nd) (Nat.add_le_add (gc a x hx) (gc b y hy))
 | .cO a b,c,h=>by
  rcases a8.mp (iz.mp (vL h)) with z|z
  ·exact bD (gc a c z) (Nat.le_add_right _ _)
  ·exact bD (gc b c z) (Nat.le_add_left _ _)
def ZdV(v:Option Int)(U_:Int->Prop):Prop:=∀x,U_ x↔∃m,v=some m/\m<=x
theorem tS(l:Tb):∀t:Tr,ZdV (t.xa l) (uy t l)
 | .never=>λx=>⟨λh=>h.elim,λ⟨_,h,_⟩=>(nomatch h)⟩
 | .after k d=>λx=>by
  unfold Tr.xa uy;cases lk l k with
  |none=>exact⟨λ⟨_,h,_⟩=>(nomatch h),λ⟨_,h,_⟩=>(nomatch h)⟩
  |some u=>exact⟨λ⟨v,e,h⟩=>⟨u+d,U,by cases e;exact h⟩,λ⟨m,e,h⟩=>⟨u,U,by cases e;exact h⟩⟩
 | .later a b=>λx=>by
  have ha:=tS l a x;have hb:=tS l b x;unfold Tr.xa uy;rw[ha,hb];cases a.xa l with
  |none=>exact⟨λ⟨⟨_,h,_⟩,_⟩=>(nomatch h),λ⟨_,h,_⟩=>(nomatch h)⟩
  |some i=>
   cases b.xa l with
   |none=>exact⟨λ⟨_,_,h,_⟩=>(nomatch h),λ⟨_,h,_⟩=>(nomatch h)⟩
   |some j=>
    unfold QB
    constructor
    ·rintro⟨⟨_,e1,h1⟩,_,e2,h2⟩;cases e1;cases e2;exact⟨_,U,by split<;>omega⟩
    ·rintro⟨m,e,h⟩;cases e
     split at h
     ·exact⟨⟨i,U,by omega⟩,j,U,h⟩
     ·exact⟨⟨i,U,h⟩,j,U,by omega⟩
 | .cO a b=>λx=>by
  have ha:=tS l a x;have hb:=tS l b x;unfold Tr.xa uy;rw[ha,hb];cases a.xa l with
  |none=>
   unfold wQ;exact⟨λh=>h.elim (λ⟨_,z,_⟩=>(nomatch z)) id,.inr⟩
  |some i=>
   cases b.xa l with
   |none=>
    unfold wQ;exact⟨λh=>h.elim id λ⟨_,z,_⟩=>(nomatch z),.inl⟩
   |some j=>
    unfold wQ
    constructor
    ·rintro(⟨_,e,h⟩|⟨_,e,h⟩)
     ·cases e;exact⟨_,U,by split<;>omega⟩
     ·cases e;exact⟨_,U,by split<;>omega⟩
    ·rintro⟨m,e,h⟩;cases e
     split at h
     ·exact .inr ⟨j,U,h⟩
     ·exact .inl ⟨i,U,h⟩
def yK(ws us:List Tb):List Tb:=ws.filter λw=> !(us.any λu=>decide (u=w))
def ju(t u:Tr):List Tb:=yK (bW t) (bW u)++yK (bW u) (bW t)
def wG(c:Tb)(l:Tb):Prop:=∃(d:Tb) (M:Int),M4.Nd d/\M4.norm d=c/\A7 (d.map (·.2)) M/\l=d.map λp=>(p.1,M-p.2)
theorem tJ{ws us:List Tb}{w:Tb}(h:w∈yK ws us):w∈ws:=(dA.mp h).1
theorem Lq(ws us:List Tb):(yK ws us).length<=ws.length:=fU _ _
theorem tT{t u:Tr}{w:Tb}(h:w∈ju t u):w≠[]/\w.length<=max t.cnt u.cnt:=by
 obtain hw|hw:=a8.mp h
 ·have m:=tJ hw;have:=gc t w m;exact⟨(dM t w m).2,by omega⟩
 ·have m:=tJ hw;have:=gc u w m;exact⟨(dM u w m).2,by omega⟩
theorem Ug{c l:Tb}(h:wG c l):∃M:Int,M4.Up c l M/\∀d:Tb,M4.Up d l M->below d c=true:=by
 obtain⟨e,M,nd,rfl,_,rfl⟩:=h;have ndl:M4.Nd (e.map λp=>(p.1,M-p.2)):=by
  show((e.map λp=>(p.1,M-p.2)).map (·.1)).Nodup;rw[cM];exact nd
 have lkl:∀p∈e,lk (e.map λp=>(p.1,M-p.2)) p.1=some (M-p.2):=λp hp=>(M4.gO ndl).mpr (a5.mpr ⟨p,hp,rfl⟩);refine⟨M,λp hp=>⟨M-p.2,lkl p ((M4.iY e).mem_iff.mp hp),by omega⟩,λd hd=>M4.i5.mpr λq hq=> ?_⟩;obtain⟨u,e1,e2⟩:=hd q hq;have m:=(M4.gO ndl).mp e1;obtain⟨p,hp,e3⟩:=a5.mp m
 injection e3 with e3 e4
 refine⟨p.2, ?_,by omega⟩;rw[M4.wF nd,<-e3];exact kG nd hp
theorem JA{ws us:List Tb}{w:Tb}(h:w∈yK ws us):w∉us:=λz=>by
 have e:=(dA.mp h).2;rw[fL] at e
 exact absurd (bf U) (List.any_eq_false.mp e w z)
theorem QS{ws us:List Tb}{w:Tb}(h:w∈ws)(n:w∉us):w∈yK ws us:=dA.mpr ⟨h,by
 rw[fL];exact List.any_eq_false.mpr λd hd e=>n (ba e▸hd)⟩
theorem Iy{t:Tr}{c d:Tb}(hc:c∈bW t)(hd:d∈bW t)(h:below d c=true):d=c:=by
 obtain⟨m,hm,rfl⟩:=eU hc;obtain⟨j,hj,rfl⟩:=eU hd;have p:=List.pairwise_iff_getElem.mp (JV t).1;rcases Nat.lt_trichotomy m j with z|z|z
 ·have:=(p m j hm hj z).2;rw[h] at this
  cases this
 ·subst z;rfl
 ·have:=(p j m hj hm z).1;rw[h] at this
  cases this
theorem Gn{t u:Tr}{c l:Tb}(hc:c∈yK (bW t) (bW u))(lo:∀d∈yK (bW u) (bW t),M4.gh d c=false)(lf:wG c l):t.xa l≠u.xa l:=λe=>by
 obtain⟨M,up,all⟩:=Ug lf;have h1:uy t l M:=(js t l M).mp ⟨c,tJ hc,up⟩;have h2:=(tS l t M).mp h1;rw[e] at h2
 obtain⟨d,hd,ud⟩:=(js u l M).mpr ((tS l u M).mpr h2);have b:=all d ud
 by_cases z:d∈bW t
 ·exact JA hc (Iy (tJ hc) z b▸hd)
 ·have e2:=M4.Dl (lo d (QS hd z)) (dM t c (tJ hc)).1 (dM u d hd).1 b;exact JA hc (e2▸hd)
theorem MW{t u:Tr}{c l:Tb}(hc:c∈ju t u)(lo:∀d∈ju t u,M4.gh d c=false)(lf:wG c l):t.xa l≠u.xa l:=by
 rcases a8.mp hc with z|z
 ·exact Gn z (λd hd=>lo d (aw _ hd)) lf
 ·exact λe=>Gn z (λd hd=>lo d (cN _ hd)) lf e.symm
theorem Nt{c l:Tb}(h:wG c l)(ne:c≠[]):M4.Nd l/\l≠[]/\∀p∈l,0<=p.2:=by
 obtain⟨e,M,nd,rfl,hM,rfl⟩:=h;refine⟨by show((e.map λp=>(p.1,M-p.2)).map (·.1)).Nodup;rw[cM];exact nd,λz=>ne ?_,λp hp=> ?_⟩
 ·rw[qV.mp z]
  rfl
 ·obtain⟨q,hq,rfl⟩:=a5.mp hp;have:=hM.2 q.2 (a5.mpr ⟨q,hq,rfl⟩);show 0<=M-q.2;omega
def Xe(t:Tr):Prop:=t.cnt<=10
theorem F4{x y:Tr}(h:Xe (.later x y)):Xe x/\Xe y/\(bW x).length*(bW y).length<=36/\(bW x).length<=36/\(bW y).length<=36/\(∀w∈bW x,w.length<=31)/\∀w∈bW y,w.length<=31:=by
 have h:x.cnt+y.cnt<=10:=h;have b1:=ia x (by omega);have b2:=ia y (by omega);have m1:=qr x.cnt (by omega);have m2:=qr y.cnt (by omega);have m3:=(tQ x.cnt (by omega) y.cnt (by omega) (by omega)).1;have m4:=qr (x.cnt+y.cnt) h;exact⟨by show x.cnt<=10;omega,by show y.cnt<=10;omega,bD (Nat.mul_le_mul b1 b2) (bD m3 m4),by omega,by omega,λw hw=>by have:=gc x w hw;omega,λw hw=>by have:=gc y w hw;omega⟩
theorem Br{x y:Tr}(h:Xe (.cO x y)):Xe x/\Xe y/\(bW x).length+(bW y).length<=36/\(∀w∈bW x,w.length<=31)/\∀w∈bW y,w.length<=31:=by
 have h:x.cnt+y.cnt<=10:=h;have b1:=ia x (by omega);have b2:=ia y (by omega);have m3:=(tQ x.cnt (by omega) y.cnt (by omega) (by omega)).2;have m4:=qr (x.cnt+y.cnt) h;exact⟨by show x.cnt<=10;omega,by show y.cnt<=10;omega,by omega,λw hw=>by have:=gc x w hw;omega,λw hw=>by have:=gc y w hw;omega⟩
def eQ(H:Hp)(as:List aj)(ws:List Tb):Prop:=Paired (λa w=>∃c:Tb,H a=some (.dK (kk c))/\M4.Nd c/\M4.norm c=w) as ws
def nE:Sp:=λvs H Q _=>∃(a b:aj) (c l:Tb),vs=[.ref a,.ref b]/\H a=some (.dK (kk c))/\Rd H b (.dK (kk l))/\c.length<=1000/\∀H',bU H H'->Q (.bl (below c l)) H'
def jD(K:au):Sp:=λvs H Q _=>∃(a:aj) (c:Tb),vs=[.ref a]/\H a=some (.dK (kk c))/\c.length<64/\∀t H',bU H H'->Rep K H' (yQ ((c.length:Int),M4.norm c)) (.ref t)->Q (.ref t) H'
def xq:Sp:=λvs H Q _=>∃(a b:aj) (c l:Tb),vs=[.ref a,.ref b]/\Rd H a (.dK (kk c))/\H b=some (.dK (kk l))/\c.length<=1000/\l.length<=1000/\∀p H',H p=none->bU H H'->H' p=some (.dK (kk (M4.gJ c l)))->Q (.ref p) H'
def nV:Sp:=λvs H Q _=>∃(p q:aj) (as bs:List aj) (ws us:List Tb),vs=[.ref p,.ref q]/\H p=some (.lst (as.map V.ref))/\H q=some (.lst (bs.map V.ref))/\eQ H as ws/\eQ H bs us/\as.length*bs.length<=1000/\bs.length<=1000/\(∀w∈ws,w.length<=500)/\(∀w∈us,w.length<=500)/\
 ∀r ds H',H r=none->bU H H'->H' r=some (.lst (ds.map V.ref))->eQ H' ds (ws.flatMap λx=>us.map λy=>M4.norm (M4.gJ x y))->(∀d∈ds,H d=none)->Q (.ref r) H'
def uK:Sp:=λvs H Q _=>∃(p:aj) (as:List aj) (ws:List Tb),vs=[.ref p]/\H p=some (.lst (as.map V.ref))/\eQ H as ws/\ws.length<=40/\(∀w∈ws,w.length<64)/\
 ∀r ds H',H r=none->bU H H'->H' r=some (.lst (ds.map V.ref))->eQ H' ds (M4.Bq (M4.fV M4.gh ws))->(∀d∈ds,d∈as)->Q (.ref r) H'
def mj(cn ca cl ce:aj)(n:Nat):Sp:=λvs H Q _=>∃(a:aj) (t:Tr),vs=[.ref a]/\eG cn ca cl ce H t a/\t.deep<n/\Xe t/\
 ∀r ds H',H r=none->bU H H'->H' r=some (.lst (ds.map V.ref))->eQ H' ds (bW t)->(∀d∈ds,H d=none)->Q (.ref r) H'
theorem JU{cn ca cl ce:aj}:∀vs H Q E,¬mj cn ca cl ce 0 vs H Q E:=λ_ _ _ _ ⟨_,t,_,_,z,_⟩=>eI t.deep z
def uM:Sp:=λvs H Q _=>∃(p q:aj) (as bs:List aj) (ws us:List Tb),vs=[.ref p,.ref q]/\H p=some (.lst (as.map V.ref))/\H q=some (.lst (bs.map V.ref))/\eQ H as ws/\eQ H bs us/\as.length<=1000/\
 ∀r ds H',H r=none->bU H H'->H' r=some (.lst (ds.map V.ref))->eQ H' ds (yK ws us)->Q (.ref r) H'
def uN:Sp:=λvs H Q _=>∃(a:aj) (c:Tb),vs=[.ref a]/\H a=some (.dK (kk c))/\M4.Nd c/\c≠[]/\c.length<=1000/\∀(l:Tb) p H',H p=none->bU H H'->H' p=some (.dK (kk l))->wG (M4.norm c) l->Q (.ref p) H'
def uL(cn ca cl ce:aj):Sp:=λvs H Q _=>∃(a b:aj) (t u:Tr),vs=[.ref a,.ref b]/\eG cn ca cl ce H t a/\eG cn ca cl ce H u b/\t.deep<18/\u.deep<18/\t.cnt<=10/\u.cnt<=10/\
 (∀H',bU H H'->ju t u=[]->Q .fR H')/\∀(c l:Tb) p H',H p=none->bU H H'->H' p=some (.dK (kk l))->c∈ju t u->(∀d∈ju t u,M4.gh d c=false)->wG c l->Q (.ref p) H'
structure Sr where
 nm:Str
 el:Option Str
 tm:Option Tr
def oS:Option Str->V
 |some z=> .str z
 |none=> .fR
structure Sr.good (r:Sr):Prop where
 nm:Nm r.nm
 el:∀e,r.el=some e->Nm e
 tm:∀t,r.tm=some t->t.good/\t.cnt<=10
 some:r.el=none->r.tm≠none
def dO:List Str->List Sr->Prop
 |_,[]=>True
 |ns,r::rs=>r.good/\r.nm∉ns/\(∀e,r.el=some e->e∈ns)/\dO (ns++[r.nm]) rs
def ZdR(cn ca cl ce:aj)(H:Hp):Option Tr->V->Prop
 |some t,v=>∃a,v=.ref a/\eG cn ca cl ce H t a
 |none,v=>v=.fR
def sR(cn ca cl ce:aj)(H:Hp)(d:aj)(r:Sr):Prop:=∃v,H d=some (.tup [.str r.nm,oS r.el,v])/\ZdR cn ca cl ce H r.tm v
def yZ(cn ca cl ce:aj)(H:Hp)(p:aj)(rs:List Sr):Prop:=∃ds:List aj,H p=some (.lst (ds.map V.ref))/\Paired (sR cn ca cl ce H) ds rs
def elW:Option Str->List Str
 |some e=>[Str.ofString "under",e]
 |none=>[]
def tmW:Option Tr->List Str
 |some t=>t.wC (-1)
 |none=>[]
def Sr.yF(r:Sr):List Str:=Str.ofString "series"::r.nm::(elW r.el++tmW r.tm)
def yz(r:Sr):Str:=match r.el with
 |some e=>Str.ofString "series "++r.nm++Str.ofString " under "++e
 |none=>Str.ofString "series "++r.nm
def Sr.txt(r:Sr):Str:=match r.tm with
 |some t=>yz r++Str.ofString " "++t.tC (-1)
 |none=>yz r
def FG(ns:List Str):List (Key×V):=ns.map λz=>(Sum.inr z,V.bl true)
def uB(rs:List Sr):Str:=Txt.join (Str.ofString "\n") (rs.map Sr.txt)
def mf(cn ca cl ce:aj):Sp:=λvs H Q _=>∃(p:aj) (t:Tr) (n:Int),vs=[.ref p,.int n]/\H p=some (.lst ((t.wC (-1)).map V.str))/\t.good/\t.cnt<=10/\∀a H',bU H H'->eG cn ca cl ce H' t a->Q (.ref a) H'
def mh(cn ca cl ce:aj):Sp:=λvs H Q _=>∃(r:Sr) (n:Int) (a:aj) (ns:List Str),vs=[.str r.txt,.int n,.ref a]/\H a=some (.dK (FG ns))/\r.good/\r.nm∉ns/\(∀e,r.el=some e->e∈ns)/\
 ∀d H',H d=none->bU H H'->sR cn ca cl ce H' d r->Q (.ref d) H'
def pZ(cn ca cl ce:aj):Sp:=λvs H Q _=>∃rs:List Sr,vs=[.str (uB rs)]/\dO [] rs/\rs.length<=63/\∀p H',H p=none->bU H H'->yZ cn ca cl ce H' p rs->Q (.ref p) H'
def wc:List Sr->Option Str->Option Sr
 |[],_=>none
 |r::rr,w=>if some r.nm=w then(if r.tm.isSome=true then some r else wc rr r.el) else wc rr w
def BkR:List Sr->Prop
 |[]=>True
 |r::rr=>r.good/\r.nm∉rr.map Sr.nm/\(∀e,r.el=some e->e∈rr.map Sr.nm)/\BkR rr
def j3(cn ca cl ce:aj):Sp:=λvs H Q _=>∃(p:aj) (n:Str) (rs:List Sr) (r:Sr),vs=[.ref p,.str n]/\yZ cn ca cl ce H p rs/\rs.length<=63/\wc rs.reverse (some n)=some r/\∀d H',bU H H'->sR cn ca cl ce H' d r->Q (.ref d) H'
def pP(cn ca cl ce:aj):Sp:=λvs H Q _=>∃(p:aj) (n:Str) (rs:List Sr) (r:Sr) (t:Tr),vs=[.ref p,.str n]/\yZ cn ca cl ce H p rs/\rs.length<=63/\wc rs.reverse (some n)=some r/\r.tm=some t/\∀a H',bU H H'->eG cn ca cl ce H' t a->Q (.ref a) H'
def xK(i:Int):Str:=⟨#[97+i.toNat]⟩
def yC(n:Int):Nat->Str
 |0=>Str.empty
 |j+1=>yC n j++xK ((n/(0+(j:Int)+3)+(0+(j:Int))*(0+(j:Int)))%26)
def i7(n:Int):Str:=yC n (1+n%9).toNat
def xJ(k:Int):Str:=if 25<k then xK (k/26)++xK (k%26) else xK (k%26)
def BX(n:Int):Int:=n/9%(((i7 n).length:Int)+1)
def jb(n k:Int):Str:=Txt.slice (i7 n) none (some (BX n))++xJ k++Txt.slice (i7 n) (some (BX n)) none
def gC(c:Int)(k:Nat):Str:=jb c (if c/7%2=0 then(k:Int) else 25-(k:Int))
def Tr.pA:Tr->Prop
 | .never=>True
 | .after k d=>Nm k/\∃m:Nat,1<=m/\m<=9/\(d=((360*m:Nat):Int)\/d=((30*m:Nat):Int)\/d=(m:Int))
 | .later x y=>x.pA/\y.pA
 | .cO x y=>x.pA/\y.pA
structure uC (c:Int) (k:Nat) (r:Sr):Prop where
 good:r.good
 nm:r.nm=gC c k
 el:∀e,r.el=some e->∃j,j<k/\e=gC c j
def Rows(c:Int)(rs:List Sr):Prop:=∀i r,rs[i]? =some r->uC c i r
def jx(rs:List Sr):HO:=.lst ((rs.map Sr.txt).map V.str)
def pQ:Sp:=λvs H Q _=>∃i:Int,vs=[.int i]/\∀H',bU H H'->Q (.bl true) H'
def mq(K:au):Sp:=λvs H Q _=>∃(a:aj) (ns:List Int) (k:Nat),vs=[.ref a,.int (k:Int)]/\cK K H a (ns.map V.int)/\∀(c:Int) H',bU H H'->Q (.int c) H'
def iQ:Sp:=λvs H Q _=>∃n k:Int,vs=[.int n,.int k]/\0<=k/\k<600/\∀H',bU H H'->Q (.str (jb n k)) H'
def nR:Sp:=λvs H Q _=>∃n:Int,vs=[.int n]/\∀(d:Int) H',Tr.pA (.after (Str.ofString "a") d)->bU H H'->Q (.str (uX d.toNat (-1))) H'
def jo:Sp:=λvs H Q _=>∃n s c:Int,vs=[.int n,.int s,.int c]/\0<s/\s<=10000/\∀(m:Int) H',bU H H'->Q (.int m) H'
def iT:Sp:=λvs H Q _=>∃(n c:Int) (mo:Nat),vs=[.int n,.int c,.int (mo:Int)]/\mo<=3/\∀(t:Tr) (m:Int) p H',t.pA->t.cnt<=mo+1->bU H H'->H' p=some (.tup [.str (t.tC (-1)),.int m])->Q (.ref p) H'
def jK:Sp:=λvs H Q _=>∃(t:Tr) (n c:Int),vs=[.str (t.tC (-1)),.int n,.int c]/\t.pA/\t.cnt<=4/\∀(u:Tr) H',u.good->u.cnt<=10->bU H H'->Q (.str (u.tC (-1))) H'
def pR:Sp:=λvs H Q _=>∃(k:Nat) (c:Int),vs=[.int (k:Int),.int c]/\k<=25/\∀H',bU H H'->Q (.str (gC c k)) H'
def rN:Sp:=λvs H Q _=>∃(x:Int) (k:Nat) (c:Int),vs=[.int x,.int (k:Int),.int c]/\k<12/\∀(r r':Sr) p H',bU H H'->H' p=some (.tup [.str r.txt,.str r'.txt])->uC c k r->uC c k r'->Q (.ref p) H'
def pT:Sp:=λvs H Q _=>∃(p:aj) (ns:List Int) (c:Int),vs=[.ref p,.int c]/\H p=some (.lst (ns.map V.int))/\ns.length<=12/\∀(rs vn:List Sr) q a b H',bU H H'->H' q=some (.tup [.ref a,.ref b])->H' a=some (jx rs)->H' b=some (jx vn)->Rows c rs->Rows c vn->rs.length<=12->vn.length<=12->Q (.ref q) H'
def pV:Sp:=λvs H Q _=>∃(a b:aj) (x c:Int) (rs vn:List Sr),vs=[.ref a,.ref b,.int x,.int c]/\H a=some (jx rs)/\H b=some (jx vn)/\Rows c rs/\Rows c vn/\rs.length<=12/\vn.length<=12/\∀(us OL:List Sr) q a' b' H',bU H H'->H' q=some (.tup [.ref a',.ref b'])->H' a'=some (jx us)->H' b'=some (jx OL)->dO [] us->dO [] OL->us.length<=13->OL.length<=13->Q (.ref q) H'
def oj(r:Sr)(ns:List Str):Bool:=match r.el with
 |some e=>ns.any λn=>decide (n=e)
 |none=>true
def pU:Sp:=λvs H Q _=>∃(r:Sr) (q:aj) (ns:List Str),vs=[.str r.txt,.ref q]/\H q=some (.lst (ns.map V.str))/\r.good/\∀H',bU H H'->Q (.bl (oj r ns)) H'
def mn:Sp:=λvs H Q _=>∃(p:aj) (rs:List Sr) (n:Int),vs=[.ref p,.int n]/\H p=some (jx rs)/\dO [] rs/\rs.length<=13/\∀(us:List Sr) q H',bU H H'->H' q=some (jx us)->dO [] us->us.length<=13->Q (.ref q) H'
def ma(rs:List Sr)(n:Str):Tr:=match wc rs.reverse (some n) with
 |some r=>r.tm.getD .never
 |none=> .never
def Ax:List Nat->Nat
 |[]=>0
 |x::xs=>if xs=[] then x else min x (Ax xs)
def short(t u:Tr):Nat:=Ax ((ju t u).map List.length)
def d_(rs us:List Sr)(z:Str):Nat:=short (ma rs z) (ma us z)
def YD{α:Type}(f:α->Nat)(p:α->Bool)(xs:List α)(x:α):Prop:=∃i:Nat,xs[i]? =some x/\p x=true/\∀(j:Nat) (y:α),xs[j]? =some y->p y=true->f x<=f y/\(j<i->f x<f y)
def apart(rs us:List Sr)(z:Str):Bool:=decide (0<d_ rs us z)
def Told(rs us:List Sr)(H0 H:Hp)(d:aj)(z:Str):Prop:=∃(l:aj) (c k:Tb),H d=some (.tup [.str z,.ref l])/\H l=some (.dK (kk k))/\H0 l=none/\c∈ju (ma rs z) (ma us z)/\(∀d∈ju (ma rs z) (ma us z),M4.gh d c=false)/\wG c k
def Found(rs us:List Sr)(H0 H:Hp)(v:V):Prop:=∃zs:List Str,zs.Perm (rs.map Sr.nm)/\sortedS zs=true/\((v=.fR/\∀z∈zs,d_ rs us z=0)\/∃(p:aj) (z:Str),v=.ref p/\Told rs us H0 H p z/\YD (d_ rs us) (apart rs us) zs z)
def Oj(rs us:List Sr):Prop:=∀z,z∈rs.map Sr.nm↔z∈us.map Sr.nm
def vh(rs us:List Sr)(z:Str):Prop:=(z∈rs.map Sr.nm\/z∈us.map Sr.nm)/\(z∉rs.map Sr.nm\/z∉us.map Sr.nm)
def YE(C:aj)(z:Str)(E:XK)(H:Hp):Prop:=∀d H',H d=none->bU H H'->H' d=some (XD d (Str.ofString "name") (.str z))->E (.ref C) (some d) H'
structure YC (cn ca cl ce:aj) (H:Hp) (a b:aj) (rs us:List Sr):Prop where
 a1:yZ cn ca cl ce H a rs
 a2:yZ cn ca cl ce H b us
 k1:dO [] rs
 k2:dO [] us
 l1:rs.length<=13
 l2:us.length<=13
def rM(cn ca cl ce:aj):Sp:=λvs H Q _=>∃(p:aj) (rs:List Sr),vs=[.ref p]/\yZ cn ca cl ce H p rs/\rs.length<=13/\∀q H',H q=none->bU H H'->H' q=some (.lst ((rs.map Sr.nm).map V.str))->Q (.ref q) H'
def kC:Sp:=λvs H Q _=>∃(d l:aj) (z:Str) (k:Tb),vs=[.ref d]/\H d=some (.tup [.str z,.ref l])/\H l=some (.dK (kk k))/\∀H',bU H H'->Q (.int (k.length:Int)) H'
def iR(C:aj):Sp:=λvs H Q _=>∃(e:aj) (z:Str),vs=[.ref e,.str z]/\H e=some (XN e C none)/\z.length<=12/\∀d,H d=none->d≠e->Q .fR (upd (upd H d (XD d (Str.ofString "name") (.str z))) e (XN e C (some d)))
def xn(cn ca cl ce C:aj):Sp:=λvs H Q E=>∃(a b:aj) (rs us:List Sr),vs=[.ref a,.ref b]/\YC cn ca cl ce H a b rs us/\(Oj rs us->∀v H',bU H H'->Found rs us H H' v->Q v H')/\(∀z,vh rs us z->(∀y,vh rs us y->strLt y z=false)->YE C z E H)
def nQ(C:aj):Sp:=λvs H Q _=>∃(e d:aj) (z:Str),vs=[.ref e,.str z]/\H e=some (XO e C (some d))/\H d=some (XD d (Str.ofString "name") (.str z))/\∀H',bU H H'->Q (.bl true) H'
def k_(cn ca cl ce:aj):Sp:=λvs H Q _=>∃(a b:aj) (t u:Tr),vs=[.ref a,.ref b]/\eG cn ca cl ce H t a/\eG cn ca cl ce H u b/\t.cnt<=10/\u.cnt<=10/\∀H',bU H H'->Q (.int ((short t u:Nat):Int)) H'
def ml(cn ca cl ce:aj):Sp:=λvs H Q _=>∃(l a b:aj) (k:Tb) (t u:Tr),vs=[.ref l,.ref a,.ref b,.int (k.length:Int)]/\H l=some (.dK (kk k))/\eG cn ca cl ce H t a/\eG cn ca cl ce H u b/\t.cnt<=10/\u.cnt<=10/\M4.Nd k/\k.length<=31/\(∀p∈k,0<=p.2)/\t.xa k≠u.xa k/\∀H',bU H H'->Q (.bl true) H'
def xp(cn ca cl ce:aj):Sp:=λvs H Q _=>∃(v:V) (a b:aj) (rs us:List Sr) (H0:Hp),vs=[v,.ref a,.ref b]/\YC cn ca cl ce H a b rs us/\Oj rs us/\Found rs us H0 H v/\∀H',bU H H'->Q (.bl true) H'
section
variable {P:bo} {w:World} {K:au} {mg:Str->Option af} {base:Heap} {bh:Tok} {a4:Tok} {aO:Tok} {aN:Tok} {bF:Tok} {bE:Tok} {a3:Tok} {aP:Tok} {aI:aj} {aD:aj} {aC:aj} {ar:aj} {aV:aj} {bY:aj} {bw:aj} {bL:aj} {bA:aj} {bM:aj} {bq:aj} {a_:aj} {br:aj} {bB:aj} {aS:aj} {bX:aj}
theorem By:b_ ["text","signs"] ["text","signs"] (bG qh):=⟨rfl,rfl,rfl,by decide+kernel,rfl,by decide+kernel,by decide+kernel⟩
theorem BI{f:aj}{fd:bC}(F:je K "is_made_of" "is_made_of" qh f fd)(T:Txt K mg bh a4 aO aN bF bE a3 aP aI aD aC ar aV bY bw bL bA bM bq a_ br bB aS bX):dJ P w K mg base c8 1 f fd ["text","signs"] kD:=by
 refine F.ok By (λvs H Q E h=> ?_) (λdQ A outer s H vs Q E hr h=> ?_)
 ·obtain⟨x,y,rfl,_⟩:=h
  rfl
 ·obtain⟨x,y,rfl,hx,k⟩:=h;refine⟨_,(aR (bP (cg (AV U) (by rfl) T.Z0E RJ (ag (kF ["sign"] [("signs",1)] U (WV (pv 0)) (by rfl) (by exact⟨U,trivial⟩) (by rfl) (by exact⟨⟨U,U,U⟩,trivial⟩) (λ_ _ _ _=>(cR (i:=0) (show(t_ ["sign"] [("signs",1)]).Nodup by decide+kernel) U (Or.inl U))) (λ_ _ _ _=>lN) (λ_ _ _ _=>(qm MY (pv 0) (pv 1) U))) aA)))), ?_⟩;refine WN (Te (WQ (RC (f:=λc=>V.bl (LL y c)) U (bD hx fo) (λv=>⟨U,trivial⟩) (λc H2 Q2 q=>⟨_,U,_,U,_,_,U,U,q⟩) λD hD=> ?_)))
  refine⟨D,x.cps.toList.map (LL y),U,cK.of (by rw[ay,cM];rfl), ?_⟩
  have e:(x.cps.toList.map (LL y)).all id=x.cps.toList.all (LL y):=by rw[List.all_map];rfl
  rw[e];exact k _ (aU hD)
theorem DN:b_ ["text"] ["text"] (bG r6):=⟨rfl,rfl,rfl,by decide+kernel,rfl,by decide+kernel,by decide+kernel⟩
theorem Ei{f:aj}{fd:bC}(F:je K "is_number" "is_number" r6 f fd)(T:Txt K mg bh a4 aO aN bF bE a3 aP aI aD aC ar aV bY bw bL bA bM bq a_ br bB aS bX)(iZ:fi P w K mg base c8 1 "is_made_of" ["text","signs"] kD):dJ P w K mg base c8 2 f fd ["text"] pW:=by
 refine F.ok DN (λvs H Q E h=> ?_) (λdQ A outer s H vs Q E hr h=> ?_)
 ·obtain⟨x,rfl,_⟩:=h
  rfl
 ·obtain⟨x,rfl,hx,k⟩:=h;have hz:=bD hx fo;refine⟨_,(av (c9 (PW.pt (pw_or (bQ gb (cg fz (by rfl) T.j6 gE (ag (pv 0) aA)) a9 (cf _)) (pw_or1 (bQ qZ (cg fz (by rfl) T.j6 gE (ag (pv 0) aA)) (fu (v:=.int 40) U T.m7 ⟨_,U⟩) (cf _))))) (aR (bP si)) b9) (av (c9 (PW.pt (pw_and (bQ gb (dI AF (pv 0) a9 (λ_ _=>rfl)) cV (cf _)) (pw_and1 (bQ wg (pv 0) cV (cf _))))) (aR (bP si)) b9) (aR (bP (cG iZ (hr.mono (by omega)) U cq (ag (pv 0) (ag (fu (v:=.str iD) U T.R4 ⟨_,U⟩) aA))))))), ?_⟩
  refine⟨_,U,_,_,U,⟨hz,U⟩,U,_,U, ?_⟩;refine gW (λe=>jH ?_) (λe=> ?_)
  ·have e:V.int (x.length:Int)=V.int 0:=ba e;have e:x.length=0:=by injection e with e;omega
   exact vW (k H (bU.refl H)) (by unfold isNum;rw[bg (.inl e)])
  ·have e:¬V.int (x.length:Int)=V.int 0:=λz=>e (bf z);have e:x.length≠0:=λz=>e (by rw[z];rfl)
   refine⟨_,U,_,_,U,⟨hz,U⟩,_,_,U,U,_,U, ?_⟩;refine gW (λe2=> ?_) (λe2=> ?_)
   ·have e2:(40:Int)<(x.length:Int):=ba e2;exact vW (k H (bU.refl H)) (by unfold isNum;rw[bg (.inr (by omega))])
   ·have e2:¬(40:Int)<(x.length:Int):=λz=>e2 (bf z);have hn:¬(x.length=0\/40<x.length):=by omega
    obtain⟨c,hc⟩:=A1 (xs:=x.cps.toList) (i:=0) (by omega) (by rw[bx];show(0:Int)<((x.length:Nat):Int);omega)
    have hh:(cs x).head? =some c:=RV hc;refine⟨_,U,x,0,c,U,U,hz,hc,U,_,U, ?_⟩;have fin:¬((cs x).head? =some 48/\x≠⟨#[48]⟩)->isNum x=x.cps.toList.all (LL iD):=λz=>by
     unfold isNum;rw[aX hn,aX z]
    refine gW (λe3=> ?_) (λe3=> ?_)
    ·have e3:c=48:=(Gq c).mp (ba e3);refine⟨_,U,U,_,U, ?_⟩
     by_cases ex:x=⟨#[48]⟩
     ·refine pF (by rw[ex,<-XC]) ?_;refine⟨_,U,x,iD,U,hx,λH' s'=> ?_⟩;exact vW (k H' s') (by rw[fin (λz=>z.2 ex)])
     ·have ed:decide (V.str x=V.str (Str.ofString "0"))=false:=bJ (λz=>ex ((V.str.inj z).trans XC));show if(!decide (V.str x=V.str (Str.ofString "0")))=true then _ else _;rw[ed];refine jH ?_;exact vW (k H (bU.refl H)) (by unfold isNum;rw[aX hn,bg ⟨by rw[hh,e3],ex⟩])
    ·have e3:¬c=48:=λz=>e3 (bf ((Gq c).mpr z));refine ic ?_;refine⟨_,U,x,iD,U,hx,λH' s'=> ?_⟩;exact vW (k H' s') (by rw[fin (λz=>e3 (by have:=z.1;rw[hh] at this;exact bR this))])
theorem vT:b_ ["letter"] ["letter"] (bG kg):=⟨rfl,rfl,rfl,by decide+kernel,rfl,by decide+kernel,by decide+kernel⟩
theorem wk{f:aj}{fd:bC}(F:je K "days_of_letter" "days_of_letter" kg f fd)(T:Txt K mg bh a4 aO aN bF bE a3 aP aI aD aC ar aV bY bw bL bA bM bq a_ br bB aS bX):dJ P w K mg base c8 1 f fd ["letter"] jL:=by
 refine F.ok vT (λvs H Q E h=> ?_) (λdQ A outer s H vs Q E hr h=> ?_)
 ·obtain⟨x,rfl,_⟩:=h
  rfl
 ·obtain⟨x,rfl,k⟩:=h;have q:=k H (bU.refl H);unfold rH at q
  refine⟨_,(av (c9 (bQ gb (pv 0) cV (cf _)) (aR (bP (fu (v:=.int 360) U T.M5 ⟨_,U⟩))) b9) (av (c9 (bQ gb (pv 0) cV (cf _)) (aR (bP (fu (v:=.int 30) U T.G4 ⟨_,U⟩))) b9) (av (c9 (bQ gb (pv 0) cV (cf _)) (aR (bP a9)) b9) (aR (bP gN))))), ?_⟩;have ds:∀y:Str,V.str x=V.str y->x=y:=λy e=>by injection e
  refine⟨_,U,U,_,U,gW (λe=> ?_) (λe=> ?_)⟩
  ·rw[bg (ds _ (ba e))] at q
   exact q
  ·rw[aX (λz=>e (bf (by rw[z])))] at q
   refine⟨_,U,U,_,U,gW (λe=> ?_) (λe=> ?_)⟩
   ·rw[bg (ds _ (ba e))] at q
    exact q
   ·rw[aX (λz=>e (bf (by rw[z])))] at q
    refine⟨_,U,U,_,U,gW (λe=> ?_) (λe=> ?_)⟩
    ·rw[bg (ds _ (ba e))] at q
     exact q
    ·rw[aX (λz=>e (bf (by rw[z])))] at q
     exact q
theorem mC:b_ ["text","number","unit"] ["text"] (bG n5):=⟨rfl,rfl,rfl,by decide+kernel,rfl,by decide+kernel,by decide+kernel⟩
theorem Ak{f:aj}{fd:bC}(F:je K "length_read" "length_read" n5 f fd)(T:Txt K mg bh a4 aO aN bF bE a3 aP aI aD aC ar aV bY bw bL bA bM bq a_ br bB aS bX)(ko:fi P w K mg base c8 1 "days_of_letter" ["letter"] jL)(sM:fi P w K mg base c8 2 "is_number" ["text"] pW):dJ P w K mg base c8 3 f fd ["text"] mi:=by
 refine F.ok mC (λvs H Q E h=> ?_) (λdQ A outer s H vs Q E hr h=> ?_)
 ·obtain⟨n,c,u,rfl,_⟩:=h
  rfl
 ·obtain⟨n,c,u,rfl,hn,hu,hu2,k⟩:=h;have l5:=fo;have hl:(num n).length<=40:=ze (by decide) hn;have hz:(num n++⟨#[c]⟩:Str).length<=sizeLine:=by rw[len_one];omega
  refine⟨_,(av (bS (i:=1) mC.nd U (Or.inl U) (mI DG (pv 0) tH (nJ (Vt OP a9)))) (av (bS (i:=2) mC.nd U (Or.inl U) (cG ko (hr.mono (by omega)) U cq (ag (mI DG (pv 0) (nJ (Vt OP a9)) tH) aA))) (av (c9 (PW.pt (pw_or (bQ xF (pv 2) gN (cf _)) (pw_or1 (mH (iS (cG sM (hr.mono (by omega)) U cq (ag (pv 1) aA))))))) (aR jr) b9) (aR (bP (bV tK (g_ Ff (by rfl) T.Z0D RI (ag (pv 1) aA)) (pv 2))))))), ?_⟩;refine⟨_,U,_,U,_,U,_,U,hz, ?_⟩
  rw[Jh];refine⟨_,U,_,U,_,U,_,U,hz,_,U,λH1 s1=> ?_⟩;rw[Jg,hu];refine⟨_,U,U,_,U,ic ?_⟩;refine⟨_,U,num n,U,by omega,λH2 s2=>⟨_,rfl, ?_⟩⟩;rw[NM hn];refine ic ?_;refine⟨_,U,num n,(n:Int),U,num_reads (by omega),by omega,_,rfl,_,_,rfl,rfl,oX (rm (by omega) (by omega)), ?_⟩;exact vW (k H2 (s1.trans s2)) (by rw[Int.natCast_mul])
theorem Jm:b_ ["text"] ["text"] (bG xB):=⟨rfl,rfl,rfl,by decide+kernel,rfl,by decide+kernel,by decide+kernel⟩
theorem JI{f:aj}{fd:bC}(F:je K "is_name" "is_name" xB f fd)(T:Txt K mg bh a4 aO aN bF bE a3 aP aI aD aC ar aV bY bw bL bA bM bq a_ br bB aS bX)(iZ:fi P w K mg base c8 1 "is_made_of" ["text","signs"] kD):dJ P w K mg base c8 2 f fd ["text"] pX:=by
 refine F.ok Jm (λvs H Q E h=> ?_) (λdQ A outer s H vs Q E hr h=> ?_)
 ·obtain⟨x,rfl,_⟩:=h
  rfl
 ·obtain⟨x,rfl,hx,k⟩:=h;have hz:=bD hx fo;refine⟨_,(av (c9 (PW.pt (pw_or (bQ gb (cg fz (by rfl) T.j6 gE (ag (pv 0) aA)) a9 (cf _)) (pw_or1 (bQ qZ (cg fz (by rfl) T.j6 gE (ag (pv 0) aA)) (fu (v:=.int 12) U T.m6 ⟨_,U⟩) (cf _))))) (aR (bP si)) b9) (aR (bP (cG iZ (hr.mono (by omega)) U cq (ag (pv 0) (ag (fu (v:=.str kq) U T.R3 ⟨_,U⟩) aA)))))), ?_⟩;refine⟨_,U,_,_,U,⟨hz,U⟩,U,_,U, ?_⟩;refine gW (λe=>jH ?_) (λe=> ?_)
  ·have e:V.int (x.length:Int)=V.int 0:=ba e;have e:x.length=0:=by injection e with e;omega
   have ev:isName x=false:=by simp[isName,e]
   have q:=k H (bU.refl H);rw[ev] at q
   exact q
  ·have e:¬V.int (x.length:Int)=V.int 0:=λz=>e (bf z);have e:x.length≠0:=λz=>e (by rw[z];rfl)
   refine⟨_,U,_,_,U,⟨hz,U⟩,_,_,U,U,_,U, ?_⟩;refine gW (λe2=> ?_) (λe2=> ?_)
   ·have e2:(12:Int)<(x.length:Int):=ba e2;have ev:isName x=false:=by
     have:¬x.length<=12:=by omega
     simp[isName,this]
    have q:=k H (bU.refl H);rw[ev] at q
    exact q
   ·have e2:¬(12:Int)<(x.length:Int):=λz=>e2 (bf z);refine⟨_,U,x,kq,U,hx,λH' s'=> ?_⟩;have ev:isName x=x.cps.toList.all (LL kq):=by
     have h1:1<=x.length:=by omega
     have h2:x.length<=12:=by omega
     simp[isName,h1,h2]
    have q:=k H' s';rw[ev] at q
    exact q
theorem zZ:b_ ["_law_script","_law_k"] ["_law_script","_law_k"] (bG oh):=⟨rfl,rfl,rfl,by decide+kernel,rfl,by decide+kernel,by decide+kernel⟩
theorem Ao{f:aj}{fd:bC}(F:je K "_law_cell_at" "_law_cell_at" oh f fd)(T:Txt K mg bh a4 aO aN bF bE a3 aP aI aD aC ar aV bY bw bL bA bM bq a_ br bB aS bX):dJ P w K mg base c8 1 f fd ["_law_script","_law_k"] (mq K):=by
 refine F.ok zZ (λvs H Q E h=> ?_) (λdQ A outer s H vs Q E hr h=> ?_)
 ·obtain⟨a,ns,k,rfl,_⟩:=h
  rfl
 ·obtain⟨a,ns,k,rfl,hS,q⟩:=h;refine⟨_,(av (c9 (bQ CB (pv 1) (cg fz (by rfl) T.j6 gE (ag (pv 0) aA)) (cf _)) (aR (bP (dI dY (pv 0) (pv 1) (λ_ _=>rfl)))) b9) (aR (bP a9))), ?_⟩;refine⟨_,U,_,U,_,_,U,.inl ⟨_,hS,U⟩,_,_,U,U,_,U,gW (λe=> ?_) (λe=> ?_)⟩
  ·have e:(k:Int)<((ns.map V.int).length:Int):=ba e;rw[ao] at e
   obtain⟨c,_,ec⟩:=RU (ns:=ns) (i:=(k:Int)) (by omega) (by omega);exact⟨_,U,_,U,a,_,_,_,U,U,hS,ec,q c H (bU.refl H)⟩
  ·exact q 0 H (bU.refl H)
theorem DL:b_ ["_law_found"] ["_law_found"] (bG rV):=⟨rfl,rfl,rfl,by decide+kernel,rfl,by decide+kernel,by decide+kernel⟩
theorem Ed{f:aj}{fd:bC}(F:je K "_law_whole" "_law_whole" rV f fd)(T:Txt K mg bh a4 aO aN bF bE a3 aP aI aD aC ar aV bY bw bL bA bM bq a_ br bB aS bX):dJ P w K mg base c8 1 f fd ["_law_found"] pQ:=by
 refine F.ok DL (λvs H Q E h=> ?_) (λdQ A outer s H vs Q E hr h=> ?_)
 ·obtain⟨i,rfl,_⟩:=h
  rfl
 ·obtain⟨i,rfl,k⟩:=h;refine⟨_,(aR (bP (Jy (cg gK (by rfl) T.b7 eg (ag (pv 0) (ag (qo (v:=.ty "int") U T.Z0D RI U) aA))) (D_ (WY (cg gK (by rfl) T.b7 eg (ag (pv 0) (ag (qo (v:=.ty "bool") U T.Z0k UW U) aA)))))))), ?_⟩;refine⟨_,U,_,_,_,_,true,U,U,pL.int _,T.kii,_,U,jH ?_⟩;exact⟨_,U,_,_,_,_,false,U,U,pL.int _,T.kib,_,U,k H (bU.refl H)⟩
theorem kd:¬(("kind":Str)="days"):=by decide+kernel
theorem oo:¬(("one":Str)="other"):=by decide+kernel
theorem E1(k:Str)(d:Int):(fA k d).lookup ("kind":Str)=some (.str k):=by
 unfold fA;rw[fm,aX kd,fm,bg rfl]
theorem LW(k:Str)(d:Int):(fA k d).lookup ("days":Str)=some (.int d):=by
 unfold fA;rw[fm,bg rfl]
theorem EZ(p q:aj):(fP p q).lookup ("one":Str)=some (.ref p):=by
 unfold fP;rw[fm,aX oo,fm,bg rfl]
theorem wN(p q:aj):(fP p q).lookup ("other":Str)=some (.ref q):=by
 unfold fP;rw[fm,bg rfl]
theorem ZaW(k:Str)(d:Int){m:Str}(h1:¬m="days")(h2:¬m="kind"):(fA k d).lookup m=none:=by
 unfold fA;rw[fm,aX h1,fm,aX h2]
 rfl
theorem VI(p q:aj){m:Str}(h1:¬m="other")(h2:¬m="one"):(fP p q).lookup m=none:=by
 unfold fP;rw[fm,aX h1,fm,aX h2]
 rfl
theorem eG.same{cn ca cl ce:aj}{H H':Hp}(s:bU H H'):∀{t:Tr} {a:aj},eG cn ca cl ce H t a->eG cn ca cl ce H' t a
 | .never,a,⟨dx,h⟩=>⟨dx,s _ _ h⟩
 | .after k d,a,⟨dx,h⟩=>⟨dx,s _ _ h⟩
 | .later x y,a,⟨dx,p,q,h,h1,h2⟩=>⟨dx,p,q,s _ _ h,h1.same s,h2.same s⟩
 | .cO x y,a,⟨dx,p,q,h,h1,h2⟩=>⟨dx,p,q,s _ _ h,h1.same s,h2.same s⟩
theorem Tr.iw:∀t:Tr,t.deep<t.cnt
 | .never=>Mm
 | .after _ _=>Mm
 | .later x y=>by
  have h1:=x.iw;have h2:=y.iw;simp only [Tr.deep,Tr.cnt];omega
 | .cO x y=>by
  have h1:=x.iw;have h2:=y.iw;simp only [Tr.deep,Tr.cnt];omega
theorem pe{cn ca cl ce:aj}{H:Hp}{a:aj}:∀{t:Tr},eG cn ca cl ce H t a->∃dx fs,H a=some (.ins (C9 cn ca cl ce t) dx fs)/\∀m:Str,¬m="days"->¬m="kind"->¬m="other"->¬m="one"->fs.lookup m=none
 | .never,⟨dx,h⟩=>⟨dx,_,h,λ_ _ _ _ _=>rfl⟩
 | .after k d,⟨dx,h⟩=>⟨dx,_,h,λ_ h1 h2 _ _=>ZaW k d h1 h2⟩
 | .later x y,⟨dx,p,q,h,_⟩=>⟨dx,_,h,λ_ _ _ h1 h2=>VI p q h1 h2⟩
 | .cO x y,⟨dx,p,q,h,_⟩=>⟨dx,_,h,λ_ _ _ h1 h2=>VI p q h1 h2⟩
theorem xT{cn ca cl ce:aj}:∀t:Tr,(C9 cn ca cl ce t=cn\/C9 cn ca cl ce t=ca\/C9 cn ca cl ce t=cl\/C9 cn ca cl ce t=ce)
 | .never=> .inl rfl
 | .after _ _=> .inr (.inl rfl)
 | .later _ _=> .inr (.inr (.inl rfl))
 | .cO _ _=> .inr (.inr (.inr rfl))
theorem Le{H H2:Hp}{b:aj}{l:Tb}(s:bU H H2)(h:Rd H b (.dK (kk l))):Rd H2 b (.dK (kk l)):=by
 rcases h with h|⟨o,h⟩
 ·exact .inl (s _ _ h)
 ·exact .inr ⟨o,s _ _ h⟩
theorem Ae{H:Hp}{b:aj}{l:Tb}(h:Rd H b (.dK (kk l)))(k:Str):yg H b (.str k) ((lk l k).map V.int):=by
 rw[<-Dy];exact .inl ⟨_,Sum.inr k,h,U,U⟩
theorem Ay{o:Option Int}:(o.map V.int).isSome=o.isSome:=by cases o<;>rfl
theorem Bz:b_ ["self","kind","days"] ["self","kind","days"] (bG qj):=⟨rfl,rfl,rfl,by decide+kernel,rfl,by decide+kernel,by decide+kernel⟩
theorem BK{f:aj}{fd:bC}(F:je K "__init__" "After.__init__" qj f fd)(T:Txt K mg bh a4 aO aN bF bE a3 aP aI aD aC ar aV bY bw bL bA bM bq a_ br bB aS bX){C:aj}(cl:IM K C)(Xq:jd K C "kind")(Xr:jd K C "days"):dJ P w K mg base c8 1 f fd ["self","kind","days"] (nW C):=by
 refine F.ok Bz (λvs H Q E h=> ?_) (λdQ A outer s H vs Q E hr h=> ?_)
 ·obtain⟨x,dx,k,d,rfl,_⟩:=h
  rfl
 ·obtain⟨x,dx,k,d,rfl,hx,q⟩:=h;refine⟨_,(av (D7 (pv 0) (pv 1) U) (aR (D7 (pv 0) (pv 2) U))), ?_⟩;refine⟨_,U,_,U,x,C,dx,_,U,hx,cl,Xq,(by show 0<1000;decide),_,U,_,U,x,C,dx,_,U,ay,cl,Xr,(by show 1<1000;decide), ?_⟩
  rw[kB];exact q
theorem DO:b_ ["self","one","other"] ["self","one","other"] (bG nG):=⟨rfl,rfl,rfl,by decide+kernel,rfl,by decide+kernel,by decide+kernel⟩
theorem wo{f:aj}{fd:bC}(F:je K "__init__" "Pair.__init__" nG f fd)(T:Txt K mg bh a4 aO aN bF bE a3 aP aI aD aC ar aV bY bw bL bA bM bq a_ br bB aS bX){C:aj}(cl:IM K C)(Zaq:jd K C "one")(TV:jd K C "other"):dJ P w K mg base c8 1 f fd ["self","one","other"] (jM C):=by
 refine F.ok DO (λvs H Q E h=> ?_) (λdQ A outer s H vs Q E hr h=> ?_)
 ·obtain⟨x,dx,p,q,rfl,_⟩:=h
  rfl
 ·obtain⟨x,dx,p,q,rfl,hx,k⟩:=h;refine⟨_,(av (D7 (pv 0) (pv 1) U) (aR (D7 (pv 0) (pv 2) U))), ?_⟩;refine⟨_,U,_,U,x,C,dx,_,U,hx,cl,Zaq,(by show 0<1000;decide),_,U,_,U,x,C,dx,_,U,ay,cl,TV,(by show 1<1000;decide), ?_⟩
  rw[kB];exact k
theorem kL{H:Hp}{x dx:aj}{o:HO}(h1:H x=none)(h2:H dx=none):bU H (upd (upd H dx (.own x)) x o):=λb u e=>by
 rw[aY (bI e h1),aY (bI e h2)];exact e
theorem Pg:b_ [] [] (bG DT):=⟨rfl,rfl,rfl,by decide+kernel,rfl,by decide+kernel,by decide+kernel⟩
theorem P2{f:aj}{fd:bC}(F:je K "never" "never" DT f fd)(T:Txt K mg bh a4 aO aN bF bE a3 aP aI aD aC ar aV bY bw bL bA bM bq a_ br bB aS bX)(Fl:YB K mg "Never" aI):dJ P w K mg base c8 1 f fd [] (zV aI aD aC ar):=by
 refine F.ok Pg (λvs H Q E h=> ?_) (λdQ A outer s H vs Q E hr h=> ?_)
 ·obtain⟨rfl,_⟩:=h
  rfl
 ·obtain⟨rfl,q⟩:=h;refine⟨_,(aR (bP (Tw Fl U))), ?_⟩;exact λx dx h1 h2 _=>q x _ (kL h1 h2) h1 ⟨dx,ay⟩
theorem Pk:b_ ["kind","days"] ["kind","days"] (bG DW):=⟨rfl,rfl,rfl,by decide+kernel,rfl,by decide+kernel,by decide+kernel⟩
theorem P6{f:aj}{fd:bC}(F:je K "after" "after" DW f fd)(T:Txt K mg bh a4 aO aN bF bE a3 aP aI aD aC ar aV bY bw bL bA bM bq a_ br bB aS bX)(Fn:KU P w K mg base c8 1 "After" aD ["self","kind","days"] (nW aD)):dJ P w K mg base c8 3 f fd ["kind","days"] (zX aI aD aC ar):=by
 refine F.ok Pk (λvs H Q E h=> ?_) (λdQ A outer s H vs Q E hr h=> ?_)
 ·obtain⟨k,d,rfl,_⟩:=h
  rfl
 ·obtain⟨k,d,rfl,q⟩:=h;refine⟨_,(aR (bP (Jw Fn (hr.mono (by omega)) U cq (ag (pv 0) (ag (pv 1) aA))))), ?_⟩;refine⟨_,U,_,U,λx dx h1 h2 _=>⟨x,dx,k,d,U,ay,U, ?_⟩⟩;rw[kB];exact q x _ (kL h1 h2) h1 ⟨dx,ay⟩
theorem Pj:b_ ["one","other"] ["one","other"] (bG DV):=⟨rfl,rfl,rfl,by decide+kernel,rfl,by decide+kernel,by decide+kernel⟩
theorem P5{f:aj}{fd:bC}(F:je K "later" "later" DV f fd)(T:Txt K mg bh a4 aO aN bF bE a3 aP aI aD aC ar aV bY bw bL bA bM bq a_ br bB aS bX)(Fm:KU P w K mg base c8 1 "Later" aC ["self","one","other"] (jM aC)):dJ P w K mg base c8 3 f fd ["one","other"] (zW aI aD aC ar):=by
 refine F.ok Pj (λvs H Q E h=> ?_) (λdQ A outer s H vs Q E hr h=> ?_)
 ·obtain⟨p,q,x,y,rfl,_⟩:=h
  rfl
 ·obtain⟨p,q,x,y,rfl,t1,t2,k⟩:=h;refine⟨_,(aR (bP (Jw Fm (hr.mono (by omega)) U cq (ag (pv 0) (ag (pv 1) aA))))), ?_⟩;refine⟨_,U,_,U,λa dx h1 h2 _=>⟨a,dx,p,q,U,ay,U, ?_⟩⟩;rw[kB];exact k a _ (kL h1 h2) h1 ⟨dx,p,q,ay,t1.same (kL h1 h2),t2.same (kL h1 h2)⟩
theorem Jn:b_ ["one","other"] ["one","other"] (bG xC):=⟨rfl,rfl,rfl,by decide+kernel,rfl,by decide+kernel,by decide+kernel⟩
theorem JJ{f:aj}{fd:bC}(F:je K "earlier" "earlier" xC f fd)(T:Txt K mg bh a4 aO aN bF bE a3 aP aI aD aC ar aV bY bw bL bA bM bq a_ br bB aS bX)(xZ:KU P w K mg base c8 1 "Earlier" ar ["self","one","other"] (jM ar)):dJ P w K mg base c8 3 f fd ["one","other"] (uO aI aD aC ar):=by
 refine F.ok Jn (λvs H Q E h=> ?_) (λdQ A outer s H vs Q E hr h=> ?_)
 ·obtain⟨p,q,x,y,rfl,_⟩:=h
  rfl
 ·obtain⟨p,q,x,y,rfl,t1,t2,k⟩:=h;refine⟨_,(aR (bP (Jw xZ (hr.mono (by omega)) U cq (ag (pv 0) (ag (pv 1) aA))))), ?_⟩;refine⟨_,U,_,U,λa dx h1 h2 _=>⟨a,dx,p,q,U,ay,U, ?_⟩⟩;rw[kB];exact k a _ (kL h1 h2) h1 ⟨dx,p,q,ay,t1.same (kL h1 h2),t2.same (kL h1 h2)⟩
theorem Qi(m:Str)(h:m="due"\/m="leaves"\/m="shown"):¬m="days"/\¬m="kind"/\¬m="other"/\¬m="one":=by
 rcases h with rfl|rfl|rfl<;>decide+kernel
theorem w1:¬V.str (Str.ofString "after")=V.str (Str.ofString "never"):=by decide+kernel
theorem w2:¬V.str (Str.ofString "later")=V.str (Str.ofString "never"):=by decide+kernel
theorem w3:¬V.str (Str.ofString "earlier")=V.str (Str.ofString "never"):=by decide+kernel
theorem w4:¬V.str (Str.ofString "later")=V.str (Str.ofString "after"):=by decide+kernel
theorem w5:¬V.str (Str.ofString "earlier")=V.str (Str.ofString "after"):=by decide+kernel
theorem w6:¬V.str (Str.ofString "earlier")=V.str (Str.ofString "later"):=by decide+kernel
theorem Um{α:Type}(us:List α)(y:α):(us++[y])[(us++[y]).length-1]? =some y:=by
 rw[bb];simp
theorem N3{α:Type}(us:List α)(y:α):(us++[y]).dropLast=us:=by simp
theorem eG.keep{cn ca cl ce:aj}{H H':Hp}(s:∀b C dx fs,H b=some (.ins C dx fs)->H' b=some (.ins C dx fs)):∀{t:Tr} {a:aj},eG cn ca cl ce H t a->eG cn ca cl ce H' t a
 | .never,a,⟨dx,h⟩=>⟨dx,s _ _ _ _ h⟩
 | .after k d,a,⟨dx,h⟩=>⟨dx,s _ _ _ _ h⟩
 | .later x y,a,⟨dx,p,q,h,h1,h2⟩=>⟨dx,p,q,s _ _ _ _ h,h1.keep s,h2.keep s⟩
 | .cO x y,a,⟨dx,p,q,h,h1,h2⟩=>⟨dx,p,q,s _ _ _ _ h,h1.keep s,h2.keep s⟩
theorem DS{H H1 H2:Hp}{R:aj}{o1 o2:HO}(s1:bU (upd H R o1) H1)(s2:bU (upd H1 R o2) H2):bU (upd H R o2) H2:=λb u e=>by
 by_cases h:b=R
 ·subst h;rw[ay] at e
  exact s2 _ _ (by rw[ay];exact e)
 ·rw[aY h] at e
  exact s2 _ _ (by rw[aY h];exact s1 _ _ (by rw[aY h];exact e))
theorem len_pos(xs:List V)(v:V):¬V.int (((xs++[v]).length:Nat):Int)=V.int 0:=λe=>by
 injection e with e
 rw[bb] at e
 have:[v].length=1:=rfl;omega
theorem XF:∀k<26,LL kq (97+k)=true:=by decide+kernel
theorem Qe{z:Str}(h:Nm z):isName z=true:=by
 obtain⟨h1,h2,h3⟩:=h;unfold isName;rw[bf h1,bf h2,Bool.and_self,gR,eP];intro c hc;have b:=h3 c hc;have:=XF (c-97) (by omega)
 rwa [Nat.add_sub_cancel' b.1] at this
theorem Bt:b_ ["rest"] ["rest"] (bG qa):=⟨rfl,rfl,rfl,by decide+kernel,rfl,by decide+kernel,by decide+kernel⟩
theorem BB{f:aj}{fd:bC}(F:je K "word_taken" "word_taken" qa f fd)(T:Txt K mg bh a4 aO aN bF bE a3 aP aI aD aC ar aV bY bw bL bA bM bq a_ br bB aS bX):dJ P w K mg base c8 1 f fd ["rest"] jm:=by
 refine F.ok Bt (λvs H Q E h=> ?_) (λdQ A outer s H vs Q E hr h=> ?_)
 ·obtain⟨R,xs,z,rfl,_⟩:=h
  rfl
 ·obtain⟨R,xs,z,rfl,hR,q⟩:=h;refine⟨_,(av (c9 (bQ gb (cg fz (by rfl) T.j6 gE (ag (pv 0) aA)) a9 (cf _)) (aR jr) b9) (aR (bP (Xa cH PySem.F.slot_list_pop PySem.F.type_list_pop Xt (pv 0))))), ?_⟩;refine⟨_,U,_,_,U,.inl ⟨_,cK.of hR,U⟩,U,_,U,jT (len_pos xs (.str z)) ?_⟩;refine⟨_,U,.inl ⟨U,_,cK.of hR⟩,R,_,V.str z,U,U,hR,Um _ _, ?_⟩;rw[N3];exact q
theorem ur:b_ ["rest","word"] ["rest"] (bG qg):=⟨rfl,rfl,rfl,by decide+kernel,rfl,by decide+kernel,by decide+kernel⟩
theorem BH{f:aj}{fd:bC}(F:je K "kind_taken" "kind_taken" qg f fd)(T:Txt K mg bh a4 aO aN bF bE a3 aP aI aD aC ar aV bY bw bL bA bM bq a_ br bB aS bX)(lX:fi P w K mg base c8 2 "is_name" ["text"] pX)(fZ:fi P w K mg base c8 1 "word_taken" ["rest"] jm):dJ P w K mg base c8 3 f fd ["rest"] nU:=by
 refine F.ok ur (λvs H Q E h=> ?_) (λdQ A outer s H vs Q E hr h=> ?_)
 ·obtain⟨R,xs,z,rfl,_⟩:=h
  rfl
 ·obtain⟨R,xs,z,rfl,hR,nz,q⟩:=h;refine⟨_,(av (bS (i:=1) ur.nd U (Or.inl U) (cG fZ (hr.mono (by omega)) U cq (ag (pv 0) aA))) (av (c9 (mH (iS (cG lX (hr.mono (by omega)) U cq (ag (pv 1) aA)))) (aR jr) b9) (aR (bP (pv 1))))), ?_⟩;have lz:=nz.2.1;refine⟨_,U,R,xs,z,U,hR,⟨_,U,z,U,by omega,λH1 s1=>⟨_,rfl, ?_⟩⟩⟩;rw[Qe nz];exact ic ⟨_,U,q H1 s1⟩
theorem qY:b_ ["rest","word"] ["rest"] (bG mF):=⟨rfl,rfl,rfl,by decide+kernel,rfl,by decide+kernel,by decide+kernel⟩
theorem yL{f:aj}{fd:bC}(F:je K "length_taken" "length_taken" mF f fd)(T:Txt K mg bh a4 aO aN bF bE a3 aP aI aD aC ar aV bY bw bL bA bM bq a_ br bB aS bX)(oE:fi P w K mg base c8 3 "length_read" ["text"] mi)(fZ:fi P w K mg base c8 1 "word_taken" ["rest"] jm):dJ P w K mg base c8 4 f fd ["rest"] k9:=by
 refine F.ok qY (λvs H Q E h=> ?_) (λdQ A outer s H vs Q E hr h=> ?_)
 ·obtain⟨R,xs,z,d,rfl,_⟩:=h
  rfl
 ·obtain⟨R,xs,z,d,rfl,hR,⟨n,c,u,rfl,hn,hu,hu2,rfl⟩,q⟩:=h;refine⟨_,(av (bS (i:=1) qY.nd U (Or.inl U) (cG fZ (hr.mono (by omega)) U cq (ag (pv 0) aA))) (aR (PD (aR (bP (cG oE (hr.mono (by omega)) U cq (ag (pv 1) aA))))))), ?_⟩;exact⟨_,U,R,xs,_,U,hR,⟨_,U,n,c,u,U,hn,hu,hu2,λH1 s1=>q H1 s1⟩⟩
theorem jq:b_ ["rest","word","kind","one"] ["rest"] (bG qb):=⟨rfl,rfl,rfl,by decide+kernel,rfl,by decide+kernel,by decide+kernel⟩
theorem BC{f:aj}{fd:bC}(F:je K "part_taken" "part_taken" qb f fd)(T:Txt K mg bh a4 aO aN bF bE a3 aP aI aD aC ar aV bY bw bL bA bM bq a_ br bB aS bX)(n:Nat)(Fj:fi P w K mg base c8 3 "after" ["kind","days"] (zX aI aD aC ar))(xY:fi P w K mg base c8 3 "earlier" ["one","other"] (uO aI aD aC ar))(qH:fi P w K mg base c8 3 "kind_taken" ["rest"] nU)(Fi:fi P w K mg base c8 3 "later" ["one","other"] (zW aI aD aC ar))(mP:fi P w K mg base c8 4 "length_taken" ["rest"] k9)(Fh:fi P w K mg base c8 1 "never" [] (zV aI aD aC ar))(gL:fi P w K mg base c8 (4+n+1) "part_taken" ["rest"] (jn aI aD aC ar n))(fZ:fi P w K mg base c8 1 "word_taken" ["rest"] jm):dJ P w K mg base c8 (4+n+1+1) f fd ["rest"] (jn aI aD aC ar (n+1)):=by
 refine F.ok jq (λvs H Q E h=> ?_) (λdQ A outer s H vs Q E hr h=> ?_)
 ·obtain⟨R,xs,t,ws,rfl,_⟩:=h
  rfl
 ·obtain⟨R,xs,t,ws,rfl,hR,hs,hd,q⟩:=h;refine⟨_,(av (bS (i:=1) jq.nd U (Or.inl U) (cG fZ (hr.mono (by omega)) U cq (ag (pv 0) aA))) (av (c9 (bQ gb (pv 1) cV (cf _)) (aR (bP (WZ Fh (hr.mono (by omega)) U cq))) b9) (av (c9 (bQ gb (pv 1) cV (cf _)) (av (bS (i:=2) jq.nd U (Or.inl U) (cG qH (hr.mono (by omega)) U cq (ag (pv 0) aA))) (aR (bP (cG Fj (hr.mono (by omega)) U cq (ag (pv 2) (ag (cG mP (hr.mono (by omega)) U cq (ag (pv 0) aA)) aA)))))) b9) (av (c9 (bQ gb (pv 1) cV (cf _)) (av (bS (i:=3) jq.nd U (Or.inl U) (cG gL (hr.mono (by omega)) U cq (ag (pv 0) aA))) (aR (bP (cG Fi (hr.mono (by omega)) U cq (ag (pv 3) (ag (cG gL (hr.mono (by omega)) U cq (ag (pv 0) aA)) aA)))))) b9) (av (c9 (bQ gb (pv 1) cV (cf _)) (av (bS (i:=3) jq.nd U (Or.inl U) (cG gL (hr.mono (by omega)) U cq (ag (pv 0) aA))) (aR (bP (cG xY (hr.mono (by omega)) U cq (ag (pv 3) (ag (cG gL (hr.mono (by omega)) U cq (ag (pv 0) aA)) aA)))))) b9) (aR jr)))))), ?_⟩
  cases t with
  |never=>
   have hw:ws=_:=hs;subst hw;exact⟨_,U,R,xs,Str.ofString "never",U,hR,(vEq U U (EM U ⟨U,λp H' s _ t=>q p H' s t⟩))⟩
  |after k d=>
   obtain⟨z,rfl,nk,lz⟩:=hs;have e:H R=some (.lst ((xs++[V.str z,.str k])++[.str (Str.ofString "after")])):=by rw[hR];simp
   refine⟨_,U,R,_,_,U,e,(vEq U U (jT w1 (vEq U U (EM U ?_))))⟩;refine⟨_,U,R,xs++[.str z],k,U,by rw[ay];simp,nk,λH2 s2=> ?_⟩
   rw[kB] at s2
   exact⟨_,U,_,U,R,xs,z,d,U,s2 _ _ ay,lz,λH3 s3=>⟨k,d,U,λp H4 s4 _ t=>q p H4 ((DS s2 s3).trans s4) t⟩⟩
  |later x y=>
   obtain⟨u,v,rfl,h1,h2⟩:=hs;have G0:max x.deep y.deep+1<n+1:=hd;have e:H R=some (.lst ((xs++v.reverse.map V.str++u.reverse.map V.str)++[.str (Str.ofString "later")])):=by rw[hR];simp
   refine⟨_,U,R,_,_,U,e,(vEq U U (jT w2 (vEq U U (jT w4 (vEq U U (EM U ?_))))))⟩;refine⟨_,U,R,xs++v.reverse.map V.str,x,u,U,ay,h1,by omega,λm1 H2 s2 t1=> ?_⟩;rw[kB] at s2
   refine⟨_,U,_,U,R,xs,y,v,U,s2 _ _ ay,h2,by omega,λm2 H3 s3 t2=> ?_⟩;have t3:=t1.keep λb C dx fs e=>s3 b (.ins C dx fs) (by rw[aY (wq e (s2 _ _ ay) (λz=>nomatch z))];exact e)
   exact⟨m1,m2,x,y,U,t3,t2,λp H4 s4 _ t4=>q p H4 ((DS s2 s3).trans s4) t4⟩
  |cO x y=>
   obtain⟨u,v,rfl,h1,h2⟩:=hs;have G0:max x.deep y.deep+1<n+1:=hd;have e:H R=some (.lst ((xs++v.reverse.map V.str++u.reverse.map V.str)++[.str (Str.ofString "earlier")])):=by rw[hR];simp
   refine⟨_,U,R,_,_,U,e,(vEq U U (jT w3 (vEq U U (jT w5 (vEq U U (jT w6 (vEq U U (EM U ?_))))))))⟩;refine⟨_,U,R,xs++v.reverse.map V.str,x,u,U,ay,h1,by omega,λm1 H2 s2 t1=> ?_⟩;rw[kB] at s2
   refine⟨_,U,_,U,R,xs,y,v,U,s2 _ _ ay,h2,by omega,λm2 H3 s3 t2=> ?_⟩;have t3:=t1.keep λb C dx fs e=>s3 b (.ins C dx fs) (by rw[aY (wq e (s2 _ _ ay) (λz=>nomatch z))];exact e)
   exact⟨m1,m2,x,y,U,t3,t2,λp H4 s4 _ t4=>q p H4 ((DS s2 s3).trans s4) t4⟩
theorem CJ:Str.ofString " "=⟨#[32]⟩:=by decide
theorem lM:b_ ["text","words","rest","term"] ["text"] (bG rT):=⟨rfl,rfl,rfl,by decide+kernel,rfl,by decide+kernel,by decide+kernel⟩
theorem Ec{f:aj}{fd:bC}(F:je K "term_read" "term_read" rT f fd)(T:Txt K mg bh a4 aO aN bF bE a3 aP aI aD aC ar aV bY bw bL bA bM bq a_ br bB aS bX)(gL:fi P w K mg base c8 23 "part_taken" ["rest"] (jn aI aD aC ar 18)):dJ P w K mg base c8 24 f fd ["text"] (pO aI aD aC ar):=by
 refine F.ok lM (λvs H Q E h=> ?_) (λdQ A outer s H vs Q E hr h=> ?_)
 ·obtain⟨t,x,ws,rfl,_⟩:=h
  rfl
 ·obtain⟨t,x,ws,rfl,hx,hs,hc,hl,q⟩:=h;have l5:=fo;obtain⟨l0,l1⟩:=mE hs;have dp:=t.iw;refine⟨_,(av (bS (i:=1) lM.nd U (Or.inl U) (i6 dE eO i8 mK (pv 0) (ag cV aA))) (av (c9 (bQ qZ (cg fz (by rfl) T.j6 gE (ag (pv 1) aA)) (fu (v:=.int 61) U T.G3 ⟨_,U⟩) (cf _)) (aR jr) b9) (av (bS (i:=2) lM.nd U (Or.inl U) (Jx U (by rfl) T.S7 (by rfl) T.K7 (pv 1))) (av (bS (i:=3) lM.nd U (Or.inl U) (cG gL (hr.mono (by omega)) U cq (ag (pv 2) aA))) (av (c9 (bQ qZ (cg fz (by rfl) T.j6 gE (ag (pv 2) aA)) a9 (cf _)) (aR jr) b9) (aR (bP (pv 3)))))))), ?_⟩
  refine⟨_,U,U,x,32,U,by rw[CJ],by omega,λp hp=> ?_⟩;rw[vQ x 32 ws (λz=>by rw[z] at l0;exact absurd l0 (dP 0)) (pq hs) hx]
  refine⟨_,U,_,_,U,.inl ⟨_,cK.of ay,U⟩,_,_,U,U,_,U,jT (by rw[ao];omega) ?_⟩
  refine⟨_,U,p,_,U,cK.of ay,λR hR2=> ?_⟩;refine⟨_,U,R,[],t,ws,U,by rw[ay,vE];rfl,hs,by omega,λm H1 s1 tm=> ?_⟩
  rw[kB] at s1
  refine⟨_,U,_,_,U,.inl ⟨_,cK.of (s1 _ _ ay),U⟩,_,_,U,U,_,U,jT (by show¬(0:Int)<0;omega) ⟨_,U, ?_⟩⟩
  exact q m H1 (((aU hp).trans (aU hR2)).trans s1) tm
theorem uW(d:Nat):uX d (-1)=shown d:=by
 unfold uX;rw[aX (by rintro⟨h,_⟩;exact absurd h (by decide)),aX (by decide)]
theorem IF:(Str.ofString " ").length=1:=by decide
theorem eQ.same{H H':Hp}(s:bU H H'):∀{as:List aj} {ws:List Tb},eQ H as ws->eQ H' as ws
 |_,_,.nil=> .nil
 |_,_,.cons ⟨c,e,r⟩ t=> .cons ⟨c,s _ _ e,r⟩ (eQ.same s t)
theorem eQ.but{H H':Hp}(s:∀(b:aj) (kvs:List (Key×V)),H b=some (.dK kvs)->H' b=some (.dK kvs)):∀{as:List aj} {ws:List Tb},eQ H as ws->eQ H' as ws
 |_,_,.nil=> .nil
 |_,_,.cons ⟨c,e,r⟩ t=> .cons ⟨c,s _ _ e,r⟩ (eQ.but s t)
theorem eQ.app{H:Hp}:∀{as bs:List aj} {ws us:List Tb},eQ H as ws->eQ H bs us->eQ H (as++bs) (ws++us)
 |_,_,_,_,.nil,k=>k
 |_,_,_,_,.cons r t,k=> .cons r (eQ.app t k)
theorem eQ.get{H:Hp}:∀{as:List aj} {ws:List Tb},eQ H as ws->∀(i:Nat) (x:V),(as.map V.ref)[i]? =some x->∃a w c,x=.ref a/\as[i]? =some a/\ws[i]? =some w/\H a=some (.dK (kk c))/\M4.Nd c/\M4.norm c=w
 |_,_,.nil,i,x,h=>by simp at h
 |_,_,.cons ⟨c,e,n,q⟩ t,0,x,h=>⟨_,_,c,(by simpa using h.symm),rfl,rfl,e,n,q⟩
 |_,_,.cons _ t,i+1,x,h=>eQ.get t i x (by simpa using h)
theorem eQ.len{H:Hp}{as:List aj}{ws:List Tb}(h:eQ H as ws):as.length=ws.length:=cA h
theorem Qc{H:Hp}{a:aj}{kvs:List (Key×V)}(h:H a=some (.dK kvs)):∀o u,H a≠some (.pM o u):=λo u e=>by rw[h] at e;cases e
theorem QE{c:Tb}(h:c.length<=1000):(kk c).length<=sizeLine:=by
 have l5:=fo;rw[eT];omega
theorem Qq{c:Tb}{kv:Key×V}(h:kv∈kk c):∃p∈c,kv=(Sum.inr p.1,V.int p.2):=
 (a5.mp h).elim λp z=>⟨p,z.1,z.2.symm⟩
def pC:Key->Str
 | .inr x=>x
 | .inl _=>Str.empty
def intOf:V->Int
 | .int i=>i
 |_=>0
theorem XJ{β:Type}(c:Tb)(f:Str->Int->β):((kk c).map λkv=>f (pC kv.1) (intOf kv.2))=c.map λp=>f p.1 p.2:=by
 unfold kk;rw[cM]
 rfl
theorem RR{c:Tb}{i:Nat}{kv:Key×V}(h:(kk c)[i]? =some kv):∃p,c[i]? =some p/\kv=(Sum.inr p.1,V.int p.2):=by
 unfold kk at h
 rw[cj] at h
 cases q:c[i]? with
 |none=>rw[q] at h;cases h
 |some p=>rw[q] at h;cases h;exact⟨p,U,U⟩
theorem Gb:b_ ["one","other"] ["one","other"] (bG uV):=⟨rfl,rfl,rfl,by decide+kernel,rfl,by decide+kernel,by decide+kernel⟩
theorem Gv{f:aj}{fd:bC}(F:je K "is_below" "is_below" uV f fd)(T:Txt K mg bh a4 aO aN bF bE a3 aP aI aD aC ar aV bY bw bL bA bM bq a_ br bB aS bX):dJ P w K mg base c8 1 f fd ["one","other"] nE:=by
 refine F.ok Gb (λvs H Q E h=> ?_) (λdQ A outer s H vs Q E hr h=> ?_)
 ·obtain⟨a,b,c,l,rfl,_⟩:=h
  rfl
 ·obtain⟨a,b,c,l,rfl,ha,hb,hl,q⟩:=h;have hu:=AI hr;refine⟨_,(aR (bP (cg (AV U) (by rfl) T.Z0E RJ (ag (Tv a (kF ["kind","length"] [("other",1)] U (Ag (v_ (pv 0))) (by rfl) (by exact⟨U,trivial⟩) (by rfl) (by exact⟨⟨U,U,U⟩,trivial⟩) (λ_ _ _ _=>(Tt (K:=K) 2 U U (fw (cR (i:=0) (show(t_ ["kind","length"] [("other",1)]).Nodup by decide+kernel) U (Or.inl U) (Or.inr U)) (fw (cR (i:=1) (show(t_ ["kind","length"] [("other",1)]).Nodup by decide+kernel) U (Or.inl U) (Or.inr U)) lO)) U U)) (λ_ _ _ _=>lN) (λ_ _ _ _=>(Jy (W_ (PZ hu (pv 0) (pv 2))) (D_ (qm Zak (pv 1) (zc hu (pv 2) (pv 0) (λ_ _=>rfl)) (cf _))))))) aA)))), ?_⟩
  refine Ku (f:=λkv=>V.bl (match lk l (pC kv.1) with|some u=>decide (intOf kv.2<=u)|none=>false)) U ha (QE hl) (Qc ha) (λv u=>⟨U,trivial⟩) (λkv hm H3 Q3 fs k3=> ?_) λD3 H3 s3 _ d3=> ?_
  ·obtain⟨p,hp,rfl⟩:=Qq hm;have hg:=Ae (fs.rd2 ha hb) p.1;have k4:=k3 H3 (bU.refl _);rw[show pC (Sum.inr p.1)=p.1 from rfl] at k4
   refine⟨_,U,_,U,b,_,U,hg,_,U, ?_⟩;rw[Ay];cases ev:lk l p.1 with
   |none=>
    rw[ev] at k4
    exact ic k4
   |some u=>
    rw[ev] at k4 hg
    exact jH ⟨_,U,_,U,_,U,b,_,U,hg,_,_,U,U,k4⟩
  ·rw[XJ c (λk i=>V.bl (match lk l k with|some u=>decide (i<=u)|none=>false))] at d3
   refine⟨D3,c.map (λp=>match lk l p.1 with|some u=>decide (p.2<=u)|none=>false),U,cK.of (by rw[d3,cM];rfl), ?_⟩
   have e:(c.map λp=>match lk l p.1 with|some u=>decide (p.2<=u)|none=>false).all id=below c l:=by
    unfold below;rw[List.all_map]
    rfl
   rw[e];exact q H3 s3
theorem F3{H H':Hp}{a:aj}{xs:List V}(s:bU H H')(h:jU K H a xs):jU K H' a xs:=by
 rcases h with h|h
 ·rcases h with h|⟨o,h⟩
  ·exact .inl (.inl (s _ _ h))
  ·exact .inl (.inr ⟨o,s _ _ h⟩)
 ·exact .inr h
theorem Pa{H H':Hp}{a:aj}{xs:List V}(s:bU H H')(h:cK K H a xs):cK K H' a xs:=by
 rcases h with h|h
 ·rcases h with h|⟨o,h⟩
  ·exact .inl (.inl (s _ _ h))
  ·exact .inl (.inr ⟨o,s _ _ h⟩)
 ·exact .inr h
theorem Uh{H H':Hp}{x:Lf}{v:V}(s:bU H H')(r:Rep K H (wH x) v):Rep K H' (wH x) v:=by
 cases r with
 |tup h r=>
  refine .tup (F3 s h) ?_;cases r with
  |cons a r=>
   cases r with
   |cons b r=>
    cases r;cases a;cases b;exact .cons (.flat U) (.cons (.flat U) .nil)
theorem GK{H H':Hp}{l:List Lf}{v:V}(s:bU H H')(r:Rep K H (yO l) v):Rep K H' (yO l) v:=by
 cases r with
 |lst h r=>
  refine .lst (Pa s h) ?_;clear h;generalize e:l.map wH=ds at r
  induction r generalizing l with
  |nil=>exact .nil
  |cons a t ih=>
   cases l with
   |nil=>cases e
   |cons y l=>
    rw[aT] at e
    injection e with e1 e2
    subst e1;exact .cons (Uh s a) (ih e2)
theorem ED{H H':Hp}{k:Ky}{v:V}(s:bU H H')(r:Rep K H (yQ k) v):Rep K H' (yQ k) v:=by
 cases r with
 |tup h r=>
  refine .tup (F3 s h) ?_;cases r with
  |cons a r=>
   cases r with
   |cons b r=>
    cases r;cases a;exact .cons (.flat U) (.cons (GK s b) .nil)
theorem F_:b_ ["clause"] ["clause"] (bG uS):=⟨rfl,rfl,rfl,by decide+kernel,rfl,by decide+kernel,by decide+kernel⟩
theorem Gr{f:aj}{fd:bC}(F:je K "place_of" "place_of" uS f fd)(T:Txt K mg bh a4 aO aN bF bE a3 aP aI aD aC ar aV bY bw bL bA bM bq a_ br bB aS bX):dJ P w K mg base c8 1 f fd ["clause"] (jD K):=by
 refine F.ok F_ (λvs H Q E h=> ?_) (λdQ A outer s H vs Q E hr h=> ?_)
 ·obtain⟨a,c,rfl,_⟩:=h
  rfl
 ·obtain⟨a,c,rfl,ha,hl,q⟩:=h;have l5:=fo;refine⟨_,(aR (bP (ja (ag (cg tW (by rfl) T.j6 gE (ag (pv 0) aA)) (ag (cg (BV (K:=K) U U) (by rfl) T.u6 pJ (ag (v_ (pv 0)) aA)) aA))))), ?_⟩;refine⟨_,U,a,_,U,ha,_,U,a,_,U,ha,λv hv=>⟨v,a,c,U,ay,by rw[aY (bI ha hv)];exact ha,hl,λzs pz az p H1 hp s1 rp=>⟨show 2<=sizeLine from sl,λt ht=> ?_⟩⟩⟩
  have e:zs=M4.norm c:=M4.DD mL pz az;subst e;have s2:bU H1 (upd H1 t (.tup [.int ((kk c).length:Int),.ref p])):=aU ht;refine q t _ (((aU hv).trans s1).trans s2) ?_;rw[eT];exact .tup (jU.of ay) (.cons (.flat U) (.cons (GK (aU ht) rp) .nil))
theorem NJ(c:Tb):∀l:Tb,(M4.gJ c l).length<=c.length+l.length:=by
 have go:∀(l d:Tb),(l.foldl (λx p=>t9 x p.1 (max p.2 ((lk c p.1).getD p.2))) d).length<=d.length+l.length:=by
  intro l
  induction l with
  |nil=>exact λd=>aE _
  |cons p r ih=>
   intro d;have h1:=ih (t9 d p.1 (max p.2 ((lk c p.1).getD p.2)));have h2:=Jt d p.1 (max p.2 ((lk c p.1).getD p.2));rw[aZ,jk];omega
 exact λl=>go l c
theorem NH{c l:Tb}{i:Nat}{p:Str×Int}(h:l[i]? =some p):M4.gJ c (l.take (i+1))=t9 (M4.gJ c (l.take i)) p.1 (max p.2 ((lk c p.1).getD p.2)):=by
 unfold M4.gJ;rw[dG,h,List.foldl_append]
 rfl
theorem tF:b_ ["one","other","clause","kind","length"] ["one","other"] (bG Ab):=⟨rfl,rfl,rfl,by decide+kernel,rfl,by decide+kernel,by decide+kernel⟩
theorem Na{f:aj}{fd:bC}(F:je K "joined" "joined" Ab f fd)(T:Txt K mg bh a4 aO aN bF bE a3 aP aI aD aC ar aV bY bw bL bA bM bq a_ br bB aS bX):dJ P w K mg base c8 1 f fd ["one","other"] xq:=by
 refine F.ok tF (λvs H Q E h=> ?_) (λdQ A outer s H vs Q E hr h=> ?_)
 ·obtain⟨a,b,c,l,rfl,_⟩:=h
  rfl
 ·obtain⟨a,b,c,l,rfl,ha,hb,hc,hl,q⟩:=h;have l5:=fo;have hu:=AI hr;refine⟨_,(av (bS (i:=2) tF.nd U (Or.inl U) (g_ qC (by rfl) T.U8 zx (ag (pv 0) aA))) (av (Lj b (lj eD U (Ag (v_ (pv 1))) (ql U (fw (cR (i:=3) tF.nd U (Or.inl U)) (fw (cR (i:=4) tF.nd U (Or.inl U)) lO))) (aR (D8 hu (pv 2) (pv 3) (cg (Dc U) (by rfl) T.Z0j KC (ag (pv 4) (ag (PX hu (pv 0) (pv 3) (pv 4) ⟨U,U,U,U⟩) aA))) U)))) (aR (bP (pv 2))))), ?_⟩
  refine⟨_,U,a,_,U,ha,λp hp=> ?_⟩;have npb:b≠p:=bI hb hp;have NQ:upd H p (.dK (kk c)) b=some (.dK (kk l)):=by rw[aY npb];exact hb
  refine⟨_,U,b,_,U,NQ,λv hv=>⟨v,b,_,U,ay,by rw[aY (bI NQ hv)];exact NQ,λo=> ?_⟩⟩
  have nvb:b≠v:=bI NQ hv;have npv:p≠v:=bI ay hv;refine AL (J:=Iti b o (kk l)) (n:=l.length) (λi σ H'=>∃v3 v4,σ=[some (.ref a),some (.ref b),some (.ref p),v3,v4]/\H' p=some (.dK (kk (M4.gJ c (l.take i))))/\(∀b' u,b'≠b->H b'=some u->H' b'=some u)/\H' b=some (.pM o (.dK (kk l)))) ?_ ?_ ?_ ?_
  ·exact⟨none,none,U,by rw[aY (cY npb),aY npv];exact ay,λb' u n e=>by rw[aY n];exact aU hv _ _ (aU hp _ _ e),ay⟩
  ·rintro i σ H1 hi ⟨v3,v4,rfl,d1,f1,g1⟩;exact⟨g1,by rw[eT];exact hi⟩
  ·rintro σ H1 ⟨v3,v4,rfl,d1,f1,g1⟩;rw[dg (aE _)] at d1
   refine⟨⟨g1,by rw[eT];exact aE _⟩,upd H1 b (.dK (kk l)),⟨Qc hb,o,_,g1,U⟩, ?_⟩
   refine⟨_,U,q p _ hp (λb' u e=> ?_) (by rw[aY (cY npb)];exact d1)⟩
   by_cases z:b'=b
   ·subst z;rw[hb] at e
    cases e;exact ay
   ·rw[aY z];exact f1 b' u z e
  ·rintro i x σ H1 H2 hi ⟨v3,v4,rfl,d1,f1,g1⟩ ⟨kv,pp,e3,X1,rfl,rfl⟩;obtain⟨pr,e5,rfl⟩:=RR e3;have npp:p≠pp:=bI d1 X1;refine⟨pp,_,U,jU.of ay,U,_,_,U,_,_,U,U, ?_⟩;have sp:bU H1 (upd H1 pp (.tup [kV (Sum.inr pr.1),V.int pr.2])):=aU X1;have rdA:Rd (upd H1 pp (.tup [kV (Sum.inr pr.1),V.int pr.2])) a (.dK (kk c)):=by
    by_cases z:a=b
    ·subst z;rcases ha with h|⟨o',h⟩
     ·rw[hb] at h
      injection h with h
      injection h with h
      exact .inr ⟨o,by rw[<-h];exact sp _ _ g1⟩
     ·rw[hb] at h;cases h
    ·rcases ha with h|⟨o',h⟩
     ·exact .inl (sp _ _ (f1 _ _ z h))
     ·exact .inr ⟨o',sp _ _ (f1 _ _ z h)⟩
   have ej:((lk c pr.1).map V.int).getD (V.int pr.2)=V.int ((lk c pr.1).getD pr.2):=by cases lk c pr.1<;>rfl
   have len:(kk (M4.gJ c (l.take i))).length<sizeLine:=by
    have:=NJ c (l.take i);have:=Bl i l;rw[eT];omega
   refine⟨_,U,_,U,a,U,.inl ⟨_,rdA⟩,_,U,_,U,_,Ae rdA pr.1,pr.2,(lk c pr.1).getD pr.2,by rw[ej],_,rfl,_,rfl,p,_,rfl,Oo.k (k:=Sum.inr pr.1) (sp _ _ d1) len, ?_⟩;refine⟨_,_,U, ?_,λb' u n e=> ?_,by rw[aY npb];exact sp _ _ g1⟩
   ·rw[QF,ay,NH e5]
    congr 4
    split<;>omega
   ·have nb:b'≠p:=bI e hp;rw[aY nb];exact sp _ _ (f1 b' u n e)
theorem eQ.Vo{H:Hp}{as:List aj}{ws:List Tb}{i:Nat}{w c:Tb}{n:Nat}(hw:∀w∈ws,w.length<=n)(e:ws[i]? =some w)(q:M4.norm c=w):c.length<=n:=by
 rw[<-M4.fW c,q];exact hw w (cI e)
theorem nX:b_ ["ones","others","clauses","one"] ["ones","others"] (bG qi):=⟨rfl,rfl,rfl,by decide+kernel,rfl,by decide+kernel,by decide+kernel⟩
theorem BJ{f:aj}{fd:bC}(F:je K "all_joined" "all_joined" qi f fd)(T:Txt K mg bh a4 aO aN bF bE a3 aP aI aD aC ar aV bY bw bL bA bM bq a_ br bB aS bX)(AW:fi P w K mg base c8 1 "joined" ["one","other"] xq):dJ P w K mg base c8 2 f fd ["ones","others"] nV:=by
 refine F.ok nX (λvs H Q E h=> ?_) (λdQ A outer s H vs Q E hr h=> ?_)
 ·obtain⟨p,q,as,bs,ws,us,rfl,_⟩:=h
  rfl
 ·obtain⟨p,q,as,bs,ws,us,rfl,hp,hq,ca,cb,ln,lb,wa,wb,k⟩:=h;have l5:=fo;refine⟨_,(av (bS (i:=2) nX.nd U (Or.inl U) (fC aA)) (av (lj eD U (gk (pv 0)) (cR (i:=3) nX.nd U (Or.inr U)) (aR (gY (i6 cH PySem.F.slot_list_extend PySem.F.type_list_extend Nn (pv 2) (ag (kF ["other"] [("one",3)] U (gk (pv 1)) (by rfl) (by exact⟨U,trivial⟩) (by rfl) (by exact⟨⟨U,U,U⟩,trivial⟩) (λ_ _ _ _=>(cR (i:=0) (show(t_ ["other"] [("one",3)]).Nodup by decide+kernel) U (Or.inl U))) (λ_ _ _ _=>lN) (λ_ _ _ _=>(cG AW (hr.mono (by omega)) U cq (ag (pv 1) (ag (pv 0) aA))))) aA))))) (aR (bP (pv 2))))), ?_⟩
  refine⟨bz _,λS hS=>⟨_,U,p,U,⟨_,cK.of (aU hS _ _ hp)⟩,sA (xs:=as.map V.ref) (λi σ H'=>∃(ds:List aj) (v3:Option V),σ=[some (.ref p),some (.ref q),some (.ref S),v3]/\H' S=some (.lst (ds.map V.ref))/\eQ H' ds ((ws.take i).flatMap λx=>us.map λy=>M4.norm (M4.gJ x y))/\(∀d∈ds,H d=none)/\bU H H'/\ds.length=i*bs.length) ?_ ?_ ?_ ?_⟩⟩
  ·exact⟨[],none,U,ay,by rw[zE];exact .nil,(λd hd=>nomatch hd),aU hS,by simp⟩
  ·rintro i σ H1 _ ⟨ds,v3,rfl,d1,c1,n1,s1,l1⟩;exact cK.of (s1 _ _ hp)
  ·rintro i x σ H1 hx ⟨ds,v3,rfl,d1,c1,n1,s1,l1⟩;obtain⟨a,w,c,rfl,e1,e2,e3,e4,e5⟩:=eQ.get (ca.same s1) i x hx;have hi:i<as.length:=(bT.mp e1).1;have hc:=eQ.Vo (H:=H1) (as:=as) wa e2 e5;refine⟨_,U,.inl ⟨U,_,cK.of d1⟩,_,U,q,U,⟨_,cK.of (s1 _ _ hq)⟩,Im λD hD=>⟨bs.length,λj ys H2=>∃es:List aj,ys=es.map V.ref/\eQ H2 es ((us.take j).map λy=>M4.norm (M4.gJ w y))/\(∀d∈es,H1 d=none)/\bU H1 H2/\es.length=j, ?_⟩⟩
   have hSD:S≠D:=bI d1 hD;refine⟨by omega,⟨[],rfl,by rw[zE];exact .nil,(λd hd=>nomatch hd),aU hD,rfl⟩,λj ys H2 z=> ?_,λj ys zs H2 H3 e kp z=> ?_,λj ys H2 z lt=> ?_,λys H2 z e=> ?_,λj y ys H2 H3 z e lt yl RT RF rt rf=> ?_⟩
   ·obtain⟨es,rfl,_,_,_,le⟩:=z;rw[ao,le];exact aE _
   ·obtain⟨es,rfl,c2,n2,s2,le⟩:=z;refine⟨es,U,eQ.but (λb u h1=>kp b _ (λw=>by rw[w,e] at h1;cases h1) h1) c2,n2,λb u h1=>kp b u (bI h1 hD) (s2 b u h1),le⟩
   ·obtain⟨es,rfl,c2,n2,s2,le⟩:=z;exact⟨_,_,cK.of (s2 _ _ (s1 _ _ hq)),aK (by rw[ao];exact lt)⟩
   ·obtain⟨es,rfl,c2,n2,s2,le⟩:=z;refine⟨⟨_,cK.of (s2 _ _ (s1 _ _ hq)),by rw[ao];exact aE _⟩, ?_⟩
    rw[cb.len,dg (aE _)] at c2
    have d2:=s2 _ _ d1;have nDS:D≠S:=λz=>hSD z.symm;refine⟨S,D,_,_,U,U,d2,e, ?_,ds++es,_,U, ?_, ?_,λd hd=> ?_,λb u h1=> ?_, ?_⟩
    ·rw[ao,ao,l1,le];have:i*bs.length<=as.length*bs.length:=zD _ (i9 hi);omega
    ·rw[ay,bN]
    ·have e6:(ws.take (i+1)).flatMap (λx=>us.map λy=>M4.norm (M4.gJ x y))=(ws.take i).flatMap (λx=>us.map λy=>M4.norm (M4.gJ x y))++us.map λy=>M4.norm (M4.gJ w y):=by
      rw[dG,e2,List.flatMap_append];simp
     rw[e6];exact eQ.but (λb u h1=>by rw[aY (λw=>by rw[w,d2] at h1;cases h1)];exact h1) (eQ.app (c1.same s2) c2)
    ·rcases a8.mp hd with z|z
     ·exact n1 d z
     ·cases q2:H d with
      |none=>rfl
      |some u=>have:=s1 d u q2;rw[n2 d z] at this;cases this
    ·rw[aY (bI h1 hS)];exact s2 b u (s1 b u h1)
    ·rw[bb,l1,le,Nat.succ_mul]
   ·obtain⟨es,rfl,c2,n2,s2,le⟩:=z;obtain⟨rfl,yl⟩:=yl;have hy:=yl _ (cK.of (s2 _ _ (s1 _ _ hq)));obtain⟨a',w',c',rfl,f1,f2,f3,f4,f5⟩:=eQ.get (cb.same (s1.trans s2)) j y hy;have hc':=eQ.Vo (H:=H1) (as:=as) wb f2 f5;refine⟨⟨U,trivial⟩, ?_⟩;unfold qX;refine jH ⟨_,U,_,U,a,a',c,c',U,.inl (s2 _ _ e3),f3,by omega,by omega,λpd H6 hpd s6 d6=>rt _ H6 (s6 _ _ e) ⟨es++[pd],by rw[bN];rfl, ?_,λd hd=> ?_,s2.trans s6,by rw[bb,le];rfl⟩⟩
    ·rw[dG,f2,bN];exact eQ.app (c2.same s6) (.cons ⟨_,d6,M4.lQ e4,by rw[<-e5,<-f5];exact M4.NI e4 f4 (M4.zg e4) (M4.zg f4) (M4.CD c).symm (M4.CD c').symm⟩ .nil)
    ·rcases a8.mp hd with z|z
     ·exact n2 d z
     ·have e7:d=pd:=by simpa using z
      subst e7;cases q2:H1 d with
      |none=>rfl
      |some u=>have:=s2 d u q2;rw[hpd] at this;cases this
  ·rintro σ H1 ⟨ds,v3,rfl,d1,c1,n1,s1,l1⟩;rw[ao,ca.len,dg (aE _)] at c1
   exact⟨_,U,k S ds H1 hS s1 d1 c1 n1⟩
theorem EF(c:Tb):((c.length:Int),M4.norm c)=M4.ua (M4.norm c):=by
 unfold M4.ua;rw[M4.fW]
theorem Gg{H:Hp}:∀{kk ll:List Ky} {xs ys:List V},Paired (λy x=>Rep K H (yQ y) x) kk xs->Paired (λy x=>Rep K H (yQ y) x) ll ys->Paired (λy x=>Rep K H (yQ y) x) (kk++ll) (xs++ys)
 |_,_,_,_,.nil,k=>k
 |_,_,_,_,.cons r t,k=> .cons r (Gg t k)
theorem Cv{H H':Hp}(s:bU H H'):∀{kk:List Ky} {xs:List V},Paired (λy x=>Rep K H (yQ y) x) kk xs->Paired (λy x=>Rep K H' (yQ y) x) kk xs
 |_,_,.nil=> .nil
 |_,_,.cons r t=> .cons (ED s r) (Cv s t)
theorem places{R:List V->Hp->Prop}:∀{as:List aj} {ws:List Tb} {H:Hp} {kk:List Ky} {ks:List V},eQ H as ws->(∀w∈ws,w.length<64)->Paired (λy x=>Rep K H (yQ y) x) kk ks->
  (∀kx H2,bU H H2->Paired (λy x=>Rep K H2 (yQ y) x) (kk++ws.map M4.ua) kx->R kx H2)->YX (jD K) (as.map V.ref) ks H R
 |_,_,H,kk,ks,.nil,_,rp,q=>q ks H (bU.refl H) (by rw[i_,cE];exact rp)
 |_,_,H,kk,ks,.cons (a:=a) (b:=w) ⟨c,e,n,e2⟩ t,hl,rp,q=>by
  have lc:c.length<64:=by rw[<-M4.fW c,e2];exact hl w (aB ..)
  refine⟨a,c,U,e,lc,λpt H' s' r'=> ?_⟩;rw[EF c,e2] at r'
  refine places (eQ.same s' t) (λw' hw=>hl w' (aF _ hw)) (Gg (Cv s' rp) (.cons r' .nil)) λkx H2 s2 r2=>q kx H2 (s'.trans s2) ?_;rw[dj] at r2
  exact r2
theorem picked{H:Hp}{as:List aj}:∀zs:List (V×Ky),(∀z∈zs,∃a w,z=(V.ref a,M4.ua w)/\a∈as/\∃c,H a=some (.dK (kk c))/\M4.Nd c/\M4.norm c=w)->∃bs:List aj,zs.map (·.1)=bs.map V.ref/\eQ H bs (zs.map (·.2.2))/\∀b∈bs,b∈as
 |[],_=>⟨[],rfl,.nil,λb hb=>nomatch hb⟩
 |z::zs,h=>by
  obtain⟨a,w,rfl,m,c,e⟩:=h z (aB ..);obtain⟨bs,e1,e2,e3⟩:=picked zs λy hy=>h y (aF _ hy);refine⟨a::bs,by rw[aT,aT,e1],.cons ⟨c,e⟩ e2,λb hb=> ?_⟩;obtain rfl|hb:=aJ.mp hb
  ·exact m
  ·exact e3 b hb
theorem QR{H:Hp}:∀{as:List aj} {ws:List Tb},eQ H as ws->∀z∈(as.map V.ref).zip (ws.map M4.ua),∃a w,z=(V.ref a,M4.ua w)/\a∈as/\∃c,H a=some (.dK (kk c))/\M4.Nd c/\M4.norm c=w
 |_,_,.nil,z,hz=>by simp at hz
 |_,_,.cons (a:=a) (b:=w) r t,z,hz=>by
  rw[aT,aT,eF] at hz
  obtain rfl|hz:=aJ.mp hz
  ·exact⟨a,w,U,aB ..,r⟩
  ·obtain⟨a',w',e,m,r'⟩:=QR t z hz;exact⟨a',w',e,aF _ m,r'⟩
theorem by_place{H:Hp}{as:List aj}{ws:List Tb}(h:eQ H as ws){zs:List (V×Ky)}(pz:zs.Perm ((as.map V.ref).zip (ws.map M4.ua)))(az:zs.Pairwise λa b=>uY b.2 a.2=false):
  ∃bs:List aj,zs.map (·.1)=bs.map V.ref/\eQ H bs (M4.fV M4.gh ws)/\∀b∈bs,b∈as:=by
 have each:=λz (hz:z∈zs)=>QR h z (pz.mem_iff.mp hz);obtain⟨bs,e1,e2,e3⟩:=picked zs each;refine⟨bs,e1, ?_,e3⟩;have e:zs.map (·.2.2)=M4.fV M4.gh ws:=by
  refine M4.DD M4.kP ?_ ?_
  ·have:=pz.map (·.2.2);have e4:((as.map V.ref).zip (ws.map M4.ua)).map (·.2.2)=ws:=by
    have e5:((as.map V.ref).zip (ws.map M4.ua)).map (·.2.2)=(((as.map V.ref).zip (ws.map M4.ua)).map (·.2)).map (·.2):=by rw[cM];rfl
    rw[e5,List.map_snd_zip (by rw[ao,ao,h.len];exact aE _),cM]
    exact List.map_id' ws
   rw[e4] at this
   exact this
  ·unfold M4.Mi;rw[List.pairwise_map];refine az.imp_of_mem λ{x y} hx hy z=> ?_;obtain⟨a,w,rfl,_⟩:=each x hx;obtain⟨a',w',rfl,_⟩:=each y hy;exact z
 rw[e] at e2
 exact e2
theorem QI(cs kept:List Tb):(cs.foldl M4.keep kept).length<=kept.length+cs.length:=by
 obtain⟨r,e,s⟩:=M4.md cs kept;rw[e,bb];have:=s.length_le;omega
theorem RW{β:Type}(l:List β)(f:β->Bool):(l.map f).any id=l.any f:=by rw[List.any_map];rfl
theorem uR:b_ ["clauses","kept","clause"] ["clauses"] (bG xv):=⟨rfl,rfl,rfl,by decide+kernel,rfl,by decide+kernel,by decide+kernel⟩
theorem JD{f:aj}{fd:bC}(F:je K "thinned" "thinned" xv f fd)(T:Txt K mg bh a4 aO aN bF bE a3 aP aI aD aC ar aV bY bw bL bA bM bq a_ br bB aS bX)(kn:fi P w K mg base c8 1 "is_below" ["one","other"] nE)(kl:fi P w K mg base c8 1 "place_of" ["clause"] (jD K)):dJ P w K mg base c8 4 f fd ["clauses"] uK:=by
 refine F.ok uR (λvs H Q E h=> ?_) (λdQ A outer s H vs Q E hr h=> ?_)
 ·obtain⟨p,as,ws,rfl,_⟩:=h
  rfl
 ·obtain⟨p,as,ws,rfl,hp,ca,lw,sw,k⟩:=h;have l5:=fo;refine⟨_,(av (bS (i:=1) uR.nd U (Or.inl U) (fC aA)) (av (lj eD U (gk (Jv kl (hr.mono (by omega)) (by rfl) T.u6 (by rfl) (ag (pv 0) aA))) (cR (i:=2) uR.nd U (Or.inr U)) (av (c9 (mH (iS (cg (Kz U) (by rfl) T.Z0G Yu (ag (kF ["low"] [("clause",2)] U (gk (pv 1)) (by rfl) (by exact⟨U,trivial⟩) (by rfl) (by exact⟨⟨U,U,U⟩,trivial⟩) (λ_ _ _ _=>(cR (i:=0) (show(t_ ["low"] [("clause",2)]).Nodup by decide+kernel) U (Or.inl U))) (λ_ _ _ _=>lN) (λ_ _ _ _=>(cG kn (hr.mono (by omega)) U cq (ag (pv 0) (ag (pv 1) aA))))) aA)))) (aR (gY (i6 cH cT cS gG (pv 1) (ag (pv 2) aA)))) b9) (aR (c9 (bQ qZ (cg fz (by rfl) T.j6 gE (ag (pv 1) aA)) (fu (v:=.int 40) U T.m8 ⟨_,U⟩) (cf _)) (aR jr) b9)))) (aR (bP (pv 1))))), ?_⟩
  refine⟨bz _,λS hS=> ?_⟩;have s0:bU H (upd H S (.lst [])):=aU hS;refine⟨_,U,p,as.map V.ref,U,cK.of (s0 _ _ hp),by rw[ao,ca.len];omega,places (ca.same s0) sw .nil λkx H2 s2 rp=>⟨ws.map M4.ua,rp,λzs pz az D hD=> ?_⟩⟩
  obtain⟨bs,e1,cb,mb⟩:=by_place (ca.same (s0.trans s2)) pz az;have s3:=(s0.trans s2).trans (aU (o:=.lst (zs.map (·.1))) hD);have dS:upd H2 D (.lst (zs.map (·.1))) S=some (.lst []):=aU hD _ _ (s2 _ _ ay);have dD:upd H2 D (.lst (zs.map (·.1))) D=some (.lst (bs.map V.ref)):=by rw[ay,e1]
  have cb:=cb.same (aU (o:=.lst (zs.map (·.1))) hD);have lb:bs.length=ws.length:=by rw[cb.len,tu]
  have nSD:S≠D:=bI (s2 _ _ ay) hD;generalize upd H2 D (.lst (zs.map (·.1)))=H3 at s3 dS dD cb
  refine⟨D,U,⟨_,cK.of dD⟩,sA (xs:=bs.map V.ref) (λi σ H'=>∃(ds:List aj) (v2:Option V),σ=[some (.ref p),some (.ref S),v2]/\H' S=some (.lst (ds.map V.ref))/\eQ H' ds (((M4.fV M4.gh ws).take i).foldl M4.keep [])/\(∀d∈ds,d∈as)/\∀b u,b≠S->H3 b=some u->H' b=some u) ?_ ?_ ?_ ?_⟩
  ·exact⟨[],none,U,dS,by rw[zE];exact .nil,(λd hd=>nomatch hd),λb u _ e=>e⟩
  ·rintro i σ H1 _ ⟨ds,v2,rfl,d1,c1,n1,k1⟩;exact cK.of (k1 _ _ (cY nSD) dD)
  ·rintro i x σ H1 hx ⟨ds,v2,rfl,d1,c1,n1,k1⟩;have cb1:eQ H1 bs (M4.fV M4.gh ws):=eQ.but (λb u h1=>k1 b _ (λz=>by rw[z,dS] at h1;cases h1) h1) cb
   obtain⟨a,w,c,rfl,e1,e2,e3,e4,e5⟩:=eQ.get cb1 i x hx;have hi:i<(M4.fV M4.gh ws).length:=(bT.mp e2).1;rw[tu] at hi
   have enx:((M4.fV M4.gh ws).take (i+1)).foldl M4.keep []=M4.keep (((M4.fV M4.gh ws).take i).foldl M4.keep []) w:=by
    rw[dG,e2,List.foldl_append]
    rfl
   have lk:(((M4.fV M4.gh ws).take i).foldl M4.keep []).length<=i:=by
    have h1:=QI ((M4.fV M4.gh ws).take i) [];have h2:=Bl i (M4.fV M4.gh ws);rw[kW] at h1
    omega
   have wl:∀u∈((M4.fV M4.gh ws).take i).foldl M4.keep [],u.length<64:=λu hu=>by
    obtain⟨r,e,s⟩:=M4.md ((M4.fV M4.gh ws).take i) [];rw[e,jj] at hu
    exact sw u (iz.mp (List.mem_of_mem_take (s.subset hu)))
   rw[enx];generalize ((M4.fV M4.gh ws).take i).foldl M4.keep []=kf at c1 lk wl
   refine⟨_,U,S,U,⟨_,cK.of d1⟩,wU ds.length (λj=>[((kf[j]?).map λlow=>V.bl (below low w)).getD .fR]) (by rw[c1.len];omega) (λj=>aE 1) (λj H4 s4 lt=>⟨_,_,cK.of (s4 _ _ d1),aK (by rw[ao];exact lt)⟩) (λH4 s4=>⟨_,cK.of (s4 _ _ d1),by rw[ao];exact aE _⟩) (λj y H4 H5 s4 lt yl RT RF rt rf=> ?_) λD4 H4 hD4 s4 d4=> ?_⟩
   ·obtain⟨rfl,yl⟩:=yl;have hy:=yl _ (cK.of (s4 _ _ d1));obtain⟨a',w',c',rfl,f1,f2,f3,f4,f5⟩:=eQ.get (c1.same s4) j y hy;have lc':c'.length<=1000:=by
     have:=wl w' (cI f2);rw[<-f5,M4.fW] at this
     omega
    refine⟨⟨U,trivial⟩, ?_⟩;unfold qX;refine jH ⟨_,U,_,U,a',a,c',c,U,f3,.inl (s4 _ _ e3),lc',λH6 s6=>rt _ H6 ?_ s6⟩;rw[f2,<-e5,<-f5];show[V.bl (below (M4.norm c') (M4.norm c))]=_;rw[M4.AZ e4]
   ·have e6:(List.range ds.length).flatMap (λj=>[((kf[j]?).map λlow=>V.bl (below low w)).getD .fR])=(kf.map λlow=>below low w).map V.bl:=by
     rw[kN,c1.len,Cy kf (λlow=>V.bl (below low w)) .fR,cM]
     rfl
    rw[e6] at d4
    refine⟨D4,_,U,cK.of d4,_,U, ?_⟩;rw[RW];have dS4:=s4 _ _ d1;cases ea:kf.any λlow=>below low w with
    |true=>
     have ek:M4.keep kf w=kf:=bg ea;rw[ek];refine ic ?_;refine⟨_,U,_,_,U,.inl ⟨_,cK.of dS4,U⟩,_,_,U,U,_,U,gW (λe=> ?_) (λe=>⟨ds,_,U,dS4,c1.same s4,n1,λb u n z=>s4 _ _ (k1 b u n z)⟩)⟩;have e:=ba e;rw[ao,c1.len] at e
     exact absurd e (by omega)
    |false=>
     have ek:M4.keep kf w=kf++[w]:=aX (by rw[ea];exact bj)
     rw[ek];refine jH ?_;have l6:(ds.map V.ref).length<sizeLine:=by rw[ao,c1.len];omega
     have dS5:upd H4 S (.lst (ds.map V.ref++[V.ref a])) S=some (.lst ((ds++[a]).map V.ref)):=by rw[ay,bN];rfl
     refine⟨_,U,.inl ⟨U,_,cK.of dS4⟩,_,U,S,_,_,U,U,dS4,l6, ?_⟩;have c5:eQ (upd H4 S (.lst (ds.map V.ref++[V.ref a]))) (ds++[a]) (kf++[w]):=eQ.but (λb u h1=>by rw[aY (λz=>by rw[z,dS4] at h1;cases h1)];exact h1) (eQ.app (c1.same s4) (.cons ⟨c,s4 _ _ e3,e4,e5⟩ .nil))
     refine⟨_,U,_,_,U,.inl ⟨_,cK.of dS5,U⟩,_,_,U,U,_,U,gW (λe=> ?_) (λe=>⟨ds++[a],_,U,dS5,c5,λd hd=> ?_,λb u n z=>by rw[aY n];exact s4 _ _ (k1 b u n z)⟩)⟩
     ·have e:=ba e;rw[ao,bb,c1.len] at e
      exact absurd e (by simp only [aZ,kW];omega)
     ·rcases a8.mp hd with z|z
      ·exact n1 d z
      ·have e7:d=a:=by simpa using z
       subst e7;exact mb d (cI e1)
  ·rintro σ H1 ⟨ds,v2,rfl,d1,c1,n1,k1⟩;rw[ao,cb.len,dg (aE _)] at c1
   exact⟨_,U,k S ds H1 hS (λb u e=>k1 b u (bI e hS) (s3 b u e)) d1 c1 n1⟩
theorem none_of{H H':Hp}{r:aj}(s:bU H H')(h:H' r=none):H r=none:=by
 cases z:H r with
 |none=>rfl
 |some u=>rw[s r u z] at h;cases h
theorem Ph:b_ ["term"] ["term"] (bG DU):=⟨rfl,rfl,rfl,by decide+kernel,rfl,by decide+kernel,by decide+kernel⟩
theorem P4{f:aj}{fd:bC}(F:je K "least" "least" DU f fd)(T:Txt K mg bh a4 aO aN bF bE a3 aP aI aD aC ar aV bY bw bL bA bM bq a_ br bB aS bX)(n:Nat)(qI:fi P w K mg base c8 2 "all_joined" ["ones","others"] nV)(gZ:fi P w K mg base c8 (4+n+1) "least" ["term"] (mj aI aD aC ar n))(tX:fi P w K mg base c8 4 "thinned" ["clauses"] uK):dJ P w K mg base c8 (4+n+1+1) f fd ["term"] (mj aI aD aC ar (n+1)):=by
 refine F.ok Ph (λvs H Q E h=> ?_) (λdQ A outer s H vs Q E hr h=> ?_)
 ·obtain⟨a,t,rfl,_⟩:=h
  rfl
 ·obtain⟨a,t,rfl,ht,hd,hc,q⟩:=h;have l5:=fo;refine⟨_,(av (c9 (iS (cg gK (by rfl) T.b7 eg (ag (pv 0) (ag (fu (v:=.ref aD) U T.Qo U) aA)))) (aR (bP (fC (ag (TB (PJ (kh (pv 0) U) (kh (pv 0) U) Tp) U U (by simp) (by decide)) aA)))) b9) (av (c9 (iS (cg gK (by rfl) T.b7 eg (ag (pv 0) (ag (fu (v:=.ref ar) U T.JR U) aA)))) (aR (bP (cG tX (hr.mono (by omega)) U cq (ag (bV tL (cG gZ (hr.mono (by omega)) U cq (ag (kh (pv 0) U) aA)) (cG gZ (hr.mono (by omega)) U cq (ag (kh (pv 0) U) aA))) aA)))) b9) (av (c9 (iS (cg gK (by rfl) T.b7 eg (ag (pv 0) (ag (fu (v:=.ref aC) U T.Qn U) aA)))) (aR (bP (cG tX (hr.mono (by omega)) U cq (ag (cG qI (hr.mono (by omega)) U cq (ag (cG gZ (hr.mono (by omega)) U cq (ag (kh (pv 0) U) aA)) (ag (cG gZ (hr.mono (by omega)) U cq (ag (kh (pv 0) U) aA)) aA))) aA)))) b9) (aR (bP (fC aA)))))), ?_⟩
  cases t with
  |never=>
   obtain⟨dx,h0⟩:=ht;refine⟨_,U,_,_,_,_,_,U,U,T.zN.of h0,T.BM,_,U,ic ?_⟩;refine⟨_,U,_,_,_,_,_,U,U,T.zN.of h0,T.yR,_,U,ic ?_⟩;refine⟨_,U,_,_,_,_,_,U,U,T.zN.of h0,T.BL,_,U,ic ?_⟩;exact⟨bz _,λr hr=>q r [] _ hr (aU hr) ay .nil λd hd=>nomatch hd⟩
  |after k d=>
   obtain⟨dx,h0⟩:=ht;refine⟨_,U,_,_,_,_,_,U,U,T.OQ.of h0,T.BP,_,U,jH λp hp=> ?_⟩;have h1:=aU (o:=.dK []) hp _ _ h0;have e0:upd H p (.dK []) p=some (.dK []):=ay;refine⟨_,U,a,_,dx,_,_,U,h1,T.kO,T.lP,E1 k d,_,U,a,_,dx,_,_,U,h1,T.kO,T.qq,LW k d,e0,[(Sum.inr k,.int d)],U,(show 1<=15 by decide),show 1<=sizeLine from sl,λr hr=> ?_⟩;have d2:upd (upd (upd H p (.dK [])) p (.dK (sk [] [(Sum.inr k,V.int d)]))) r (.lst [V.ref p]) p=some (.dK (kk [(k,d)])):=by rw[aY (bI ay hr)];exact ay
   have s2:bU H (upd (upd (upd H p (.dK [])) p (.dK (sk [] [(Sum.inr k,V.int d)]))) r (.lst [V.ref p])):=λb u e=>by
    have n1:=bI e hp;have e1:upd (upd H p (.dK [])) p (.dK (sk [] [(Sum.inr k,V.int d)])) b=some u:=by rw[aY n1,aY n1];exact e
    rw[aY (bI e1 hr)];exact e1
   have hr0:H r=none:=by
    cases z:H r with
    |none=>rfl
    |some u=>
     have n1:=bI z hp;rw[aY n1,aY n1,z] at hr
     cases hr
   exact q r [p] _ hr0 s2 ay (.cons ⟨[(k,d)],d2,cD.mpr ⟨(λz=>nomatch z),l7⟩,U⟩ .nil) λd' Ye=>by
    have e7:d'=p:=by simpa using Ye
    subst e7;exact hp
  |later x y=>
   obtain⟨dx,p1,p2,h0,t1,t2⟩:=ht;refine⟨_,U,_,_,_,_,_,U,U,T.zO.of h0,T.BO,_,U,ic ?_⟩;refine⟨_,U,_,_,_,_,_,U,U,T.zO.of h0,T.yS,_,U,ic ?_⟩;refine⟨_,U,_,_,_,_,_,U,U,T.zO.of h0,T.BN,_,U,jH ?_⟩;have G0:max x.deep y.deep+1<n+1:=hd;obtain⟨o1,o2,pr,z1,z2,z3,z4⟩:=F4 hc;refine⟨_,U,a,_,dx,_,_,U,h0,T.mO,T.sj,EZ p1 p2,p1,x,U,t1,by omega,o1,λr1 Ib H1 hr1 s1 d1 c1 n1=> ?_⟩;refine⟨_,U,a,_,dx,_,_,U,s1 _ _ h0,T.mO,T.oq,wN p1 p2,p2,y,U,t2.same s1,by omega,o2,λr2 Kt H2 hr2 s2 d2 c2 n2=> ?_⟩
   refine⟨r1,r2,Ib,Kt,bW x,bW y,U,s2 _ _ d1,d2,c1.same s2,c2,by rw[c1.len,c2.len];omega,by rw[c2.len];omega,λw hw=> ?_,λw hw=> ?_,λr3 Sn H3 hr3 s3 d3 c3 n3=> ?_⟩
   ·have:=z3 w hw;omega
   ·have:=z4 w hw;omega
   refine⟨r3,Sn,_,U,d3,c3,by rw[GW];omega,λw hw=> ?_,λr ds H4 hr s4 d4 c4 n4=> ?_⟩
   ·obtain⟨u,hu,v,hv,rfl⟩:=pE hw;have k1:=z3 u hu;have k2:=z4 v hv;have k3:=CQ (dM x u hu).1.nd (dM y v hv).1.nd;rw[M4.fW];omega
   ·have ML:=(s1.trans s2).trans s3;exact q r ds H4 (none_of ML hr) (ML.trans s4) d4 c4 λd hd=>none_of (s1.trans s2) (n3 d (n4 d hd))
  |cO x y=>
   obtain⟨dx,p1,p2,h0,t1,t2⟩:=ht;refine⟨_,U,_,_,_,_,_,U,U,T.zP.of h0,T.yT,_,U,ic ?_⟩;refine⟨_,U,_,_,_,_,_,U,U,T.zP.of h0,T.wK,_,U,jH ?_⟩;have G0:max x.deep y.deep+1<n+1:=hd;obtain⟨o1,o2,pr,z3,z4⟩:=Br hc;refine⟨_,U,a,_,dx,_,_,U,h0,T.jz,T.oy,EZ p1 p2,p1,x,U,t1,by omega,o1,λr1 Ib H1 hr1 s1 d1 c1 n1=> ?_⟩;refine⟨_,U,a,_,dx,_,_,U,s1 _ _ h0,T.jz,T.ly,wN p1 p2,p2,y,U,t2.same s1,by omega,o2,λr2 Kt H2 hr2 s2 d2 c2 n2=> ?_⟩
   have l1:=c1.len;have l2:=c2.len;refine⟨r1,r2,Ib.map V.ref,Kt.map V.ref,U,U,cK.of (s2 _ _ d1),cK.of d2,by rw[ao,ao];omega,λr3 hr3=> ?_⟩
   have s3:=aU (o:=.lst (Ib.map V.ref++Kt.map V.ref)) hr3;refine⟨r3,Ib++Kt,bW x++bW y,U,by rw[ay,bN],(eQ.app (c1.same s2) c2).same s3,by rw[bb];omega,λw hw=> ?_,λr ds H4 hr s4 d4 c4 n4=> ?_⟩
   ·rcases a8.mp hw with z|z
    ·have:=z3 w z;omega
    ·have:=z4 w z;omega
   ·have ML:=(s1.trans s2).trans s3;refine q r ds H4 (none_of ML hr) (ML.trans s4) d4 c4 λd hd=> ?_;rcases a8.mp (n4 d hd) with z|z
    ·exact n1 d z
    ·exact none_of s1 (n2 d z)
theorem GY{c A B:Prop} [Decidable c](hc:¬c)(h:A):if(!decide c)=true then A else B:=by
 rw[bJ hc];exact jH h
theorem qJ:∀{ns:List Str} {rs:List Sr},dO ns rs->∀r∈rs,r.good
 |_,[],_,r,h=>nomatch h
 |_,x::rs,⟨g,_,_,k⟩,r,h=>by
  obtain rfl|h:=aJ.mp h
  ·exact g
  ·exact qJ k r h
theorem VP:∀{rs:List Sr} {ns:List Str} {i:Nat} {r:Sr},dO ns rs->rs[i]? =some r->r.good/\r.nm∉ns++(rs.take i).map Sr.nm/\∀e,r.el=some e->e∈ns++(rs.take i).map Sr.nm
 |[],ns,i,r,_,h=>by simp at h
 |x::rs,ns,0,r,⟨g,n,e,_⟩,h=>by
  have h:x=r:=by simpa using h
  subst h;rw[zE,i_,cE];exact⟨g,n,e⟩
 |x::rs,ns,i+1,r,⟨_,_,_,k⟩,h=>by
  have more:=VP k (i:=i) (r:=r) (by simpa using h);rw[dj] at more
  rw[List.take_succ_cons,aT];exact more
theorem sR.keep{cn ca cl ce:aj}{H H':Hp}(s1:∀b xs,H b=some (.tup xs)->H' b=some (.tup xs))(s2:∀b C dx fs,H b=some (.ins C dx fs)->H' b=some (.ins C dx fs)){d:aj}{r:Sr}:sR cn ca cl ce H d r->sR cn ca cl ce H' d r
 |⟨v,h,t⟩=>by
  refine⟨v,s1 _ _ h, ?_⟩
  revert t
  cases r.tm with
  |none=>exact λt=>t
  |some x=>exact λ⟨a,e,t⟩=>⟨a,e,t.keep s2⟩
theorem xu{cn ca cl ce:aj}{H H':Hp}(s1:∀b xs,H b=some (.tup xs)->H' b=some (.tup xs))(s2:∀b C dx fs,H b=some (.ins C dx fs)->H' b=some (.ins C dx fs)):∀{ds:List aj} {rs:List Sr},Paired (sR cn ca cl ce H) ds rs->Paired (sR cn ca cl ce H') ds rs
 |_,_,.nil=> .nil
 |_,_,.cons h t=> .cons (h.keep s1 s2) (xu s1 s2 t)
theorem jE{cn ca cl ce:aj}{H H':Hp}(s:bU H H'):∀{ds:List aj} {rs:List Sr},Paired (sR cn ca cl ce H) ds rs->Paired (sR cn ca cl ce H') ds rs:=xu (λb xs h=>s b _ h) λb C dx fs h=>s b _ h
theorem V_(c:Nat):∀ps:List (List Nat),(J c ps).length<=(ps.map List.length).sum+ps.length
 |[]=>bz _
 |[p]=>by simp[J]
 |p::q::r=>by
  have:=V_ c (q::r);show(p++c::J c (q::r)).length<=_;rw[bb,aZ,aT,uG,aZ];omega
theorem VZ{c d:Nat}:∀{ps:List (List Nat)},d∈J c ps->d=c\/∃p∈ps,d∈p
 |[],h=>nomatch h
 |[p],h=> .inr ⟨p,vD _,h⟩
 |p::q::r,h=>by
  have h:d∈p++c::J c (q::r):=h;rcases a8.mp h with z|z
  ·exact .inr ⟨p,aB ..,z⟩
  ·rcases aJ.mp z with z|z
   ·exact .inl z
   ·exact(VZ z).imp_right λ⟨x,hx,hd⟩=>⟨x,aF _ hx,hd⟩
theorem ON:∀c<48,rH ⟨#[c]⟩=.fR:=by decide+kernel
theorem Uj{z:Str}{d:Int}(h:IB z d):∀c∈cs z,48<=c:=by
 obtain⟨n,k,u,rfl,_,hu,_⟩:=h;rw[dH,oB];intro c m;rcases a8.mp m with m|m
 ·exact(qp n c m).1
 ·have e:c=k:=by simpa using m
  refine fX λlt=> ?_;rw[<-e,ON c lt] at hu
  cases hu
theorem rS:∀{t:Tr} {ws:List Str},B4 t ws->∀p∈ws,∀c∈cs p,48<=c
 | .never,ws,h,p,m=>by
  rw[show ws=_ from h] at m
  rw[show p=Str.ofString "never" by simpa using m]
  decide+kernel
 | .after k d,ws,⟨z,e,hk,hz⟩,p,m=>by
  rw[e] at m
  have m:p=Str.ofString "after"\/p=k\/p=z:=by simpa using m
  rcases m with rfl|rfl|rfl
  ·decide+kernel
  ·exact λc hc=>by have:=hk.2.2 c hc;omega
  ·exact Uj hz
 | .later x y,ws,⟨u,v,e,h1,h2⟩,p,m=>by
  rw[e] at m
  rcases aJ.mp m with rfl|m
  ·decide+kernel
  ·exact(a8.mp m).elim (rS h1 p) (rS h2 p)
 | .cO x y,ws,⟨u,v,e,h1,h2⟩,p,m=>by
  rw[e] at m
  rcases aJ.mp m with rfl|m
  ·decide+kernel
  ·exact(a8.mp m).elim (rS h1 p) (rS h2 p)
theorem KY{r:Sr}(g:r.good):∀p∈r.yF,∀c∈cs p,48<=c:=λp hp=>by
 unfold Sr.yF at hp
 rcases aJ.mp hp with rfl|hp
 ·decide+kernel
 rcases aJ.mp hp with rfl|hp
 ·exact λc hc=>by have:=g.nm.2.2 c hc;omega
 rcases a8.mp hp with YZ|inT
 ·cases he:r.el with
  |none=>rw[he] at YZ;cases YZ
  |some e=>
   rw[he] at YZ
   have YZ:p=Str.ofString "under"\/p=e:=by simpa [elW] using YZ
   rcases YZ with rfl|rfl
   ·decide+kernel
   ·exact λc hc=>by have:=(g.el p he).2.2 c hc;omega
 ·cases ht:r.tm with
  |none=>rw[ht] at inT;cases inT
  |some t=>
   rw[ht] at inT
   exact rS (nF t (-1) (g.tm t ht).1) p inT
theorem UO{a x:Str}{us vs:List Str}(hu:us≠[])(hv:vs≠[])(h1:cs a=J 32 (us.map cs))(h2:cs x=J 32 (vs.map cs)):cs (a++Str.ofString " "++x)=J 32 ((us++vs).map cs):=by
 rw[dH,dH,blank,h1,h2,bN,IC (by simpa using hu) (by simpa using hv)];simp
theorem L9(r:Sr):cs (yz r)=J 32 ((Str.ofString "series"::r.nm::elW r.el).map cs):=by
 have e1:cs (Str.ofString "series ")=cs (Str.ofString "series")++[32]:=by decide+kernel
 have e2:cs (Str.ofString " under ")=32::cs (Str.ofString "under")++[32]:=by decide+kernel
 unfold yz;cases r.el with
 |none=>
  show cs (Str.ofString "series "++r.nm)=cs (Str.ofString "series")++32::cs r.nm;rw[dH,e1];simp
 |some e=>
  show cs (Str.ofString "series "++r.nm++Str.ofString " under "++e)=cs (Str.ofString "series")++32::(cs r.nm++32::(cs (Str.ofString "under")++32::cs e));rw[dH,dH,dH,e1,e2];simp
theorem E5(r:Sr):cs r.txt=J 32 (r.yF.map cs):=by
 unfold Sr.txt Sr.yF;cases r.tm with
 |none=>
  show cs (yz r)=J 32 ((Str.ofString "series"::r.nm::(elW r.el++[])).map cs);rw[cE];exact L9 r
 |some t=>exact UO (us:=Str.ofString "series"::r.nm::elW r.el) (by simp) (t.zL _) (L9 r) (yA t _)
theorem OV{r:Sr}(g:r.good):10∉cs r.txt:=λh=>by
 rw[E5] at h
 rcases VZ h with z|⟨p,hp,z⟩
 ·cases z
 ·obtain⟨w,hw,rfl⟩:=a5.mp hp;have:=KY g w hw 10 z;omega
theorem Ck{r:Sr}(g:r.good):∀p∈r.yF,32∉cs p:=λp hp z=>by
 have:=KY g p hp 32 z;omega
theorem QZ{r:Sr}(g:r.good):(yz r).length<=40:=by
 have l1:=g.nm.2.1;unfold yz;cases he:r.el with
 |none=>
  show(Str.ofString "series "++r.nm).length<=40;rw[a7,show(Str.ofString "series ").length=7 by decide+kernel];omega
 |some e=>
  have l2:=(g.el e he).2.1;show(Str.ofString "series "++r.nm++Str.ofString " under "++e).length<=40;rw[a7,a7,a7,show(Str.ofString "series ").length=7 by decide+kernel,show(Str.ofString " under ").length=7 by decide+kernel];omega
theorem vK{r:Sr}(g:r.good):r.txt.length<=821:=by
 have l1:=QZ g;unfold Sr.txt;cases ht:r.tm with
 |none=>exact bD l1 (by decide)
 |some t=>
  obtain⟨gt,ct⟩:=g.tm t ht;have:=me t (-1) gt;show(yz r++Str.ofString " "++t.tC (-1)).length<=821;rw[a7,a7,show(Str.ofString " ").length=1 by decide+kernel];omega
theorem Vx:Str.ofString "\n"=⟨#[10]⟩:=by decide
theorem E7(rs:List Sr):cs (uB rs)=J 10 ((rs.map Sr.txt).map cs):=by
 have e:Txt.join (Str.ofString "\n") (rs.map Sr.txt)=Str.join (Str.ofString "\n") (rs.map Sr.txt):=Ds _ _;unfold uB;rw[e,Vx,qB]
theorem DB{α:Type}(f:α->Nat)(k:Nat):∀l:List α,(∀x∈l,f x<=k)->(l.map f).sum<=l.length*k
 |[],_=>bz _
 |x::l,h=>by
  have hx:=h x (aB ..);have h2:=DB f k l λy hy=>h y (aF _ hy);rw[aT,uG,aZ,Nat.succ_mul];omega
theorem RL{rs:List Sr}(g:∀r∈rs,r.good)(h:rs.length<=63):(uB rs).length<=52000:=by
 rw[kj,E7];have h1:=V_ 10 ((rs.map Sr.txt).map cs);have e:(((rs.map Sr.txt).map cs).map List.length)=rs.map λr=>r.txt.length:=by
  simp only [cM];exact jW λr _=>(kj _).symm
 have h2:=DB (λr:Sr=>r.txt.length) 821 rs λr hr=>vK (g r hr);rw[e,ao,ao] at h1
 have h3:rs.length*821<=63*821:=zD _ h;omega
theorem Uq(t:Tr):Txt.join (Str.ofString " ") (t.wC (-1))=t.tC (-1):=by
 have e:Txt.join (Str.ofString " ") (t.wC (-1))=Str.join (Str.ofString " ") (t.wC (-1)):=Ds _ _;refine ext ?_;rw[e,CJ,qB,yA]
theorem Wm(t:Tr)(g:t.good):((t.wC (-1)).map (·.length)).sum<=(t.tC (-1)).length:=by
 have go:∀ps:List (List Nat),(ps.map List.length).sum<=(J 32 ps).length:=by
  intro ps
  induction ps with
  |nil=>exact bz _
  |cons p r ih=>
   cases r with
   |nil=>simp[J]
   |cons q r=>
    show _<=(p++32::J 32 (q::r)).length;rw[aT,uG,bb,aZ];omega
 have h:=go ((t.wC (-1)).map cs);rw[<-yA,cM] at h
 rw[kj (t.tC (-1))];exact bD (FK (by congr 1)) h
theorem rO:b_ ["words","number","term"] ["words","number"] (bG nY):=⟨rfl,rfl,rfl,by decide+kernel,rfl,by decide+kernel,by decide+kernel⟩
theorem Ai{f:aj}{fd:bC}(F:je K "series_term" "series_term" nY f fd)(T:Txt K mg bh a4 aO aN bF bE a3 aP aI aD aC ar aV bY bw bL bA bM bq a_ br bB aS bX)(gZ:fi P w K mg base c8 23 "least" ["term"] (mj aI aD aC ar 18))(sF:fi P w K mg base c8 24 "term_read" ["text"] (pO aI aD aC ar)):dJ P w K mg base c8 25 f fd ["words","number"] (mf aI aD aC ar):=by
 refine F.ok rO (λvs H Q E h=> ?_) (λdQ A outer s H vs Q E hr h=> ?_)
 ·obtain⟨p,t,n,rfl,_⟩:=h
  rfl
 ·obtain⟨p,t,n,rfl,hp,gt,ct,q⟩:=h;have l5:=fo;have lt:=me t (-1) gt;have ls:=mE (nF t (-1) gt);have lw:=Wm t gt;have dp:=t.iw;refine⟨_,(av (PD (av (bS (i:=2) rO.nd U (Or.inl U) (cG sF (hr.mono (by omega)) U cq (ag (i6 dE nB nA tP cV (ag (pv 0) aA)) aA))) (aR (gY (cG gZ (hr.mono (by omega)) U cq (ag (pv 2) aA)))))) (aR (bP (pv 2)))), ?_⟩;refine⟨U,_,U,_,p,t.wC (-1),U,U,cK.of hp, ?_, ?_⟩
  ·rw[IF];omega
  rw[Uq];refine⟨t,_,t.wC (-1),U,yA t _,nF t _ gt,by omega,by omega,λa H1 s1 tm=> ?_⟩;refine⟨_,U,a,t,U,tm,by omega,by show t.cnt<=10;omega,λr ds H2 _ s2 _ _ _=> ?_⟩
  exact⟨_,U,q a H2 (s1.trans s2) (tm.same s2)⟩
theorem AG{K:au}{i:Nat}{j:Int}{σ:L2.St}{H:Hp}{Q:VK}{a:aj}{xs:List V}{v:V}(e:σ[i]? =some (some (.ref a)))(h:cK K H a xs)(m:A2 xs j=some v)(k:Q v H):OY (WT K) (yH i) (tC (.int j)) σ H Q:=⟨_,e,a,_,_,_,rfl,rfl,h,m,k⟩
theorem BY{α:Type}{xs:List α}{n:Nat}{v:α}(h:xs[n]? =some v):A2 xs ((n:Nat):Int)=some v:=by
 have lt:=(bT.mp h).1;unfold A2 XT;rw[bg (by omega),bg (by omega),jB];exact h
theorem Lv{z:Str}:∀ns:List Str,l9 (FG ns) (Sum.inr z)=if z∈ns then some (V.bl true) else none
 |[]=>rfl
 |n::ns=>by
  unfold FG;rw[aT]
  by_cases h:n=z
  ·subst h;rw[bg (aB ..)];exact o_ U
  ·have e:l9 ((Sum.inr n,V.bl true)::FG ns) (Sum.inr z)=l9 (FG ns) (Sum.inr z):=by
    unfold l9;rw[cp,bJ (λw=>h (by injection w))]
   refine e.trans ((Lv ns).trans ?_)
   by_cases h2:z∈ns
   ·rw[bg h2,bg (aF _ h2)]
   ·rw[aX h2,aX (λw=>(aJ.mp w).elim (λy=>h y.symm) h2)]
theorem Qg{H:Hp}{a:aj}{ns:List Str}(h:H a=some (.dK (FG ns)))(z:Str):yg H a (.str z) (if z∈ns then some (V.bl true) else none):=.inl ⟨_,Sum.inr z,.inl h,rfl,(Lv ns).symm⟩
theorem Qf{H:Hp}{a:aj}{ns:List Str}{z:Str}(h:H a=some (.dK (FG ns)))(n:z∉ns):yg H a (.str z) none:=by
 have:=Qg h z
 rwa [aX n] at this
theorem TQ{H:Hp}{a:aj}{ns:List Str}{z:Str}(h:H a=some (.dK (FG ns)))(n:z∈ns):yg H a (.str z) (some (.bl true)):=by
 have:=Qg h z
 rwa [bg n] at this
theorem FV{t:Tr}{c:Int}:(t.wC c)[0]?≠some (Str.ofString "under"):=by
 cases t<;>(intro h;injection h with h;exact absurd h (by decide+kernel))
theorem Ih(xs:List V)(k:Nat):BU xs (some (k:Int)) none=xs.drop k:=by
 unfold BU;rw[HT.Pn,HT.DX,dg (by rw[nO];omega)]
 by_cases h:k<=xs.length
 ·rw[Nat.min_eq_left h]
 ·have lt:xs.length<=k:=Nat.le_of_not_le h;rw[Nat.min_eq_right lt,List.drop_length,dW lt]
theorem rP:b_ ["row","number","ahead","words"] ["row","number","ahead"] (bG nZ):=⟨rfl,rfl,rfl,by decide+kernel,rfl,by decide+kernel,by decide+kernel⟩
theorem Aj{f:aj}{fd:bC}(F:je K "series_read" "series_read" nZ f fd)(T:Txt K mg bh a4 aO aN bF bE a3 aP aI aD aC ar aV bY bw bL bA bM bq a_ br bB aS bX)(lX:fi P w K mg base c8 2 "is_name" ["text"] pX)(kH:fi P w K mg base c8 25 "series_term" ["words","number"] (mf aI aD aC ar)):dJ P w K mg base c8 26 f fd ["row","number","ahead"] (mh aI aD aC ar):=by
 refine F.ok rP (λvs H Q E h=> ?_) (λdQ A outer s H vs Q E hr h=> ?_)
 ·obtain⟨r,n,a,ns,rfl,_⟩:=h
  rfl
 ·obtain⟨r,n,a,ns,rfl,ha,g,nn,nne,q⟩:=h;have l5:=fo;have hu:=AI hr;have ll:=vK g;refine⟨_,(av (bS (i:=3) rP.nd U (Or.inl U) (i6 dE eO i8 mK (pv 0) (ag cV aA))) (av (c9 (PW.pt (pw_or (bQ CB (cg fz (by rfl) T.j6 gE (ag (pv 3) aA)) a9 (cf _)) (pw_or1 (bQ wg (dI dY (pv 3) a9 (λ_ _=>rfl)) cV (cf _))))) (aR jr) b9) (av (c9 (PW.pt (pw_or (mH (iS (cG lX (hr.mono (by omega)) U cq (ag (dI dY (pv 3) a9 (λ_ _=>rfl)) aA)))) (pw_or1 (Ju (PZ hu (dI dY (pv 3) a9 (λ_ _=>rfl)) (pv 2)))))) (aR jr) b9) (av (c9 (bQ wg (dI dY (pv 3) a9 (λ_ _=>rfl)) cV (cf _)) (aR (bP (ja (ag (dI dY (pv 3) a9 (λ_ _=>rfl)) (ag gN (ag (cG kH (hr.mono (by omega)) U cq (ag (mI DH (pv 3) (nJ a9) tH) (ag (pv 1) aA))) aA)))))) b9) (av (c9 (PW.pt (pw_or (bQ CB (cg fz (by rfl) T.j6 gE (ag (pv 3) aA)) a9 (cf _)) (pw_or1 (Ju (CA hu (dI dY (pv 3) a9 (λ_ _=>rfl)) (pv 2)))))) (aR jr) b9) (av (c9 (bQ gb (cg fz (by rfl) T.j6 gE (ag (pv 3) aA)) a9 (cf _)) (aR (bP (ja (ag (dI dY (pv 3) a9 (λ_ _=>rfl)) (ag (dI dY (pv 3) a9 (λ_ _=>rfl)) (ag gN aA)))))) b9) (aR (bP (ja (ag (dI dY (pv 3) a9 (λ_ _=>rfl)) (ag (dI dY (pv 3) a9 (λ_ _=>rfl)) (ag (cG kH (hr.mono (by omega)) U cq (ag (mI DH (pv 3) (nJ a9) tH) (ag (pv 1) aA))) aA)))))))))))), ?_⟩
  refine⟨_,U,U,r.txt,32,U,by rw[CJ],by omega,λp hp=> ?_⟩;rw[vQ r.txt 32 r.yF (by unfold Sr.yF;simp) (Ck g) (E5 r)]
  have s0:bU H (upd H p (.lst (r.yF.map V.str))):=aU hp;have hw:upd H p (.lst (r.yF.map V.str)) p=some (.lst (r.yF.map V.str)):=ay;have OA:=s0 _ _ ha;have nz:=g.nm.2.1;generalize upd H p (.lst (r.yF.map V.str))=H1 at s0 hw OA
  obtain⟨nm,el,tm⟩:=r;cases el with
  |none=>
   cases tm with
   |none=>exact absurd U (g.some U)
   |some t=>
    obtain⟨gt,ct⟩:=g.tm t rfl;have hw:H1 p=some (.lst ((Str.ofString "series"::nm::t.wC (-1)).map V.str)):=hw;have un:=FV (t:=t) (c:= -1);have nw:=t.zL (-1);obtain⟨w0,rest,ew⟩:∃w0 rest,t.wC (-1)=w0::rest:=by
     cases e:t.wC (-1) with
     |nil=>exact absurd e nw
     |cons x y=>exact⟨x,y,U⟩
    have un:¬V.str w0=V.str (Str.ofString "under"):=λz=>by
     rw[ew] at un
     injection z with z
     exact un (by rw[z];rfl)
    have hx:=hw;rw[ew] at hx
    refine⟨_,U,_,_,U,.inl ⟨_,cK.of hx,U⟩,_,_,U,U,_,U,jT (by simp only [aT,aZ];omega) (AG U (cK.of hx) (BY U) ⟨U,_,U,pF U ?_⟩)⟩
    refine(AG U (cK.of hx) (BY U) ⟨nm,U,bD nz (by decide),λH2 s2=>⟨_,U, ?_⟩⟩);rw[Qe g.nm];have IH:=s2 _ _ hx;refine ic (AG U (cK.of IH) (BY U) ⟨_,U,a,_,U,Qf (s2 _ _ OA) nn,_,U,ic ?_⟩);refine(AG U (cK.of IH) (BY U) ⟨U,_,U,GY un ?_⟩);refine(AG U (cK.of IH) (BY U) ⟨_,U,_,U,p,_,U,cK.of IH,λp2 Kh=>⟨_,U,p2,t,n,U, ?_,gt,ct,λm H3 s3 tm=>⟨show 3<=sizeLine from sl,λd hd=> ?_⟩⟩⟩)
    ·rw[ay];show some (HO.lst (BU _ (some ((2:Nat):Int)) none))=_;rw[Ih,ew]
     rfl
    ·have Lc:=(s0.trans s2).trans ((aU Kh).trans s3);exact q d _ (none_of Lc hd) (Lc.trans (aU hd)) ⟨.ref m,ay,m,U,tm.same (aU hd)⟩
  |some e=>
   have he:=nne e rfl;have ge:=g.el e rfl;have hx:H1 p=some (.lst ((Str.ofString "series"::nm::Str.ofString "under"::e::tmW tm).map V.str)):=hw;refine⟨_,U,_,_,U,.inl ⟨_,cK.of hx,U⟩,_,_,U,U,_,U,jT (by simp only [aT,aZ];omega) (AG U (cK.of hx) (BY U) ⟨U,_,U,pF U ?_⟩)⟩
   refine(AG U (cK.of hx) (BY U) ⟨nm,U,bD nz (by decide),λH2 s2=>⟨_,U, ?_⟩⟩);rw[Qe g.nm];have IH:=s2 _ _ hx;refine ic (AG U (cK.of IH) (BY U) ⟨_,U,a,_,U,Qf (s2 _ _ OA) nn,_,U,ic ?_⟩);refine(AG U (cK.of IH) (BY U) ⟨U,_,U,pF U ?_⟩);refine⟨_,U,_,_,U,.inl ⟨_,cK.of IH,U⟩,_,_,U,U,_,U,jT (by simp only [aT,aZ];omega) ?_⟩
   refine(AG U (cK.of IH) (BY U) ⟨_,U,a,_,U,TQ (s2 _ _ OA) he,_,U,ic ?_⟩);cases tm with
   |none=>
    refine⟨_,U,_,_,U,.inl ⟨_,cK.of IH,U⟩,U,_,U,EM U ?_⟩;refine(AG U (cK.of IH) (BY U) (AG U (cK.of IH) (BY U) ⟨show 3<=sizeLine from sl,λd hd=> ?_⟩));exact q d _ (none_of (s0.trans s2) hd) ((s0.trans s2).trans (aU hd)) ⟨.fR,ay,U⟩
   |some t=>
    obtain⟨gt,ct⟩:=g.tm t rfl;have ls:=(mE (nF t (-1) gt)).1;refine⟨_,U,_,_,U,.inl ⟨_,cK.of IH,U⟩,U,_,U,jT (λz=> ?_) ?_⟩
    ·injection z with z
     simp only [aT,aZ,tmW,ao] at z
     omega
    refine(AG U (cK.of IH) (BY U) (AG U (cK.of IH) (BY U) ⟨_,U,_,U,p,_,U,cK.of IH,λp2 Kh=>⟨_,U,p2,t,n,U, ?_,gt,ct,λm H3 s3 tm=>⟨show 3<=sizeLine from sl,λd hd=> ?_⟩⟩⟩))
    ·rw[ay];show some (HO.lst (BU _ (some ((4:Nat):Int)) none))=_;rw[Ih]
     rfl
    ·have Lc:=(s0.trans s2).trans ((aU Kh).trans s3);exact q d _ (none_of Lc hd) (Lc.trans (aU hd)) ⟨.ref m,ay,m,U,tm.same (aU hd)⟩
theorem TR{ns:List Str}{z:Str}(h:z∉ns):putK (FG ns) (Sum.inr z) (V.bl true)=FG (ns++[z]):=by
 unfold putK;rw[aX]
 ·unfold FG;rw[bN]
  rfl
 ·intro w;obtain⟨kv,hm,e⟩:=eB.mp w;obtain⟨y,hy,rfl⟩:=a5.mp hm;have e:(Sum.inr y:Key)=Sum.inr z:=ba e
  injection e with e
  exact h (e▸hy)
theorem KD{rs:List Sr}(g:∀r∈rs,r.good)(h:uB rs=Str.ofString ""):rs=[]:=by
 cases rs with
 |nil=>rfl
 |cons r rs=>
  exfalso
  have e:cs (uB (r::rs))=[]:=by rw[h];decide+kernel
  rw[E7] at e
  have z:∃x y,cs r.txt=x::y:=by
   rw[E5];unfold Sr.yF;rw[aT,aT];exact⟨115,_,U⟩
  obtain⟨x,y,z⟩:=z;cases rs with
  |nil=>
   have e:cs r.txt=[]:=e;rw[z] at e
   cases e
  |cons r2 rs=>
   have e:cs r.txt++10::J 10 (((r2::rs).map Sr.txt).map cs)=[]:=e;rw[z] at e
   cases e
theorem iX:b_ ["text","book","ahead","number","row","series"] ["text"] (bG r8):=⟨rfl,rfl,rfl,by decide+kernel,rfl,by decide+kernel,by decide+kernel⟩
theorem Ej{f:aj}{fd:bC}(F:je K "book_read" "book_read" r8 f fd)(T:Txt K mg bh a4 aO aN bF bE a3 aP aI aD aC ar aV bY bw bL bA bM bq a_ br bB aS bX)(oC:fi P w K mg base c8 26 "series_read" ["row","number","ahead"] (mh aI aD aC ar)):dJ P w K mg base c8 27 f fd ["text"] (pZ aI aD aC ar):=by
 refine F.ok iX (λvs H Q E h=> ?_) (λdQ A outer s H vs Q E hr h=> ?_)
 ·obtain⟨rs,rfl,_⟩:=h
  rfl
 ·obtain⟨rs,rfl,bk,lr,q⟩:=h;have l5:=fo;have hu:=AI hr;have good:=qJ bk;have bl:=RL good lr;refine⟨_,(av (bS (i:=1) iX.nd U (Or.inl U) (fC aA)) (av (bS (i:=2) iX.nd U (Or.inl U) Gm) (av (c9 (bQ gb (pv 0) cV (cf _)) (aR (bP (pv 1))) b9) (av (lj eD U (Ts (K:=K) U (by rfl) T.K9 (ag (i6 dE eO i8 mK (pv 0) (ag cV aA)) aA)) (ql U (fw (cR (i:=3) iX.nd U (Or.inl U)) (fw (cR (i:=4) iX.nd U (Or.inl U)) lO))) (av (bS (i:=5) iX.nd U (Or.inl U) (cG oC (hr.mono (by omega)) U cq (ag (pv 4) (ag (pv 3) (ag (pv 2) aA))))) (av (D8 hu (pv 2) (dI jc (pv 5) a9 (λ_ _=>rfl)) si U) (aR (gY (i6 cH cT cS gG (pv 1) (ag (pv 5) aA))))))) (aR (bP (pv 1))))))), ?_⟩
  refine⟨bz _,λB hB=> ?_⟩;intro D hD;have nDB:D≠B:=λz=>by rw[z,ay] at hD;cases hD
  have hD0:H D=none:=by rw[aY nDB] at hD;exact hD
  have dB:upd (upd H B (.lst [])) D (.dK []) B=some (.lst []):=by rw[aY (cY nDB)];exact ay
  have dD:upd (upd H B (.lst [])) D (.dK []) D=some (.dK (FG [])):=ay;have fr:∀b u,b≠B->b≠D->H b=some u->upd (upd H B (.lst [])) D (.dK []) b=some u:=λb u n1 n2 e=>by rw[aY n2,aY n1];exact e
  generalize upd (upd H B (.lst [])) D (.dK [])=H1 at dB dD fr
  have same:∀{H':Hp},(∀b u,b≠B->b≠D->H b=some u->H' b=some u)->bU H H':=λf b u e=>f b u (bI e hB) (bI e hD0) e;refine(vEq U U (gW (λe=> ?_) (λe=> ?_)))
  ·have e:V.str (uB rs)=V.str (Str.ofString ""):=ba e
   injection e with e
   have e:=KD good e;subst e;exact⟨_,U,q B _ hB (same fr) ⟨[],dB,.nil⟩⟩
  ·have ne:rs≠[]:=λz=>by
    subst z;exact e (bf U)
   refine⟨_,U,U,uB rs,10,U,by rw[Vx],by omega,λp hp=> ?_⟩;rw[vQ (uB rs) 10 (rs.map Sr.txt) (by simpa using ne) (λz hz=>by
    obtain⟨r,hr,rfl⟩:=a5.mp hz;exact OV (good r hr)) (E7 rs)]
   have npB:p≠B:=λz=>by rw[z,dB] at hp;cases hp
   have npD:p≠D:=λz=>by rw[z,dD] at hp;cases hp
   have Kh:upd H1 p (.lst ((rs.map Sr.txt).map V.str)) p=some (.lst ((rs.map Sr.txt).map V.str)):=ay;have dB:=aU (o:=.lst ((rs.map Sr.txt).map V.str)) hp _ _ dB;have dD:=aU (o:=.lst ((rs.map Sr.txt).map V.str)) hp _ _ dD;have fr:∀b u,b≠B->b≠D->H b=some u->upd H1 p (.lst ((rs.map Sr.txt).map V.str)) b=some u:=λb u n1 n2 e=>aU hp _ _ (fr b u n1 n2 e);generalize upd H1 p (.lst ((rs.map Sr.txt).map V.str))=H2 at dB dD fr Kh
   refine⟨p,U,⟨_,cK.of Kh⟩,AL (J:=Ite K p 1) (n:=rs.length) (λi σ H'=>∃(v3 v4 v5:Option V) (ds:List aj),σ=[some (.str (uB rs)),some (.ref B),some (.ref D),v3,v4,v5]/\H' B=some (.lst (ds.map V.ref))/\Paired (sR aI aD aC ar H') ds (rs.take i)/\H' D=some (.dK (FG ((rs.take i).map Sr.nm)))/\H' p=some (.lst ((rs.map Sr.txt).map V.str))/\∀b u,b≠B->b≠D->H b=some u->H' b=some u) ?_ ?_ ?_ ?_⟩
   ·exact⟨none,none,none,[],U,dB,.nil,dD,Kh,fr⟩
   ·rintro i σ H3 hi ⟨v3,v4,v5,ds,rfl,b3,p3,d3,h3,f3⟩;exact⟨_,_,cK.of h3,aK (by rw[ao,ao];exact hi)⟩
   ·rintro σ H3 ⟨v3,v4,v5,ds,rfl,b3,p3,d3,h3,f3⟩;rw[dg (aE _)] at p3
    refine⟨⟨_,cK.of h3,by rw[ao,ao];exact aE _⟩, ?_⟩
    exact⟨_,U,q B H3 hB (same f3) ⟨ds,b3,p3⟩⟩
   ·rintro i x σ H3 H4 hi ⟨v3,v4,v5,ds,rfl,b3,p3,d3,h3,f3⟩ ⟨pp,x',X1,hx,rfl,rfl⟩;have hx:=hx _ (cK.of h3);have er:rs[i]? =some rs[i]:=aK hi;generalize rs[i]=r at er
    have ex:x'=.str r.txt:=by
     rw[cj,cj,er] at hx
     exact(bR hx).symm
    subst ex;obtain⟨g,nn,nel⟩:=VP bk er;rw[jj] at nn nel
    have s4:bU H3 (upd H3 pp (.tup [.int (1+(i:Nat)),.str r.txt])):=aU X1;refine⟨pp,_,U,jU.of ay,U,_,_,U,_,_,U,U, ?_⟩;refine⟨_,U,_,U,_,U,r,_,D,_,U,s4 _ _ d3,g,nn,nel,λd H5 hd s5 ZW=> ?_⟩;have Z_:=s4.trans s5;obtain⟨v,sd,st⟩:=id ZW;have d5:=Z_ _ _ d3;have b5:=Z_ _ _ b3;have h5:=Z_ _ _ h3;have li:(rs.take i).length<=63:=by rw[dh];omega
    refine⟨_,U,GX U (jU.of sd) U ⟨D,_,U,.inl ⟨_,Sum.inr r.nm,d5,U, ?_,U⟩, ?_⟩⟩
    ·unfold FG;rw[ao,ao];omega
    rw[TR nn];have nBD:B≠D:=cY nDB;have ld:ds.length<=63:=by rw[cA p3];exact li
    have l6:(ds.map V.ref).length<sizeLine:=by rw[ao];omega
    have b6:upd H5 D (.dK (FG ((rs.take i).map Sr.nm++[r.nm]))) B=some (.lst (ds.map V.ref)):=by rw[aY nBD];exact b5
    refine⟨_,U,.inl ⟨U,_,cK.of b6⟩,_,U,B,_,_,U,U,b6,l6, ?_⟩;have tk:rs.take (i+1)=rs.take i++[r]:=by rw[dG,er];rfl
    have k1:∀b u,b≠B->b≠D->H5 b=some u->upd (upd H5 D (.dK (FG ((rs.take i).map Sr.nm++[r.nm])))) B (.lst (ds.map V.ref++[V.ref d])) b=some u:=λb u n1 n2 e=>by rw[aY n1,aY n2];exact e
    have kt:∀b xs,H5 b=some (.tup xs)->upd (upd H5 D (.dK (FG ((rs.take i).map Sr.nm++[r.nm])))) B (.lst (ds.map V.ref++[V.ref d])) b=some (.tup xs):=λb xs e=>k1 b _ (wq e b5 (λz=>nomatch z)) (wq e d5 (λz=>nomatch z)) e;have ki:∀b C dx fs,H5 b=some (.ins C dx fs)->upd (upd H5 D (.dK (FG ((rs.take i).map Sr.nm++[r.nm])))) B (.lst (ds.map V.ref++[V.ref d])) b=some (.ins C dx fs):=λb C dx fs e=>k1 b _ (wq e b5 (λz=>nomatch z)) (wq e d5 (λz=>nomatch z)) e
    refine⟨_,_,_,ds++[d],U,by rw[ay,bN];rfl, ?_, ?_, ?_,λb u n1 n2 e=>k1 b u n1 n2 (Z_ _ _ (f3 b u n1 n2 e))⟩
    ·rw[tk];exact Paired.snoc (xu kt ki (jE Z_ p3)) (ZW.keep kt ki)
    ·rw[tk,bN,aY nDB];exact ay
    ·exact k1 p _ npB npD h5
theorem Jz:∀(rr:List Sr) (w:Option Str),BkR rr->(∀n,w=some n->n∈rr.map Sr.nm)->w≠none->∃r∈rr,∃t,wc rr w=some r/\r.tm=some t
 |[],some n,_,h,_=>nomatch h n rfl
 |[],none,_,_,h=>absurd rfl h
 |r::rr,w,⟨g,nn,ne,b⟩,h,hw=>by
  show∃x∈r::rr,∃t,(if some r.nm=w then(if r.tm.isSome=true then some r else wc rr r.el) else wc rr w)=some x/\_
  by_cases e:some r.nm=w
  ·rw[bg e];cases q:r.tm with
   |some t=>exact⟨r,aB ..,t,U,q⟩
   |none=>
    obtain⟨x,hx,y⟩:=Jz rr r.el b ne (λz=>g.some z q);exact⟨x,aF _ hx,y⟩
  ·rw[aX e];obtain⟨x,hx,y⟩:=Jz rr w b (λn hn=>by
    rcases aJ.mp (h n hn) with z|z
    ·exact absurd (by rw[hn,z]) e
    ·exact z) hw
   exact⟨x,aF _ hx,y⟩
theorem RN:∀(rs acc:List Sr),BkR acc->dO (acc.reverse.map Sr.nm) rs->BkR (rs.reverse++acc)
 |[],acc,h,_=>h
 |r::rs,acc,h,⟨g,n,e,k⟩=>by
  rw[uq,dj];refine RN rs (r::acc) ⟨g,λz=>n ?_,λx hx=> ?_,h⟩ (by rw[uq,bN];exact k)
  ·rw[vE,IS];exact z
  ·have:=e x hx;rw[vE,IS] at this
   exact this
theorem UX{rs:List Sr}(h:dO [] rs):BkR rs.reverse:=by
 have:=RN rs [] trivial h
 rwa [cE] at this
theorem WK{α:Type}{xs:List α}{i:Nat}{x:α}(h:xs[xs.length-1-i]? =some x)(hi:i<xs.length):xs.reverse.drop i=x::xs.reverse.drop (i+1):=by
 have e:xs.reverse[i]? =some x:=by rw[List.getElem?_reverse hi];exact h
 obtain⟨lt,e⟩:=bT.mp e;rw[cB lt,e]
theorem DJ(z:Str)(w:Option Str):Pf (.str z) (oS w)=true:=by cases w<;>rfl
theorem Lr{z:Str}{w:Option Str}:V.str z=oS w↔some z=w:=by
 cases w with
 |none=>exact⟨(λh=>nomatch h),(λh=>nomatch h)⟩
 |some y=>exact⟨λh=>by injection h with h;rw[h],λh=>by injection h with h;rw[h];rfl⟩
theorem L8{H:Hp}:∀{as:List aj} {ws:List Tb},eQ H as ws->∃cs:List Tb,Paired (Rep K H) (cs.map λc=>Dt.C6 (kk c)) (as.map V.ref)/\cs.map M4.norm=ws/\∀c∈cs,M4.Nd c
 |_,_,.nil=>⟨[],.nil,rfl,λc hc=>nomatch hc⟩
 |_,_,.cons ⟨c,e,n,q⟩ t=>by
  obtain⟨cs,r,e1,n1⟩:=L8 t;refine⟨c::cs,.cons (.C6 (.inl e) (LG c)) r,by rw[aT,e1,q],λd hd=> ?_⟩;obtain rfl|hd:=aJ.mp hd
  ·exact n
  ·exact n1 d hd
theorem RA{a b:Tb}(ha:M4.Nd a)(hb:M4.Nd b)(h:M4.norm a=M4.norm b):OC (kk a) (kk b)=true:=by
 unfold OC;have le:(kk a).length=(kk b).length:=by rw[eT,eT,<-M4.fW a,h,M4.fW]
 rw[le,cX,gR,eP];intro kv hm;obtain⟨p,hp,rfl⟩:=Qq hm;have e:l9 (kk b) (Sum.inr p.1)=some (V.int p.2):=by rw[Dy,<-M4.Eo ha hb h,kG ha hp];rfl
 show(match l9 (kk b) (Sum.inr p.1) with|some u=>IJ (V.int p.2) u|none=>false)=true;rw[e];exact sC U
theorem UN{a b:Tb}(ha:M4.Nd a)(hb:M4.Nd b):OC (kk a) (kk b)=decide (M4.norm a=M4.norm b):=by
 by_cases h:M4.norm a=M4.norm b
 ·rw[RA ha hb h,bf h]
 ·rw[bJ h];cases e:OC (kk a) (kk b) with
  |false=>rfl
  |true=>
   exfalso
   unfold OC at e
   rw[cZ,eP] at e
   obtain⟨e1,e2⟩:=e;have le:a.length=b.length:=by have:=eq_of_beq e1;rw[eT,eT] at this;exact this
   have sub:∀p∈a,p∈b:=λp hp=>by
    have m:(Sum.inr p.1,V.int p.2)∈kk a:=a5.mpr ⟨p,hp,rfl⟩;have z:(match l9 (kk b) (Sum.inr p.1) with|some u=>IJ (V.int p.2) u|none=>false)=true:=e2 _ m;rw[Dy] at z
    cases el:lk b p.1 with
    |none=>rw[el] at z;cases z
    |some u=>
     rw[el] at z
     have z:(p.2==u)=true:=z;have z:=eq_of_beq z;have:=(M4.gO hb).mp el;rw[<-z] at this
     exact this
   have pm:a.Perm b:=M4.vZ (M4.tN ha) (M4.tN hb) λx=>⟨sub x,(M4.sub_len (M4.tN ha) sub).2 (M4.tN hb) le x⟩
   exact h (M4.xt mL pm)
theorem any_norm{c:Tb}(hc:M4.Nd c):∀cs:List Tb,(∀d∈cs,M4.Nd d)->((cs.map λd=>Dt.C6 (kk d)).any λe=>gX 1 e (.C6 (kk c)))=((cs.map M4.norm).any λu=>decide (u=M4.norm c))
 |[],_=>rfl
 |d::cs,h=>by
  rw[aT,aT,iE,iE,any_norm hc cs λe he=>h e (aF _ he)];show(OC (kk d) (kk c)||_)=_;rw[UN (h d (aB ..)) hc]
theorem C7{H:Hp}(P:Tb->Bool):∀{as:List aj} {ws:List Tb},eQ H as ws->∃ds:List aj,((as.zip ws).flatMap λz=>if P z.2=true then[V.ref z.1] else[])=ds.map V.ref/\eQ H ds (ws.filter P)
 |_,_,.nil=>⟨[],rfl,.nil⟩
 |_,_,.cons (a:=a) (b:=w) h t=>by
  obtain⟨ds,e,c⟩:=C7 P t;cases hp:P w with
  |true=>
   refine⟨a::ds, ?_,by rw[lG hp];exact .cons h c⟩
   rw[eF,fK,e,bg hp]
   rfl
  |false=>
   refine⟨ds, ?_,by rw[lH (by rw[hp];simp)];exact c⟩
   rw[eF,fK,e,aX (by rw[hp];simp)]
   rfl
theorem Jl:b_ ["ones","others"] ["ones","others"] (bG xy):=⟨rfl,rfl,rfl,by decide+kernel,rfl,by decide+kernel,by decide+kernel⟩
theorem JG{f:aj}{fd:bC}(F:je K "only_in" "only_in" xy f fd)(T:Txt K mg bh a4 aO aN bF bE a3 aP aI aD aC ar aV bY bw bL bA bM bq a_ br bB aS bX):dJ P w K mg base c8 1 f fd ["ones","others"] uM:=by
 refine F.ok Jl (λvs H Q E h=> ?_) (λdQ A outer s H vs Q E hr h=> ?_)
 ·obtain⟨p,q,as,bs,ws,us,rfl,_⟩:=h
  rfl
 ·obtain⟨p,q,as,bs,ws,us,rfl,hp,hq,ca,cb,la,fin⟩:=h;have l5:=fo;have II:=Kf hr;have le:=ca.len;have lz:(as.zip ws).length=as.length:=by rw[List.length_zip];omega
  refine⟨_,(aR (bP (kF ["clause"] [("others",1)] U (gk (pv 0)) (by rfl) (by exact⟨U,trivial⟩) (by rfl) (by exact⟨⟨U,U,U⟩,trivial⟩) (λ_ _ _ _=>(cR (i:=0) (show(t_ ["clause"] [("others",1)]).Nodup by decide+kernel) U (Or.inl U))) (λ_ _ _ _=>(tG (bQ (JB (K:=K) U II) (pv 0) (pv 1) U))) (λ_ _ _ _=>(pv 0))))), ?_⟩;refine⟨_,U,p,U,⟨_,cK.of hp⟩,wU (as.zip ws).length (λj=>(((as.zip ws)[j]?).map λz=>if(!(us.any λu=>decide (u=z.2)))=true then[V.ref z.1] else[]).getD []) (by omega) (λj=> ?_) (λj H2 s2 lt=>⟨_,_,cK.of (s2 _ _ hp),aK (by rw[ao];omega)⟩) (λH2 s2=>⟨_,cK.of (s2 _ _ hp),by rw[ao];omega⟩) (λj y H2 H3 s2 lt yl RT RF rt rf=> ?_) λD H2 hD s2 d2=> ?_⟩
  ·cases(as.zip ws)[j]? with
   |none=>exact bz 1
   |some z=>
    show(if _ then[V.ref z.1] else[]).length<=1
    split
    ·exact aE 1
    ·exact bz 1
  ·obtain⟨rfl,yl⟩:=yl;have hy:=yl _ (cK.of (s2 _ _ hp));obtain⟨a,w,c,rfl,e1,e2,e3,e4,e5⟩:=eQ.get (ca.same s2) j y hy;obtain⟨cs,r1,m1,k1⟩:=L8 (cb.same s2);have ez:(as.zip ws)[j]? =some (a,w):=List.getElem?_zip_eq_some.mpr ⟨e1,e2⟩;rw[ez] at rt rf
   refine⟨⟨U,trivial⟩,_,U,_,U,q,1,.C6 (kk c),_,_,U,by decide,cK.of (s2 _ _ hq),.C6 (.inl e3) (LG c),r1,λe he=> ?_,_,rfl, ?_⟩
   ·obtain⟨d,_,rfl⟩:=a5.mp he
    rfl
   ·have en:=any_norm e4 cs k1;rw[m1,e5] at en
    show if(!(cs.map λd=>Dt.C6 (kk d)).any λe=>gX 1 e (.C6 (kk c)))=true then _ else _;rw[en];refine gW (λz=>⟨_,U,rt _ _ ?_ (bU.refl _)⟩) (λz=>rf _ ?_ (bU.refl _))
    ·show(if(!(us.any λu=>decide (u=w)))=true then[V.ref a] else[])=[V.ref a];rw[bg z]
    ·show(if(!(us.any λu=>decide (u=w)))=true then[V.ref a] else[])=[];rw[aX z]
  ·rw[qk (λz=>if(!(us.any λu=>decide (u=z.2)))=true then[V.ref z.1] else[]) (as.zip ws)] at d2
   obtain⟨ds,e,c⟩:=C7 (λw=> !(us.any λu=>decide (u=w))) (ca.same s2);rw[e] at d2
   exact fin D ds H2 hD s2 d2 c
theorem To{l:Tb}{k:Str}{v:Int}(h:k∉l.map (·.1)):t9 l k v=l++[(k,v)]:=by
 unfold t9;rw[aX];intro z;obtain⟨p,hp,e⟩:=eB.mp z;exact h (a5.mpr ⟨p,hp,ba e⟩)
theorem mB:b_ ["clause","latest","life","kind","length"] ["clause"] (bG xA):=⟨rfl,rfl,rfl,by decide+kernel,rfl,by decide+kernel,by decide+kernel⟩
theorem JH{f:aj}{fd:bC}(F:je K "life_of" "life_of" xA f fd)(T:Txt K mg bh a4 aO aN bF bE a3 aP aI aD aC ar aV bY bw bL bA bM bq a_ br bB aS bX):dJ P w K mg base c8 1 f fd ["clause"] uN:=by
 refine F.ok mB (λvs H Q E h=> ?_) (λdQ A outer s H vs Q E hr h=> ?_)
 ·obtain⟨a,c,rfl,_⟩:=h
  rfl
 ·obtain⟨a,c,rfl,ha,nd,ne,lc,q⟩:=h;have l5:=fo;have hu:=AI hr;refine⟨_,(av (bS (i:=1) mB.nd U (Or.inl U) (cg (Kx U) (by rfl) T.Z0j KC (ag (MU (pv 0)) aA))) (av (bS (i:=2) mB.nd U (Or.inl U) Gm) (av (Lj a (lj eD U (Ag (v_ (pv 0))) (ql U (fw (cR (i:=3) mB.nd U (Or.inl U)) (fw (cR (i:=4) mB.nd U (Or.inl U)) lO))) (aR (D8 hu (pv 2) (pv 3) (bV Ea (pv 1) (pv 4)) U)))) (aR (bP (pv 2)))))), ?_⟩;refine⟨_,U,a,_,U,.inl ha,λv hv=>⟨v,a,c.map (λp=>(Sum.inr p.1,p.2)),U,ay,.inl ?_,λz=>ne (qV.mp z),λM hM=> ?_⟩⟩
  ·rw[aY (bI ha hv),ha,cM]
   rfl
  have hM:A7 (c.map (·.2)) M:=by rw[cM] at hM;exact hM
  have OA:upd H v (mS v a) a=some (.dK (kk c)):=by rw[aY (bI ha hv)];exact ha
  refine λp hp=> ?_;have npa:a≠p:=bI OA hp;have VE:upd (upd H v (mS v a)) p (.dK []) a=some (.dK (kk c)):=by rw[aY npa];exact OA
  refine⟨_,U,a,_,U,VE,λv2 hv2=>⟨v2,a,_,U,ay,by rw[aY (bI VE hv2)];exact VE,λo=> ?_⟩⟩
  have nva:a≠v2:=bI VE hv2;have npv:p≠v2:=bI ay hv2;have s0:bU H (upd (upd (upd H v (mS v a)) p (.dK [])) v2 (ku v2 a)):=(aU hv).trans ((aU hp).trans (aU hv2));have hp0:H p=none:=none_of (aU (o:=mS v a) hv) hp;refine AL (J:=Iti a o (kk c)) (n:=c.length) (λi σ H'=>∃v3 v4,σ=[some (.ref a),some (.int M),some (.ref p),v3,v4]/\H' p=some (.dK (kk ((c.take i).map λz=>(z.1,M-z.2))))/\(∀b' u,b'≠a->H b'=some u->H' b'=some u)/\H' a=some (.pM o (.dK (kk c)))) ?_ ?_ ?_ ?_
  ·exact⟨none,none,U,by rw[aY (cY npa),aY npv];exact ay,λb' u n e=>by rw[aY n];exact s0 _ _ e,ay⟩
  ·rintro i σ H1 hi ⟨v3,v4,rfl,d1,f1,g1⟩;exact⟨g1,by rw[eT];exact hi⟩
  ·rintro σ H1 ⟨v3,v4,rfl,d1,f1,g1⟩;rw[dg (aE _)] at d1
   refine⟨⟨g1,by rw[eT];exact aE _⟩,upd H1 a (.dK (kk c)),⟨Qc ha,o,_,g1,U⟩, ?_⟩
   refine⟨_,U,q _ p _ hp0 (λb' u e=> ?_) (by rw[aY (cY npa)];exact d1) ⟨c,M,nd,U,hM,U⟩⟩
   by_cases z:b'=a
   ·subst z;rw[ha] at e
    cases e;exact ay
   ·rw[aY z];exact f1 b' u z e
  ·rintro i x σ H1 H2 hi ⟨v3,v4,rfl,d1,f1,g1⟩ ⟨kv,pp,e3,X1,rfl,rfl⟩;obtain⟨pr,e5,rfl⟩:=RR e3;have npp:p≠pp:=bI d1 X1;refine⟨pp,_,U,jU.of ay,U,_,_,U,_,_,U,U, ?_⟩;have sp:bU H1 (upd H1 pp (.tup [kV (Sum.inr pr.1),V.int pr.2])):=aU X1;have len:(kk ((c.take i).map λz=>(z.1,M-z.2))).length<sizeLine:=by
    have:=Bl i c;rw[eT,ao];omega
   have fresh:pr.1∉((c.take i).map λz=>(z.1,M-z.2)).map (·.1):=λz=>by
    rw[cM] at z
    obtain⟨p2,Kh,e⟩:=a5.mp z;have e:p2.1=pr.1:=e;obtain⟨j,hj,e6⟩:=eU Kh;rw[List.getElem_take] at e6
    have UA:j<i:=by rw[dh] at hj;omega
    obtain⟨hi',e7⟩:=bT.mp e5;have:=(List.pairwise_iff_getElem.mp nd) j i (by rw[ao];omega) (by rw[ao];omega) UA
    rw[List.getElem_map,List.getElem_map,e6,e7] at this
    exact this e
   refine⟨_,U,_,U,_,_,U,U,_,U,_,U,p,_,U,Oo.k (k:=Sum.inr pr.1) (sp _ _ d1) len, ?_⟩;refine⟨_,_,U, ?_,λb' u n e=> ?_,by rw[aY npa];exact sp _ _ g1⟩
   ·rw[QF,ay,To fresh,dG,e5,bN]
    rfl
   ·have nb:b'≠p:=bI e hp0;rw[aY nb];exact sp _ _ (f1 b' u n e)
theorem JO{l:aj}{xs:List V}{H0:Hp}{R:VK}(hl:H0 l=some (.lst xs)):∀{r:List aj} {wr:List Tb} (seen:List Tb) {a:aj} {w c:Tb} {kb:V} {H:Hp},eQ H0 r wr->bU H0 H->(∀v∈wr,v.length<64)->H0 a=some (.dK (kk c))->M4.Nd c->M4.norm c=w->w∈seen->(∀d∈seen,M4.gh d w=false)->Rep K H (yQ (M4.ua w)) kb->
  (∀(a:aj) (w c:Tb) (H':Hp),bU H0 H'->H0 a=some (.dK (kk c))->M4.Nd c->M4.norm c=w->w∈seen++wr->(∀d∈seen++wr,M4.gh d w=false)->R (.ref a) H')->YW K (jD K) l xs (r.map V.ref) (.ref a) kb H R
 |_,_,seen,a,w,c,kb,H,.nil,s,_,ha,nd,en,mw,lo,rk,fin=>by
  rw[cE] at fin
  exact⟨cK.of (s _ _ hl),fin a w c H s ha nd en mw lo⟩
 |_,_,seen,a,w,c,kb,H,.cons (a:=a') (b:=w') (l₁:=r) (l₂:=wr) ⟨c',h',nd',en'⟩ t,s,hz,ha,nd,en,mw,lo,rk,fin=>by
  have lc:c'.length<64:=by
   rw[<-M4.fW,en'];exact hz w' (aB ..)
  refine⟨cK.of (s _ _ hl),a',c',U,s _ _ h',lc,λk H2 s2 rp=> ?_⟩;rw[EF,en'] at rp
  have ap:seen++w'::wr=(seen++[w'])++wr:=by rw[dj];rfl
  rw[ap] at fin
  have Y1:∀v∈wr,v.length<64:=λv hv=>hz v (aF _ hv);refine⟨_,_,rp,ED s2 rk,λz=> ?_,λz=> ?_⟩
  ·have z:M4.gh w' w=true:=z;refine JO hl (seen++[w']) t (s.trans s2) Y1 h' nd' en' (aw _ (aB ..)) (λd hd=> ?_) rp fin;rcases a8.mp hd with hd|hd
   ·cases e:M4.gh d w' with
    |false=>rfl
    |true=>
     have:=M4.kP.tr _ _ _ e z;rw[lo d hd] at this
     cases this
   ·have e7:d=w':=by simpa using hd
    subst e7;exact M4.kP.uZ _
  ·have z:M4.gh w' w=false:=z;refine JO hl (seen++[w']) t (s.trans s2) Y1 ha nd en (cN _ mw) (λd hd=> ?_) (ED s2 rk) fin;rcases a8.mp hd with hd|hd
   ·exact lo d hd
   ·have e7:d=w':=by simpa using hd
    subst e7;exact z
theorem p9:b_ ["one","other","ones","others","clauses"] ["one","other"] (bG xx):=⟨rfl,rfl,rfl,by decide+kernel,rfl,by decide+kernel,by decide+kernel⟩
theorem JF{f:aj}{fd:bC}(F:je K "parting" "parting" xx f fd)(T:Txt K mg bh a4 aO aN bF bE a3 aP aI aD aC ar aV bY bw bL bA bM bq a_ br bB aS bX)(kl:fi P w K mg base c8 1 "place_of" ["clause"] (jD K))(gZ:fi P w K mg base c8 23 "least" ["term"] (mj aI aD aC ar 18))(xX:fi P w K mg base c8 1 "life_of" ["clause"] uN)(tY:fi P w K mg base c8 1 "only_in" ["ones","others"] uM):dJ P w K mg base c8 24 f fd ["one","other"] (uL aI aD aC ar):=by
 refine F.ok p9 (λvs H Q E h=> ?_) (λdQ A outer s H vs Q E hr h=> ?_)
 ·obtain⟨a,b,t,u,rfl,_⟩:=h
  rfl
 ·obtain⟨a,b,t,u,rfl,ta,tb,dt,du,ct,cu,qn,qs⟩:=h;have l5:=fo;have II:=Kf hr;have m1:=bD (ia t ct) (qr t.cnt ct);have m2:=bD (ia u cu) (qr u.cnt cu);refine⟨_,(av (bS (i:=2) p9.nd U (Or.inl U) (cG gZ (hr.mono (by omega)) U cq (ag (pv 0) aA))) (av (bS (i:=3) p9.nd U (Or.inl U) (cG gZ (hr.mono (by omega)) U cq (ag (pv 1) aA))) (av (bS (i:=4) p9.nd U (Or.inl U) (bV tL (cG tY (hr.mono (by omega)) U cq (ag (pv 2) (ag (pv 3) aA))) (cG tY (hr.mono (by omega)) U cq (ag (pv 3) (ag (pv 2) aA))))) (av (c9 (bQ gb (cg fz (by rfl) T.j6 gE (ag (pv 4) aA)) a9 (cf _)) (aR (bP gN)) b9) (aR (bP (cG xX (hr.mono (by omega)) U cq (ag (PV U II kl (hr.mono (by omega)) (by rfl) T.U7 (by rfl) (ag (pv 4) aA)) aA)))))))), ?_⟩
  refine⟨_,U,a,t,U,ta,dt,ct,λr1 Ib H1 hr1 s1 d1 c1 n1=> ?_⟩;refine⟨_,U,b,u,U,tb.same s1,du,cu,λr2 Kt H2 hr2 s2 d2 c2 n2=> ?_⟩;have l1:=c1.len;have l2:=c2.len;refine⟨_,U,_,U,r1,r2,Ib,Kt,_,_,U,s2 _ _ d1,d2,c1.same s2,c2,by omega,λr3 Sn H3 hr3 s3 d3 c3=> ?_⟩;refine⟨_,U,_,U,r2,r1,Kt,Ib,_,_,U,s3 _ _ d2,s3 _ _ (s2 _ _ d1),c2.same s3,(c1.same s2).same s3,by omega,λr4 VL H4 hr4 s4 d4 c4=> ?_⟩;have l3:=c3.len
  have l4:=c4.len;have o3:=Lq (bW t) (bW u);have o4:=Lq (bW u) (bW t);refine⟨r3,r4,Sn.map V.ref,VL.map V.ref,U,U,cK.of (s4 _ _ d3),cK.of d4,by rw[ao,ao];omega,λD hD=> ?_⟩
  have cd:eQ (upd H4 D (.lst (Sn.map V.ref++VL.map V.ref))) (Sn++VL) (ju t u):=(eQ.app (c3.same s4) c4).same (aU hD);have s0:bU H (upd H4 D (.lst (Sn.map V.ref++VL.map V.ref))):=s1.trans (s2.trans (s3.trans (s4.trans (aU hD))));have dD:upd H4 D (.lst (Sn.map V.ref++VL.map V.ref)) D=some (.lst ((Sn++VL).map V.ref)):=by rw[ay,bN]
  generalize hH:upd H4 D (.lst (Sn.map V.ref++VL.map V.ref))=H5 at cd s0 dD
  generalize Sn++VL=ds at cd dD
  refine⟨_,U,_,_,U,.inl ⟨_,cK.of dD,U⟩,U,_,U, ?_⟩;have sz:∀w∈ju t u,w≠[]/\w.length<=max t.cnt u.cnt:=λw hw=>tT hw;generalize hd:ju t u=W at cd sz qn qs
  cases cd with
  |nil=>exact EM U (qn _ s0 U)
  |cons h1 tl=>
   rename_i a1 w1 ds W
   obtain⟨c1',g1,g2,g3⟩:=h1;refine jT (λz=> ?_) ?_
   ·injection z with z
    rw[aT,aZ] at z
    omega
   have lc:c1'.length<64:=by
    have:=(sz w1 (aB ..)).2;rw[<-M4.fW,g3];omega
   refine⟨_,U,D,.ref a1,ds.map V.ref,U,cK.of dD,a1,c1',U,g1,lc,λk H6 s6 rp=> ?_⟩;rw[EF,g3] at rp
   refine JO dD [w1] tl s6 (λv hv=> ?_) g1 g2 g3 (aB ..) (λd hd=> ?_) rp λam wm cm H7 s7 e1 e2 e3 mm lo=> ?_
   ·have:=(sz v (aF _ hv)).2;omega
   ·have e7:d=w1:=by simpa using hd
    subst e7;exact M4.kP.uZ _
   ·have z:=sz wm mm;refine⟨am,cm,U,s7 _ _ e1,e2,λy=>z.1 ?_, ?_,λl p H8 hp s8 h8 lf=>qs wm l p H8 (none_of (s0.trans s7) hp) (s0.trans (s7.trans s8)) h8 mm lo (by rw[<-e3];exact lf)⟩
    ·rw[<-e3,y]
     rfl
    ·rw[<-M4.fW,e3];omega
theorem DP:b_ ["self","life"] ["self","life"] (bG r9):=⟨rfl,rfl,rfl,by decide+kernel,rfl,by decide+kernel,by decide+kernel⟩
theorem Ek{f:aj}{fd:bC}(F:je K "due" "Never.due" r9 f fd)(T:Txt K mg bh a4 aO aN bF bE a3 aP aI aD aC ar aV bY bw bL bA bM bq a_ br bB aS bX)(n:Nat):dJ P w K mg base c8 (0+n+1+1) f fd ["self","life"] (pY aI aD aC ar (n+1) aI):=by
 refine F.ok DP (λvs H Q E h=> ?_) (λdQ A outer s H vs Q E hr h=> ?_)
 ·obtain⟨a,b,t,l,rfl,_⟩:=h
  rfl
 ·obtain⟨a,b,t,l,rfl,ht,hd,hC,hb,q⟩:=h;refine⟨_,(aR (bP gN)), ?_⟩;cases t with
  |never=>exact q H (bU.refl H)
  |after k d=>exact absurd hC.symm T.f9
  |later x y=>exact absurd hC.symm T.d8
  |cO x y=>exact absurd hC.symm T.b8
theorem DQ:b_ ["self","life"] ["self","life"] (bG se):=⟨rfl,rfl,rfl,by decide+kernel,rfl,by decide+kernel,by decide+kernel⟩
theorem Em{f:aj}{fd:bC}(F:je K "due" "After.due" se f fd)(T:Txt K mg bh a4 aO aN bF bE a3 aP aI aD aC ar aV bY bw bL bA bM bq a_ br bB aS bX)(n:Nat):dJ P w K mg base c8 (0+n+1+1) f fd ["self","life"] (pY aI aD aC ar (n+1) aD):=by
 refine F.ok DQ (λvs H Q E h=> ?_) (λdQ A outer s H vs Q E hr h=> ?_)
 ·obtain⟨a,b,t,l,rfl,_⟩:=h
  rfl
 ·obtain⟨a,b,t,l,rfl,ht,hd,hC,hb,q⟩:=h;have hu:=AI hr;cases t with
  |never=>exact absurd hC T.f9
  |later x y=>exact absurd hC.symm T.g8
  |cO x y=>exact absurd hC.symm T.d7
  |after k d=>
   obtain⟨dx,ha⟩:=ht;have hg:=Ae hb k;refine⟨_,(av (c9 (Ju (CA hu (kh (pv 0) U) (pv 1))) (aR (bP gN)) b9) (aR (bP (bV lq (zc hu (pv 1) (kh (pv 0) U) (λ_ _=>rfl)) (kh (pv 0) U))))), ?_⟩;refine⟨_,U,a,_,dx,_,_,U,ha,T.kO,T.lP,E1 k d,_,U,b,_,U,hg,_,U, ?_⟩;rw[Ay];have q1:=q H (bU.refl H);unfold Tr.xa at q1
   cases ev:lk l k with
   |none=>
    rw[ev] at q1
    exact jH q1
   |some u=>
    rw[ev] at q1 hg
    exact ic ⟨_,U,_,U,a,_,dx,_,_,U,ha,T.kO,T.lP,E1 k d,b,_,U,hg,_,U,a,_,dx,_,_,U,ha,T.kO,T.qq,LW k d,_,_,U,U,q1⟩
theorem p_:b_ ["self","life","one_day","other_day"] ["self","life"] (bG r_):=⟨rfl,rfl,rfl,by decide+kernel,rfl,by decide+kernel,by decide+kernel⟩
theorem El{f:aj}{fd:bC}(F:je K "due" "Later.due" r_ f fd)(T:Txt K mg bh a4 aO aN bF bE a3 aP aI aD aC ar aV bY bw bL bA bM bq a_ br bB aS bX)(n:Nat)(uz:Sa P w K mg base c8 (0+n+1) "due" ["self","life"] (pY aI aD aC ar n) (λC=>C=aI\/C=aD\/C=aC\/C=ar)):dJ P w K mg base c8 (0+n+1+1) f fd ["self","life"] (pY aI aD aC ar (n+1) aC):=by
 refine F.ok p_ (λvs H Q E h=> ?_) (λdQ A outer s H vs Q E hr h=> ?_)
 ·obtain⟨a,b,t,l,rfl,_⟩:=h
  rfl
 ·obtain⟨a,b,t,l,rfl,ht,hd,hC,hb,q⟩:=h;cases t with
  |never=>exact absurd hC T.d8
  |after k d=>exact absurd hC T.g8
  |cO x y=>exact absurd hC.symm T.c7
  |later x y=>
   obtain⟨dx,p1,p2,ha,t1,t2⟩:=ht;obtain⟨dx1,f1,i1,l1⟩:=pe t1;obtain⟨n1,n2,n3,n4⟩:=Qi "due" (.inl rfl);have G0:max x.deep y.deep+1<n+1:=hd;refine⟨_,(av (bS (i:=2) p_.nd U (Or.inl U) (xD (kh (pv 0) U) uz (hr.mono (by omega)) cq (ag (pv 1) aA))) (av (bS (i:=3) p_.nd U (Or.inl U) (xD (kh (pv 0) U) uz (hr.mono (by omega)) cq (ag (pv 1) aA))) (av (c9 (PW.pt (pw_or (bQ xF (pv 2) gN (cf _)) (pw_or1 (bQ xF (pv 3) gN (cf _))))) (aR (bP gN)) b9) (aR (bP (cg (Dc U) (by rfl) T.Z0j KC (ag (pv 2) (ag (pv 3) aA)))))))), ?_⟩
   refine⟨_,U,a,_,dx,_,_,U,ha,T.mO,T.sj,EZ p1 p2,p1,_,dx1,f1,U,i1,xT x,l1 _ n1 n2 n3 n4,_,U,p1,b,x,l,U,t1,by omega,rfl,hb,λH2 s2=> ?_⟩;obtain⟨dx2,f2,i2,l2⟩:=pe (t2.same s2);refine⟨_,U,a,_,dx,_,_,U,s2 _ _ ha,T.mO,T.oq,wN p1 p2,p2,_,dx2,f2,U,i2,xT y,l2 _ n1 n2 n3 n4,_,U,p2,b,y,l,U,t2.same s2,by omega,rfl,Le s2 hb,λH3 s3=> ?_⟩;have q1:=q H3 (s2.trans s3);unfold Tr.xa at q1
   cases e1:x.xa l with
   |none=>
    rw[e1] at q1
    exact⟨_,U,U,_,U,jH (jH q1)⟩
   |some i=>
    cases e2:y.xa l with
    |none=>
     rw[e1,e2] at q1
     exact⟨_,U,U,_,U,ic ⟨_,U,U,_,U,jH q1⟩⟩
    |some j=>
     rw[e1,e2] at q1
     exact⟨_,U,U,_,U,ic ⟨_,U,U,_,U,ic ⟨_,U,_,U,i,j,U,q1⟩⟩⟩
theorem mD:b_ ["self","life","one_day","other_day"] ["self","life"] (bG oi):=⟨rfl,rfl,rfl,by decide+kernel,rfl,by decide+kernel,by decide+kernel⟩
theorem Aq{f:aj}{fd:bC}(F:je K "due" "Earlier.due" oi f fd)(T:Txt K mg bh a4 aO aN bF bE a3 aP aI aD aC ar aV bY bw bL bA bM bq a_ br bB aS bX)(n:Nat)(uz:Sa P w K mg base c8 (0+n+1) "due" ["self","life"] (pY aI aD aC ar n) (λC=>C=aI\/C=aD\/C=aC\/C=ar)):dJ P w K mg base c8 (0+n+1+1) f fd ["self","life"] (pY aI aD aC ar (n+1) ar):=by
 refine F.ok mD (λvs H Q E h=> ?_) (λdQ A outer s H vs Q E hr h=> ?_)
 ·obtain⟨a,b,t,l,rfl,_⟩:=h
  rfl
 ·obtain⟨a,b,t,l,rfl,ht,hd,hC,hb,q⟩:=h;cases t with
  |never=>exact absurd hC T.b8
  |after k d=>exact absurd hC T.d7
  |later x y=>exact absurd hC T.c7
  |cO x y=>
   obtain⟨dx,p1,p2,ha,t1,t2⟩:=ht;obtain⟨dx1,f1,i1,l1⟩:=pe t1;obtain⟨n1,n2,n3,n4⟩:=Qi "due" (.inl rfl);have G0:max x.deep y.deep+1<n+1:=hd;refine⟨_,(av (bS (i:=2) mD.nd U (Or.inl U) (xD (kh (pv 0) U) uz (hr.mono (by omega)) cq (ag (pv 1) aA))) (av (bS (i:=3) mD.nd U (Or.inl U) (xD (kh (pv 0) U) uz (hr.mono (by omega)) cq (ag (pv 1) aA))) (av (c9 (bQ xF (pv 2) gN (cf _)) (aR (bP (pv 3))) b9) (av (c9 (bQ xF (pv 3) gN (cf _)) (aR (bP (pv 2))) b9) (aR (bP (cg (Od U) (by rfl) T.U7 ve (ag (pv 2) (ag (pv 3) aA))))))))), ?_⟩
   refine⟨_,U,a,_,dx,_,_,U,ha,T.jz,T.oy,EZ p1 p2,p1,_,dx1,f1,U,i1,xT x,l1 _ n1 n2 n3 n4,_,U,p1,b,x,l,U,t1,by omega,rfl,hb,λH2 s2=> ?_⟩;obtain⟨dx2,f2,i2,l2⟩:=pe (t2.same s2);refine⟨_,U,a,_,dx,_,_,U,s2 _ _ ha,T.jz,T.ly,wN p1 p2,p2,_,dx2,f2,U,i2,xT y,l2 _ n1 n2 n3 n4,_,U,p2,b,y,l,U,t2.same s2,by omega,rfl,Le s2 hb,λH3 s3=> ?_⟩;have q1:=q H3 (s2.trans s3);unfold Tr.xa at q1
   cases e1:x.xa l with
   |none=>
    rw[e1] at q1
    exact⟨_,U,U,_,U,jH ⟨_,U,q1⟩⟩
   |some i=>
    cases e2:y.xa l with
    |none=>
     rw[e1,e2] at q1
     exact⟨_,U,U,_,U,ic ⟨_,U,U,_,U,jH ⟨_,U,q1⟩⟩⟩
    |some j=>
     rw[e1,e2] at q1
     exact⟨_,U,U,_,U,ic ⟨_,U,U,_,U,ic ⟨_,U,_,U,i,j,U,q1⟩⟩⟩
theorem Us(ps:List Str):cs (Txt.join (Str.ofString " ") ps)=J 32 (ps.map cs):=by
 have e:Txt.join (Str.ofString " ") ps=Str.join (Str.ofString " ") ps:=Ds _ _;rw[e,CJ,qB]
theorem xE{α β:Type}{R:α->β->Prop}:∀{as:List α} {bs:List β},Paired R as bs->∀(i:Nat) (a:α),as[i]? =some a->∃b,bs[i]? =some b/\R a b
 |_,_,.nil,i,a,h=>by simp at h
 |_,_,.cons (a:=x) r t,0,a,h=>by
  have h:x=a:=by simpa using h
  subst h;exact⟨_,U,r⟩
 |_,_,.cons r t,i+1,a,h=>by
  obtain⟨b,e,z⟩:=xE t i a (by simpa using h);exact⟨b,by simpa using e,z⟩
theorem Ld{ds:List aj}{i:Nat}{y:V}(h:(ds.map V.ref)[i]? =some y):∃d,y=.ref d/\ds[i]? =some d:=by
 rw[cj] at h
 cases e:ds[i]? with
 |none=>rw[e] at h;cases h
 |some d=>rw[e] at h;exact⟨d,(bR h).symm,U⟩
theorem J_{ps:List Str}(h:∀p∈ps,p.length<=821)(l:ps.length<=13):(ps.map (·.length)).sum+ps.length*(Str.ofString "\n").length<=16777216:=by
 have h1:=DB (λp:Str=>p.length) 821 ps h;rw[show(Str.ofString "\n").length=1 by decide+kernel];have h3:ps.length*821<=13*821:=zD _ l;omega
theorem Fw:(Str.ofString "abcdefghijklmnopqrstuvwxyz").length=26:=by decide+kernel
theorem U_:∀m,m<26->A2 (Str.ofString "abcdefghijklmnopqrstuvwxyz").cps.toList ((m:Nat):Int)=some (97+m):=by decide+kernel
theorem KJ{i:Int}(h0:0<=i)(h1:i<26):A2 (Str.ofString "abcdefghijklmnopqrstuvwxyz").cps.toList i=some (97+i.toNat):=by
 obtain⟨m,rfl⟩:=Int.eq_ofNat_of_zero_le h0;exact U_ m (by omega)
def Let(z:Str):Prop:=∀c∈cs z,97<=c/\c<=122
theorem CM{x:Str}(h:Let x)(l u:Option Int):Let (Txt.slice x l u):=λc hc=>by
 rw[pf] at hc
 exact h c (List.mem_of_mem_drop (List.mem_of_mem_take hc))
theorem Cp(x:Str)(a:Int):(Txt.slice x none (some a)).length+(Txt.slice x (some a) none).length=x.length:=by
 rw[kj,kj,pf,pf];have h1:=VA (n:=x.length) (d:=x.length) (aE _) (some a);have e:ix x.length 0 (some a)=ix x.length x.length (some a):=rfl;rw[e];have e2:ix x.length 0 none=0:=rfl;have e3:ix x.length x.length none=x.length:=rfl;rw[e2,e3,dh,dh,nO,nO,<-kj];generalize ix x.length x.length (some a)=i at h1⊢
 rw[Nat.sub_zero,Nat.sub_zero,Nat.min_eq_left h1,Nat.min_self,Nat.add_sub_cancel' h1]
theorem zk{x y:Str}(h1:Let x)(h2:Let y):Let (x++y):=λc hc=>by
 rw[dH] at hc
 exact(a8.mp hc).elim (h1 c) (h2 c)
theorem zj{i:Int}(h:i<26):Let (xK i):=λd hd=>by
 have e:d=97+i.toNat:=by simpa [xK,oB] using hd
 omega
theorem wy(a:Int):0<=a%26/\a%26<26:=⟨d0 _ (by decide),dq _ (by decide)⟩
theorem Fs(n:Int):∀j,(yC n j).length=j/\Let (yC n j)
 |0=>⟨rfl,λc hc=>nomatch hc⟩
 |j+1=>by
  have h:=Fs n j;refine⟨?_,zk h.2 (zj (wy _).2)⟩;show(yC n j++xK _).length=j+1;unfold xK;rw[len_one,h.1]
theorem Iw(n:Int):1<=(i7 n).length/\(i7 n).length<=9/\Let (i7 n):=by
 have h:=Fs n (1+n%9).toNat;have m1:=d0 n (show(9:Int)≠0 by decide);have m2:=dq n (show(0:Int)<9 by decide);exact⟨by unfold i7;rw[h.1];omega,by unfold i7;rw[h.1];omega,h.2⟩
theorem Xu{k:Int}(h0:0<=k)(h1:k<600):1<=(xJ k).length/\(xJ k).length<=2/\Let (xJ k):=by
 unfold xJ
 split
 ·exact⟨by unfold xK;rw[len_one];omega,by unfold xK;rw[len_one];exact aE 2,zk (zj (by omega)) (zj (wy _).2)⟩
 ·exact⟨aE 1,ir 1,zj (wy _).2⟩
theorem Lu(n:Int){k:Int}(h0:0<=k)(h1:k<600):Nm (jb n k):=by
 obtain⟨b1,b2,b3⟩:=Iw n;obtain⟨m1,m2,m3⟩:=Xu h0 h1;have l2:=Cp (i7 n) (BX n);exact⟨by unfold jb;rw[a7,a7];omega,by unfold jb;rw[a7,a7];omega,zk (zk (CM b3 _ _) m3) (CM b3 _ _)⟩
theorem Gy{n k k':Int}(h:jb n k=jb n k'):xJ k=xJ k':=by
 have h:=dc cs h;unfold jb at h
 rw[dH,dH,dH,dH] at h
 exact ext (List.append_cancel_left (List.append_cancel_right h))
theorem rK(c:Int){k:Nat}(h:k<=25):Nm (gC c k):=Lu c (by split<;>omega) (by split<;>omega)
theorem Ub{a b:Int}(h:xK a=xK b)(ha:0<=a)(hb:0<=b):a=b:=by
 have h:=dc cs h;unfold xK at h
 rw[oB,oB] at h
 injection h with h
 omega
theorem Eu{k:Int}(h0:0<=k)(h1:k<=25):xJ k=xK k:=by
 unfold xJ;rw[aX (by omega),Int.emod_eq_of_lt h0 (by omega)]
theorem Mz{c:Int}{j k:Nat}(hj:j<=25)(hk:k<=25)(h:gC c j=gC c k):j=k:=by
 have h:=Gy h;rw[Eu (by split<;>omega) (by split<;>omega),Eu (by split<;>omega) (by split<;>omega)] at h
 have h:=Ub h (by split<;>omega) (by split<;>omega)
 split at h<;>omega
theorem MA{c:Int}{j:Nat}{k:Int}(hj:j<=25)(h0:26<=k):gC c j≠jb c k:=λh=>by
 have h:=dc Str.length (Gy h);rw[Eu (by split<;>omega) (by split<;>omega)] at h
 have em:xJ k=xK (k/26)++xK (k%26):=bg (by omega);rw[em] at h
 unfold xK at h
 rw[len_one] at h
 have h:1=1+1:=h;omega
theorem fM:b_ ["_law_cell","_law_k","_law_letters","_law_base","_law_j","_law_at","_law_middle"] ["_law_cell","_law_k"] (bG n9):=⟨rfl,rfl,rfl,by decide+kernel,rfl,by decide+kernel,by decide+kernel⟩
theorem Al{f:aj}{fd:bC}(F:je K "_law_name_by" "_law_name_by" n9 f fd)(T:Txt K mg bh a4 aO aN bF bE a3 aP aI aD aC ar aV bY bw bL bA bM bq a_ br bB aS bX):dJ P w K mg base c8 1 f fd ["_law_cell","_law_k"] iQ:=by
 refine F.ok fM (λvs H Q E h=> ?_) (λdQ A outer s H vs Q E hr h=> ?_)
 ·obtain⟨n,k,rfl,_⟩:=h
  rfl
 ·obtain⟨n,k,rfl,k0,k1,q⟩:=h;have l5:=fo;have m1:=d0 n (show(9:Int)≠0 by decide);have m2:=dq n (show(0:Int)<9 by decide);obtain⟨S0,e0,p1,p2⟩:∃S0:Nat,1+n%9=(S0:Int)/\1<=S0/\S0<=9:=⟨(1+n%9).toNat,by omega,by omega,by omega⟩
  refine⟨_,(av (bS (i:=2) fM.nd U (Or.inl U) cV) (av (bS (i:=3) fM.nd U (Or.inl U) cV) (av (lj eD U (Cz U T.V6 (ag (bV lq a9 (bV fh (pv 0) a9)) aA)) (cR (i:=4) fM.nd U (Or.inl U)) (aR (bS (i:=3) fM.nd U (Or.inl U) (bV bZ (pv 3) (dI AF (pv 2) (bV fh (bV lq (bV iG (pv 0) (bV lq (pv 4) a9)) (bV tK (pv 4) (pv 4))) a9) (λ_ _=>rfl)))))) (av (bS (i:=5) fM.nd U (Or.inl U) (bV fh (bV iG (pv 0) a9) (bV lq (cg fz (by rfl) T.j6 gE (ag (pv 3) aA)) a9))) (av (bS (i:=6) fM.nd U (Or.inl U) (dI AF (pv 2) (bV fh (pv 1) a9) (λ_ _=>rfl))) (av (c9 (bQ qZ (pv 1) a9 (cf _)) (aR (bS (i:=6) fM.nd U (Or.inl U) (bV bZ (dI AF (pv 2) (bV iG (pv 1) a9) (λ_ _=>rfl)) (pv 6)))) b9) (aR (bP (bV bZ (bV bZ (mI DG (pv 3) tH (nJ (pv 5))) (pv 6)) (mI DG (pv 3) (nJ (pv 5)) tH)))))))))), ?_⟩
  refine(vI U (by show(0:Int)<9;decide) ⟨_,_,U,U,_,U,by omega,by omega,C0 (λi σ H'=>∃(v4:Option V),σ=[some (.int n),some (.int k),some (.str (Str.ofString "abcdefghijklmnopqrstuvwxyz")),some (.str (yC n i)),v4,none,none]/\H'=H) ?_ ?_ ?_⟩)
  ·exact⟨none,U,U⟩
  ·rintro i σ H1 hi ⟨v4,rfl,rfl⟩;have hi':(i:Int)<9:=by omega
   have ib:Builtin.Int.intBits (0+(i:Int))<=64:=rm (by omega) (by omega);have ec:=KJ (i:=(n/(0+(i:Int)+3)+(0+(i:Int))*(0+(i:Int)))%26) (wy _).1 (wy _).2;have hl:=(Fs n i).1;refine⟨_,U,_,U,_,U,_,U,_,_,U,U,_,_,U,U,⟨by omega,by omega⟩,_,U,_,U,_,_,U,U,IntMulOk.of_left ib,_,_,U,U,_,_,U,U,(by show(0:Int)<26;decide),_,_,_,U,U, ?_,ec,_,_,U,U, ?_, ?_⟩
   ·have:=wy (n/(0+(i:Int)+3)+(0+(i:Int))*(0+(i:Int)));rw[Fw];omega
   ·show(yC n i).length+1<=sizeLine;omega
   ·exact⟨_,U,U⟩
  ·rintro σ H1 ⟨v4,rfl,rfl⟩;have eb:yC n (1+n%9).toNat=i7 n:=rfl;rw[eb];obtain⟨x1,x2,hc⟩:=Iw n;have lx:(0:Int)<((i7 n).length:Int)+1:=by omega
   have ec:=KJ (i:=k%26) (wy _).1 (wy _).2;have l2:=Cp (i7 n) (BX n);have fin:=q H1 (bU.refl _);unfold jb at fin
   refine(vI U ⟨by decide,by decide⟩ ⟨_,U,_,_,U,⟨by omega,rfl⟩,_,_,U,U,_,_,U,U,lx, ?_⟩);have mk:=wy k;refine⟨_,U,vI U (by show(0:Int)<26;decide) ⟨_,_,_,U,U,by rw[Fw];omega,ec, ?_⟩⟩
   refine⟨_,U,_,_,U,U,_,U,gW (λe=> ?_) (λe=> ?_)⟩
   ·have e:25<k:=ba e;have ec':=KJ (i:=k/26) (by omega) (by omega);have em:xJ k=xK (k/26)++xK (k%26):=bg e;have lm:(xJ k).length=2:=by rw[em];unfold xK;rw[len_one];rfl
    rw[em] at lm
    rw[em] at fin
    refine⟨_,U,vI U ⟨by decide,by decide⟩ ⟨_,_,_,U,U,by rw[Fw];omega,ec',_,rfl,_,_,rfl,rfl,(by show 1+1<=sizeLine;omega), ?_⟩⟩
    refine⟨_,U,_,U,_,U,i7 n,U,by omega,_,rfl,_,_,rfl,rfl, ?_,_,rfl,_,rfl,_,rfl,i7 n,rfl,by omega,_,_,rfl,rfl, ?_,fin⟩
    ·show _+(xK (k/26)++xK (k%26)).length<=_;rw[lm];show(Txt.slice (i7 n) none (some (BX n))).length+2<=_;omega
    ·show(Txt.slice (i7 n) none (some (BX n))++(xK (k/26)++xK (k%26))).length+(Txt.slice (i7 n) (some (BX n)) none).length<=_;rw[a7,lm];omega
   ·have em:xJ k=xK (k%26):=aX (λz=>e (bf z));rw[em] at fin
    refine⟨_,U,_,U,_,U,i7 n,U,by omega,_,rfl,_,_,rfl,rfl, ?_,_,rfl,_,rfl,_,rfl,i7 n,rfl,by omega,_,_,rfl,rfl, ?_,fin⟩
    ·show(Txt.slice (i7 n) none (some (BX n))).length+1<=_;omega
    ·show(Txt.slice (i7 n) none (some (BX n))++xK (k%26)).length+(Txt.slice (i7 n) (some (BX n)) none).length<=_;unfold xK;rw[len_one];omega
theorem iU:b_ ["book","name","wanted","series"] ["book","name"] (bG lg):=⟨rfl,rfl,rfl,by decide+kernel,rfl,by decide+kernel,by decide+kernel⟩
theorem xG{f:aj}{fd:bC}(F:je K "owning_series" "owning_series" lg f fd)(T:Txt K mg bh a4 aO aN bF bE a3 aP aI aD aC ar aV bY bw bL bA bM bq a_ br bB aS bX):dJ P w K mg base c8 1 f fd ["book","name"] (j3 aI aD aC ar):=by
 refine F.ok iU (λvs H Q E h=> ?_) (λdQ A outer s H vs Q E hr h=> ?_)
 ·obtain⟨p,n,rs,r0,rfl,_⟩:=h
  rfl
 ·obtain⟨p,n,rs,r0,rfl,⟨ds,hp,pr⟩,lr,ow,q⟩:=h;have le:=cA pr;refine⟨_,(av (bS (i:=2) iU.nd U (Or.inl U) (pv 1)) (aR (lj eD U (WW (K:=K) U (by rfl) T.K7 (pv 0)) (cR (i:=3) iU.nd U (Or.inl U)) (av (c9 (PW.pt (pw_and (bQ gb (dI jc (pv 3) a9 (λ_ _=>rfl)) (pv 2) (cf _)) (pw_and1 (bQ we (dI jc (pv 3) a9 (λ_ _=>rfl)) gN (cf _))))) (aR (bP (pv 3))) b9) (aR (c9 (bQ gb (dI jc (pv 3) a9 (λ_ _=>rfl)) (pv 2) (cf _)) (aR (bS (i:=2) iU.nd U (Or.inl U) (dI jc (pv 3) a9 (λ_ _=>rfl)))) b9)))))), ?_⟩
  refine⟨_,U,_,U,p,_,U,cK.of hp,AL (J:=Itv K p (ds.map V.ref)) (n:=ds.length) (λi σ H'=>∃(v3:Option V) (w:Option Str),σ=[some (.ref p),some (.str n),some (oS w),v3]/\H'=H/\wc (rs.reverse.drop i) w=some r0) ?_ ?_ ?_ ?_⟩
  ·exact⟨none,some n,U,U,ow⟩
  ·rintro i σ H1 hi ⟨v3,w,rfl,rfl,eq⟩;exact⟨cK.of hp,by rw[ao];exact hi⟩
  ·rintro σ H1 ⟨v3,w,rfl,rfl,eq⟩;rw[dW (by rw[Bm];omega)] at eq
   cases eq
  ·rintro i x σ H1 H2 hi ⟨v3,w,rfl,rfl,eq⟩ ⟨rfl,hx⟩;rw[ao] at hx
   obtain⟨d,rfl,ed⟩:=Ld hx;obtain⟨r,er,ZW⟩:=xE pr _ d ed;obtain⟨v,sd,st⟩:=id ZW;rw[le] at er
   rw[WK er (by omega)] at eq
   have eq:(if some r.nm=w then(if r.tm.isSome=true then some r else wc (rs.reverse.drop (i+1)) r.el) else wc (rs.reverse.drop (i+1)) w)=some r0:=eq;refine(GX U (jU.of sd) U ⟨_,U,DJ _ _,_,U,gW (λe=> ?_) (λe=> ?_)⟩)
   ·have e':=Lr.mp (ba e);rw[bg e'] at eq
    cases ht:r.tm with
    |none=>
     rw[ht] at eq st
     obtain rfl:v=.fR:=st;refine(GX U (jU.of sd) U ⟨U,_,U,pF U ?_⟩);exact(GX U (jU.of sd) U ⟨_,U,DJ _ _,_,U,EM (Lr.mpr e') (GX U (jU.of sd) U ⟨_,r.el,U,U,eq⟩)⟩)
    |some t=>
     rw[ht,bg (show(some t).isSome=true from rfl)] at eq
     rw[ht] at st
     obtain⟨a,rfl,tm⟩:=st;obtain rfl:r=r0:=bR eq;exact(GX U (jU.of sd) U ⟨U,_,U,GY (λz=>nomatch z) ⟨_,U,q d _ (bU.refl _) ZW⟩⟩)
   ·have e':¬some r.nm=w:=λz=>e (bf (Lr.mpr z));rw[aX e'] at eq
    exact ic (GX U (jU.of sd) U ⟨_,U,DJ _ _,_,U,jT (λz=>e' (Lr.mp z)) ⟨_,w,U,U,eq⟩⟩)
theorem Jk:b_ ["book","name"] ["book","name"] (bG xw):=⟨rfl,rfl,rfl,by decide+kernel,rfl,by decide+kernel,by decide+kernel⟩
theorem JE{f:aj}{fd:bC}(F:je K "term_of" "term_of" xw f fd)(T:Txt K mg bh a4 aO aN bF bE a3 aP aI aD aC ar aV bY bw bL bA bM bq a_ br bB aS bX)(lB:fi P w K mg base c8 1 "owning_series" ["book","name"] (j3 aI aD aC ar)):dJ P w K mg base c8 2 f fd ["book","name"] (pP aI aD aC ar):=by
 refine F.ok Jk (λvs H Q E h=> ?_) (λdQ A outer s H vs Q E hr h=> ?_)
 ·obtain⟨p,n,rs,r,t,rfl,_⟩:=h
  rfl
 ·obtain⟨p,n,rs,r,t,rfl,bat,lr,ow,ht,q⟩:=h;refine⟨_,(aR (bP (dI jc (cG lB (hr.mono (by omega)) U cq (ag (pv 0) (ag (pv 1) aA))) a9 (λ_ _=>rfl)))), ?_⟩;refine⟨_,U,_,U,p,n,rs,r,U,bat,lr,ow,λd H1 s1 ⟨v,sd,st⟩=> ?_⟩;rw[ht] at st
  obtain⟨a,rfl,tm⟩:=st;exact⟨d,_,_,_,U,U,jU.of sd,U,q a H1 s1 tm⟩
theorem SN(m:Nat):shown (360*m)=num m++Str.ofString "y":=by
 unfold shown;rw[bg (by omega),Nat.mul_div_cancel_left _ (by decide)]
theorem SO{m:Nat}(h:1<=m/\m<=11):shown (30*m)=num m++Str.ofString "m":=by
 unfold shown;rw[aX (by omega),bg (by omega),Nat.mul_div_cancel_left _ (by decide)]
theorem SQ{m:Nat}(h:1<=m/\m<=29):shown m=num m++Str.ofString "d":=by
 unfold shown;rw[aX (by omega),aX (by omega)]
theorem Qh{z z':Str}{d:Int}(h:Tr.pA (.after z d))(hz:Nm z'):Tr.pA (.after z' d):=⟨hz,h.2⟩
theorem Za7:(3240:Nat)<10^40:=by decide+kernel
theorem JM{z:Str}{d:Int}(h:Tr.pA (.after z d)):0<=d/\d<10^40/\d.toNat<10^40:=by
 obtain⟨_,m,m1,m2,e⟩:=h;have b:=Za7;rw[Fq];generalize (10^40:Nat)=B at b⊢
 rcases e with rfl|rfl|rfl<;>omega
theorem iA:∀{t:Tr},t.pA->t.good
 | .never,_=>trivial
 | .after k d,h=>⟨h.1,(JM h).1,(JM h).2.1⟩
 | .later x y,h=>⟨iA h.1,iA h.2⟩
 | .cO x y,h=>⟨iA h.1,iA h.2⟩
theorem Xm:Nm (Str.ofString "a"):=⟨by decide,by decide,by decide⟩
theorem ymd{j:Int}(h0:0<=j)(h1:j<3):∃c,A2 (Str.ofString "ymd").cps.toList j=some c/\((⟨#[c]⟩:Str)=Str.ofString "y"\/(⟨#[c]⟩:Str)=Str.ofString "m"\/(⟨#[c]⟩:Str)=Str.ofString "d"):=by
 have:j=0\/j=1\/j=2:=by omega
 rcases this with rfl|rfl|rfl
 ·exact⟨121,by decide+kernel,.inl (by decide)⟩
 ·exact⟨109,by decide+kernel,.inr (.inl (by decide))⟩
 ·exact⟨100,by decide+kernel,.inr (.inr (by decide))⟩
theorem Sx:(Str.ofString "ymd").length=3:=by decide+kernel
theorem Bw:b_ ["_law_number"] ["_law_number"] (bG qe):=⟨rfl,rfl,rfl,by decide+kernel,rfl,by decide+kernel,by decide+kernel⟩
theorem BF{f:aj}{fd:bC}(F:je K "_law_length" "_law_length" qe f fd)(T:Txt K mg bh a4 aO aN bF bE a3 aP aI aD aC ar aV bY bw bL bA bM bq a_ br bB aS bX):dJ P w K mg base c8 1 f fd ["_law_number"] nR:=by
 refine F.ok Bw (λvs H Q E h=> ?_) (λdQ A outer s H vs Q E hr h=> ?_)
 ·obtain⟨n,rfl,_⟩:=h
  rfl
 ·obtain⟨n,rfl,q⟩:=h;have l5:=fo;have m1:=d0 n (show(9:Int)≠0 by decide);have m2:=dq n (show(0:Int)<9 by decide);obtain⟨M,eM,p1,p2⟩:∃M:Nat,1+n%9=(M:Int)/\1<=M/\M<=9:=⟨(1+n%9).toNat,by omega,by omega,by omega⟩
  have small:M<10^100:=rC p2 (by decide+kernel);have ln:=JL small;have q:∀d:Nat,Tr.pA (.after (Str.ofString "a") (d:Int))->Q (.str (shown d)) H:=λd h=>by rw[<-uW];exact q (d:Int) H h (bU.refl H)
  have j0:=d0 (n/9) (show(3:Int)≠0 by decide);have j1:=dq (n/9) (show(0:Int)<3 by decide);obtain⟨c,ec,hc⟩:=ymd j0 j1;refine⟨_,(aR (bP (bV bZ (g_ Fb (by rfl) T.Z0i KA (ag (bV lq a9 (bV fh (pv 0) a9)) aA)) (dI AF cV (bV fh (bV iG (pv 0) a9) a9) (λ_ _=>rfl))))), ?_⟩;refine(vI U (by show(0:Int)<9;decide) ⟨_,_,U,U,(M:Int),(by show[V.int _]=_;rw[eM]),Xz small, ?_⟩)
  refine(vI U ⟨by decide,by decide⟩ ⟨_,_,U,U,(by show(0:Int)<3;decide),_,_,c,U,U,by rw[Sx];omega,ec,_,_,rfl,rfl,(by show(num M).length+1<=sizeLine;omega), ?_⟩)
  show Q (.str (num M++⟨#[c]⟩)) H;rcases hc with e|e|e
  ·rw[e,<-SN];exact q _ ⟨Xm,M,p1,p2,.inl U⟩
  ·rw[e,<-SO (by omega)];exact q _ ⟨Xm,M,p1,p2,.inr (.inl U)⟩
  ·rw[e,<-SQ (by omega)];exact q _ ⟨Xm,M,p1,p2,.inr (.inr U)⟩
theorem Bv:b_ ["_law_number","_law_size","_law_names_by"] ["_law_number","_law_size","_law_names_by"] (bG qd):=⟨rfl,rfl,rfl,by decide+kernel,rfl,by decide+kernel,by decide+kernel⟩
theorem BE{f:aj}{fd:bC}(F:je K "_law_onward" "_law_onward" qd f fd)(T:Txt K mg bh a4 aO aN bF bE a3 aP aI aD aC ar aV bY bw bL bA bM bq a_ br bB aS bX):dJ P w K mg base c8 1 f fd ["_law_number","_law_size","_law_names_by"] jo:=by
 refine F.ok Bv (λvs H Q E h=> ?_) (λdQ A outer s H vs Q E hr h=> ?_)
 ·obtain⟨n,s,c,rfl,_⟩:=h
  rfl
 ·obtain⟨n,s,c,rfl,s0,s1,q⟩:=h;refine⟨_,(av (c9 (bQ gb (bV fh (pv 2) a9) a9 (cf _)) (aR (bP (bV iG (pv 0) (pv 1)))) b9) (aR (bP (bV fh (bV lq (bV tK (pv 0) a9) a9) a9)))), ?_⟩;refine(vI U (by show(0:Int)<2;decide) ⟨U,_,U,gW (λ_=> ?_) (λ_=> ?_)⟩)
  ·exact⟨_,U,_,U,_,_,U,U,⟨by omega,by omega⟩,q _ H (bU.refl H)⟩
  ·exact(vI U (oX (rm (by decide) (by decide))) ⟨_,_,U,U,_,_,U,U,(by show(0:Int)<2147483647;decide),q _ H (bU.refl H)⟩)
theorem VY{c:Nat}{w v:List (List Nat)}(h:w≠[]):J c (J c w::v)=J c (w++v):=by
 cases v with
 |nil=>rw[cE];rfl
 |cons x v=>rw[IC h (by simp)];rfl
theorem RY{c:Nat}{w v:List (List Nat)}(h:w≠[]):∀us:List (List Nat),J c (us++J c w::v)=J c (us++(w++v))
 |[]=>VY h
 |[u]=>by
  cases w with
  |nil=>exact absurd U h
  |cons x w=>
   show u++c::J c (J c (x::w)::v)=u++c::J c (x::w++v);rw[VY h]
 |u::u2::us=>by
  show u++c::J c (u2::us++J c w::v)=u++c::J c (u2::us++(w++v));rw[RY h (u2::us)]
def KQ(ps:List Str)(l k:Nat):Prop:=∀ts:List Tr,ts.length=l->(∀t∈ts,t.pA)->∃t:Tr,t.pA/\t.cnt=k+(ts.map Tr.cnt).sum/\J 32 (ps.map cs++ts.map λt=>cs (t.tC (-1)))=cs (t.tC (-1))
theorem NS:KQ [] 1 0:=λts hl g=>by
 cases ts with
 |nil=>cases hl
 |cons t ts=>
  cases ts with
  |nil=>exact⟨t,g t (aB ..),by simp,rfl⟩
  |cons _ _=>simp at hl
theorem Ys(w:Str)(a b:Tr):cs (w++Str.ofString " "++a.tC (-1)++Str.ofString " "++b.tC (-1))=J 32 [cs w,cs (a.tC (-1)),cs (b.tC (-1))]:=by
 rw[dH,dH,dH,dH,blank];show cs w++[32]++_++[32]++_=cs w++32::(_++32::cs (b.tC (-1)));simp
theorem C2{ps:List Str}{l k:Nat}(h:KQ ps (l+1) k){w:Str}(mk:Tr->Tr->Tr)(e1:∀a b,(mk a b).pA↔a.pA/\b.pA)(e2:∀a b,(mk a b).cnt=a.cnt+b.cnt)(e3:∀a b,(mk a b).tC (-1)=w++Str.ofString " "++a.tC (-1)++Str.ofString " "++b.tC (-1)):KQ (ps++[w]) (l+2) k:=λts hl g=>by
 match ts,hl,g with
 |a::b::ts,hl,g=>
  obtain⟨t,g1,c1,j1⟩:=h (mk a b::ts) (by simp only [aZ] at hl⊢;omega) λx hx=>by
   obtain rfl|hx:=aJ.mp hx
   ·exact(e1 a b).mpr ⟨g a (aB ..),g b (aF _ (aB ..))⟩
   ·exact g x (aF _ (aF _ hx))
  refine⟨t,g1, ?_, ?_⟩
  ·rw[c1];simp only [aT,uG,e2];omega
  ·rw[aT] at j1
   rw[e3,Ys,RY (by simp)] at j1
   rw[<-j1];simp
theorem C3{ps:List Str}{l k:Nat}(h:KQ ps (l+1) k){w:Str}{t0:Tr}(g0:t0.pA)(c0:t0.cnt=1)(e:t0.tC (-1)=w):KQ (ps++[w]) l (k+1):=λts hl g=>by
 obtain⟨t,g1,c1,j1⟩:=h (t0::ts) (by rw[aZ,hl]) λx hx=>by
  obtain rfl|hx:=aJ.mp hx
  ·exact g0
  ·exact g x hx
 refine⟨t,g1, ?_, ?_⟩
 ·rw[c1,aT,uG,c0];omega
 ·rw[<-j1,aT,e];simp
theorem two_words{j:Int}(h0:0<=j)(h1:j<2):∃w,A2 [V.str (Str.ofString "later"),V.str (Str.ofString "earlier")] j=some (.str w)/\(w=Str.ofString "later"\/w=Str.ofString "earlier"):=by
 have:j=0\/j=1:=by omega
 rcases this with rfl|rfl
 ·exact⟨_,U,.inl U⟩
 ·exact⟨_,U,.inr U⟩
theorem vI0{g:Int->Int->V}{i:Nat}{σ:L2.St}{H:Hp}{Q:VK}{a k:Int}(e:σ[i]? =some (some (.int a)))(q:Q (g a k) H):OY (Ti g) (yH i) (tC (.int k)) σ H Q:=⟨_,e,a,k,rfl,rfl,q⟩
theorem vIe{g:Int->Int->V}{i:Nat}{σ:L2.St}{H:Hp}{Q:VK}{a k:Int}{v:V}(e:σ[i]? =some (some (.int a)))(ev:g a k=v)(q:Q v H):OY (Ti g) (yH i) (tC (.int k)) σ H Q:=⟨_,e,a,k,rfl,rfl,ev▸q⟩
theorem c6:b_ ["_law_number","_law_names_by","_law_most","_law_words","_law_left","_law_joints","_law_pick","_law_kind","_law_length_here","_law_joint"] ["_law_number","_law_names_by","_law_most"] (bG lh):=⟨rfl,rfl,rfl,by decide+kernel,rfl,by decide+kernel,by decide+kernel⟩
theorem xH{f:aj}{fd:bC}(F:je K "_law_term_text" "_law_term_text" lh f fd)(T:Txt K mg bh a4 aO aN bF bE a3 aP aI aD aC ar aV bY bw bL bA bM bq a_ br bB aS bX)(qF:fi P w K mg base c8 1 "_law_length" ["_law_number"] nR)(e_:fi P w K mg base c8 1 "_law_name_by" ["_law_cell","_law_k"] iQ)(fF:fi P w K mg base c8 1 "_law_onward" ["_law_number","_law_size","_law_names_by"] jo):dJ P w K mg base c8 2 f fd ["_law_number","_law_names_by","_law_most"] iT:=by
 refine F.ok c6 (λvs H Q E h=> ?_) (λdQ A outer s H vs Q E hr h=> ?_)
 ·obtain⟨n,c,mo,rfl,_⟩:=h
  rfl
 ·obtain⟨n0,c,mo,rfl,hmo,q⟩:=h;have l5:=fo;refine⟨_,(av (bS (i:=3) c6.nd U (Or.inl U) (fC aA)) (av (bS (i:=4) c6.nd U (Or.inl U) a9) (av (bS (i:=5) c6.nd U (Or.inl U) a9) (av (Gj eD (bQ qZ (pv 4) a9 (cf _)) (av (bS (i:=6) c6.nd U (Or.inl U) (bV fh (pv 0) a9)) (av (bS (i:=7) c6.nd U (Or.inl U) (cG e_ (hr.mono (by omega)) U cq (ag (pv 1) (ag (bV lq a9 (bV fh (bV iG (pv 0) a9) a9)) aA)))) (av (bS (i:=8) c6.nd U (Or.inl U) (cG qF (hr.mono (by omega)) U cq (ag (bV iG (pv 0) a9) aA))) (av (bS (i:=9) c6.nd U (Or.inl U) (dI dY (fC (ag cV (ag cV aA))) (bV fh (bV iG (pv 0) a9) a9) (λ_ _=>rfl))) (av (bS (i:=0) c6.nd U (Or.inl U) (cG fF (hr.mono (by omega)) U cq (ag (pv 0) (ag a9 (ag (pv 1) aA))))) (aR (c9 (PW.pt (pw_and (bQ CB (pv 6) a9 (cf _)) (pw_and1 (bQ CB (pv 5) (pv 2) (cf _))))) (av (gY (i6 cH cT cS gG (pv 3) (ag (pv 9) aA))) (av (bS (i:=5) c6.nd U (Or.inl U) (bV lq (pv 5) a9)) (aR (bS (i:=4) c6.nd U (Or.inl U) (bV lq (pv 4) a9))))) (aR (c9 (bQ gb (pv 6) a9 (cf _)) (av (gY (i6 cH cT cS gG (pv 3) (ag cV aA))) (aR (bS (i:=4) c6.nd U (Or.inl U) (bV Ea (pv 4) a9)))) (av (gY (i6 cH cT cS gG (pv 3) (ag (bV bZ (bV bZ (bV bZ cV (pv 7)) cV) (pv 8)) aA))) (aR (bS (i:=4) c6.nd U (Or.inl U) (bV Ea (pv 4) a9)))))))))))))) (aR (bP (ja (ag (i6 dE nB nA tP cV (ag (pv 3) aA)) (ag (pv 0) aA))))))))), ?_⟩
  refine⟨bz _,λP hP=> ?_⟩;refine⟨λm σ H'=>∃(n:Int) (v6 v7 v8 v9:Option V) (ps:List Str) (l j k:Nat),σ=[some (.int n),some (.int c),some (.int (mo:Int)),some (.ref P),some (.int (l:Int)),some (.int (j:Int)),v6,v7,v8,v9]/\H' P=some (.lst (ps.map V.str))/\(∀b u,b≠P->H b=some u->H' b=some u)/\KQ ps l k/\k+l=j+1/\j<=mo/\ps.length=j+k/\(∀p∈ps,p.length<=80)/\m=2*(mo-j)+l,⟨_,n0,none,none,none,none,[],1,0,0,U,ay,λb u nb e=>by rw[aY nb];exact e,NS,U,bz _,U,(λp hp=>nomatch hp),U⟩, ?_⟩
  rintro m σ H1 ⟨n,v6,v7,v8,v9,ps,l,j,k,rfl,hp,fr,fl,ek,hj,lp,sp,rfl⟩;have s1:bU H H1:=λb u e=>fr b u (bI e hP) e;refine⟨_,U,_,_,U,U,_,U,gW (λe=> ?_) (λe=> ?_)⟩
  ·have e:(0:Int)<l:=ba e;obtain⟨l',rfl⟩:∃l',l=l'+1:=⟨l-1,by omega⟩
   refine⟨_,λ_ _ h=>h, ?_⟩;have k0:=d0 (n/9) (show(6:Int)≠0 by decide);have k1:=dq (n/9) (show(0:Int)<6 by decide);obtain⟨w,ew,hw⟩:=two_words (d0 (n/9) (show(2:Int)≠0 by decide)) (dq (n/9) (by decide));refine(vI U (by show(0:Int)<9;decide) ?_)
   refine⟨_,U,vI U ⟨by decide,by decide⟩ ⟨_,_,U,U,(by show(0:Int)<6;decide),_,_,U,U,c,_,U,by omega,by omega,λH2 s2=> ?_⟩⟩
   have nz:=Lu c (k:=60+n/9%6) (by omega) (by omega);generalize jb c (60+n/9%6)=z at nz⊢
   refine(vI U ⟨by decide,by decide⟩ ⟨_,U,λd H3 hd s3=> ?_⟩);refine⟨show 2<=sizeLine from sl,λL hL=> ?_⟩;refine(vI U ⟨by decide,by decide⟩ ⟨_,_,U,U,(by show(0:Int)<2;decide),L,_,_,_,U,U,cK.of ay,ew, ?_⟩)
   refine⟨_,U,_,U,n,_,c,U,by decide,by decide,λn2 H4 s4=> ?_⟩;have YS:=(s2.trans s3).trans ((aU hL).trans s4);have Y_:=YS _ _ hp;have fr4:∀b u,b≠P->H b=some u->H4 b=some u:=λb u nb e=>YS _ _ (fr b u nb e);have l6:(ps.map V.str).length<sizeLine:=by rw[ao];omega
   have add:∀(w:Str),upd H4 P (.lst (ps.map V.str++[.str w])) P=some (.lst ((ps++[w]).map V.str)):=λw=>by rw[ay,bN];rfl
   have fr2:∀(w:Str) b u,b≠P->H b=some u->upd H4 P (.lst (ps.map V.str++[.str w])) b=some u:=λw b u nb e=>by rw[aY nb];exact fr4 b u nb e
   have sz:∀{w:Str},w.length<=80->∀p∈ps++[w],p.length<=80:=λ{w} h p hp=>by
    rcases a8.mp hp with old|new
    ·exact sp p old
    ·have:p=w:=by simpa using new
     rw[this];exact h
   have ls:∀w:Str,(ps++[w]).length=ps.length+1:=λw=>by rw[bb];rfl
   refine(λ(rest:¬(n%9<5/\(j:Int)<mo)->_)=>⟨_,U,_,_,U,U,_,U,gW (λe1=>⟨_,U,_,U,_,_,U,U,_,U,gW (λe2=> ?Z0S) (λe2=>rest λz=>e2 (bf z.2))⟩) (λe1=>ic (rest λz=>e1 (bf z.1)))⟩) ?rest
   case Z0S=>
    have e2:(j:Int)<mo:=ba e2;have fl2:KQ (ps++[w]) (l'+2) k:=by
     rcases hw with rfl|rfl
     ·exact C2 fl Tr.later (λ_ _=>Iff.rfl) (λ_ _=>rfl) λ_ _=>rfl
     ·exact C2 fl Tr.cO (λ_ _=>Iff.rfl) (λ_ _=>rfl) λ_ _=>rfl
    have lw:w.length<=80:=by rcases hw with rfl|rfl<;>decide+kernel
    refine⟨_,U,.inl ⟨U,_,cK.of Y_⟩,_,U,P,_,_,U,U,Y_,l6, ?_⟩;refine(vI0 U (vI0 U ?_));exact⟨_,(by show 2*(mo-(j+1))+(l'+2)<2*(mo-j)+(l'+1);omega),n2,_,_,_,_,ps++[w],l'+2,j+1,k,U,add _,fr2 _,fl2,by omega,by omega,by rw[ls];omega,sz lw,rfl⟩
   case rest=>
    intro hN;refine(vEq U U (gW (λe=> ?_) (λe=> ?_)))
    ·refine⟨_,U,.inl ⟨U,_,cK.of Y_⟩,P,_,_,U,U,Y_,l6, ?_⟩;refine(vIe (v:=.int (l':Int)) U (by show V.int _=V.int _;congr 1;omega) ?_)
     exact⟨_,eh (2*(mo-j)+l'),n2,_,_,_,_,ps++[Str.ofString "never"],l',j,k+1,U,add _,fr2 _,C3 fl (t0:=.never) trivial U U,by omega,hj,by rw[ls];omega,sz (by decide+kernel),rfl⟩
    ·have lz:=nz.2.1;have ld:=GP (JM hd).2.2 (-1);have a6:(Str.ofString "after ").length=6:=by decide+kernel
     refine⟨_,U,.inl ⟨U,_,cK.of Y_⟩,_,U,_,_,U,U,(by rw[a6];omega),_,_,U,U,(by rw[a7,a6,IF];omega),_,U,_,_,U,U,(by rw[a7,a7,a6,IF];omega),P,_,_,U,U,Y_,l6, ?_⟩
     refine(vIe (v:=.int (l':Int)) U (by show V.int _=V.int _;congr 1;omega) ?_)
     exact⟨_,eh (2*(mo-j)+l'),n2,_,_,_,_,ps++[Str.ofString "after "++z++Str.ofString " "++uX d.toNat (-1)],l',j,k+1,U,add _,fr2 _,C3 fl (t0:=.after z d) (Qh hd nz) U U,by omega,hj,by rw[ls];omega,sz (by rw[a7,a7,a7,a6,IF];omega),rfl⟩
  ·have e:¬(0:Int)<l:=λz=>e (bf z);obtain rfl:l=0:=by omega
   obtain⟨t,gt,ct,jt⟩:=fl [] rfl (λt ht=>nomatch ht);have et:Txt.join (Str.ofString " ") ps=t.tC (-1):=by
    refine ext ?_;rw[Us]
    simpa using jt
   refine⟨U,_,U,_,P,ps,U,U,cK.of hp, ?_,_,U,show 2<=sizeLine from sl,λp Kh=> ?_⟩
   ·have z:=DB (λp:Str=>p.length) 80 ps sp;rw[IF];omega
   ·rw[et];refine q t n p _ gt ?_ (s1.trans (aU Kh)) ay;rw[ct];simp;omega
def yf(c:Nat):Nat:=if c=121 then 109 else c
theorem Vj{p:List Nat}(h:121∉p):p.map yf=p:=by
 induction p with
 |nil=>rfl
 |cons x p ih=>
  rw[aT,ih λz=>h (aF _ z)];unfold yf;rw[aX λz=>h (by rw[z];exact aB ..)]
theorem Zbg:∀ps:List (List Nat),(∀p∈ps,121∉p)->(J 121 ps).map yf=J 109 ps
 |[],_=>rfl
 |[p],h=>Vj (h p (aB ..))
 |p::q::r,h=>by
  show(p++121::J 121 (q::r)).map yf=p++109::J 109 (q::r);rw[bN,aT,Vj (h p (aB ..)),Zbg (q::r) λx hx=>h x (aF _ hx)]
  rfl
theorem Js(x:Str):cs (Txt.replace x (Str.ofString "y") (Str.ofString "m"))=(cs x).map yf:=by
 have h:=Zbg ((Txt.split x ⟨#[121]⟩).map cs) λp hp=>by
  obtain⟨w,hw,rfl⟩:=a5.mp hp;exact StrLaws.split_free x 121 w hw
 rw[<-qB,<-qB,Ml] at h
 rw[Zau,XB,StrLaws.replace_one,h]
theorem WA:∀m,m<10->1<=m->(cs (shown (360*m))).map yf=cs (shown (30*m))/\(cs (shown (30*m))).map yf=cs (shown (30*m))/\(cs (shown m)).map yf=cs (shown m):=by decide+kernel
theorem ZS{k:Str}(h:Nm k):Nm (Txt.replace k (Str.ofString "y") (Str.ofString "m")):=by
 have e:=Js k;have l:=dc List.length e;rw[ao,<-kj,<-kj] at l
 refine⟨by rw[l];exact h.1,by rw[l];exact h.2.1,λc hc=> ?_⟩
 rw[e] at hc
 obtain⟨d,hd,rfl⟩:=a5.mp hc;have:=h.2.2 d hd;unfold yf
 split<;>omega
theorem vM:∀{t:Tr},t.pA->∃u:Tr,u.pA/\u.cnt=t.cnt/\cs (u.tC (-1))=(cs (t.tC (-1))).map yf
 | .never,_=>⟨.never,trivial,rfl,by decide+kernel⟩
 | .after k d,⟨hk,m,m1,m2,e⟩=>by
  obtain⟨w1,w2,w3⟩:=WA m (by omega) m1;obtain⟨d',hd,ed⟩:∃d':Nat,(∃i:Nat,1<=i/\i<=9/\((d':Int)=((360*i:Nat):Int)\/(d':Int)=((30*i:Nat):Int)\/(d':Int)=(i:Int)))/\(cs (shown d.toNat)).map yf=cs (shown d'):=by
   rcases e with rfl|rfl|rfl
   ·exact⟨30*m,⟨m,m1,m2,.inr (.inl U)⟩,w1⟩
   ·exact⟨30*m,⟨m,m1,m2,.inr (.inl U)⟩,w2⟩
   ·exact⟨m,⟨m,m1,m2,.inr (.inr U)⟩,w3⟩
  refine⟨.after _ (d':Int),⟨ZS hk,hd⟩,U, ?_⟩;show cs (Str.ofString "after "++_++Str.ofString " "++uX d' (-1))=(cs (Str.ofString "after "++k++Str.ofString " "++uX d.toNat (-1))).map yf;rw[uW,uW];simp only [dH,bN,Js,ed];rw[show(cs (Str.ofString "after ")).map yf=cs (Str.ofString "after ") by decide+kernel,show(cs (Str.ofString " ")).map yf=cs (Str.ofString " ") by decide+kernel]
 | .later x y,⟨h1,h2⟩=>by
  obtain⟨u,n1,c1,e1⟩:=vM h1;obtain⟨v,n2,c2,e2⟩:=vM h2;refine⟨.later u v,⟨n1,n2⟩,by show u.cnt+v.cnt=x.cnt+y.cnt;omega, ?_⟩
  show cs (Str.ofString "later"++Str.ofString " "++u.tC (-1)++Str.ofString " "++v.tC (-1))=(cs (Str.ofString "later"++Str.ofString " "++x.tC (-1)++Str.ofString " "++y.tC (-1))).map yf;simp only [dH,bN,e1,e2];rw[show(cs (Str.ofString "later")).map yf=cs (Str.ofString "later") by decide+kernel,show(cs (Str.ofString " ")).map yf=cs (Str.ofString " ") by decide+kernel]
 | .cO x y,⟨h1,h2⟩=>by
  obtain⟨u,n1,c1,e1⟩:=vM h1;obtain⟨v,n2,c2,e2⟩:=vM h2;refine⟨.cO u v,⟨n1,n2⟩,by show u.cnt+v.cnt=x.cnt+y.cnt;omega, ?_⟩
  show cs (Str.ofString "earlier"++Str.ofString " "++u.tC (-1)++Str.ofString " "++v.tC (-1))=(cs (Str.ofString "earlier"++Str.ofString " "++x.tC (-1)++Str.ofString " "++y.tC (-1))).map yf;simp only [dH,bN,e1,e2];rw[show(cs (Str.ofString "earlier")).map yf=cs (Str.ofString "earlier") by decide+kernel,show(cs (Str.ofString " ")).map yf=cs (Str.ofString " ") by decide+kernel]
theorem la_:Str.ofString "later "=Str.ofString "later"++Str.ofString " ":=by decide+kernel
theorem ea_:Str.ofString "earlier "=Str.ofString "earlier"++Str.ofString " ":=by decide+kernel
theorem ZdM:cs (Str.ofString " later ")=cs (Str.ofString " ")++(cs (Str.ofString "later")++cs (Str.ofString " ")):=by decide+kernel
theorem jN:b_ ["_law_text","_law_number","_law_names_by","_law_way"] ["_law_text","_law_number","_law_names_by"] (bG ke):=⟨rfl,rfl,rfl,by decide+kernel,rfl,by decide+kernel,by decide+kernel⟩
theorem wj{f:aj}{fd:bC}(F:je K "_law_other_text" "_law_other_text" ke f fd)(T:Txt K mg bh a4 aO aN bF bE a3 aP aI aD aC ar aV bY bw bL bA bM bq a_ br bB aS bX)(fF:fi P w K mg base c8 1 "_law_onward" ["_law_number","_law_size","_law_names_by"] jo)(fq:fi P w K mg base c8 2 "_law_term_text" ["_law_number","_law_names_by","_law_most"] iT):dJ P w K mg base c8 3 f fd ["_law_text","_law_number","_law_names_by"] jK:=by
 refine F.ok jN (λvs H Q E h=> ?_) (λdQ A outer s H vs Q E hr h=> ?_)
 ·obtain⟨t,n,c,rfl,_⟩:=h
  rfl
 ·obtain⟨t,n,c,rfl,nt,ct,q⟩:=h;have l5:=fo;have gt:=iA nt;have lt:=me t (-1) gt;have w1:(Str.ofString "later ").length=6:=by decide+kernel
  have w2:(Str.ofString "earlier ").length=8:=by decide+kernel
  have w3:(Str.ofString " later ").length=7:=by decide+kernel
  refine⟨_,(av (bS (i:=3) jN.nd U (Or.inl U) (bV fh (pv 1) a9)) (av (bS (i:=1) jN.nd U (Or.inl U) (cG fF (hr.mono (by omega)) U cq (ag (pv 1) (ag a9 (ag (pv 2) aA))))) (av (c9 (bQ gb (pv 3) a9 (cf _)) (aR (bP (bV bZ (bV bZ (bV bZ cV (pv 0)) cV) (pv 0)))) b9) (av (c9 (bQ gb (pv 3) a9 (cf _)) (aR (bP (bV bZ (bV bZ (bV bZ (bV bZ (bV bZ cV (pv 0)) cV) (pv 0)) cV) (dI jc (cG fq (hr.mono (by omega)) U cq (ag (pv 1) (ag (pv 2) (ag a9 aA)))) a9 (λ_ _=>rfl))))) b9) (av (c9 (bQ gb (pv 3) a9 (cf _)) (aR (bP (bV bZ (bV bZ (bV bZ cV (dI jc (cG fq (hr.mono (by omega)) U cq (ag (pv 1) (ag (pv 2) (ag a9 aA)))) a9 (λ_ _=>rfl))) cV) (pv 0)))) b9) (av (PH (i:=3) (j:=0)) (av (c9 (bQ gb (pv 3) a9 (cf _)) (aR (bP (dI jc (cG fq (hr.mono (by omega)) U cq (ag (pv 1) (ag (pv 2) (ag a9 aA)))) a9 (λ_ _=>rfl)))) b9) (aR (bP (pv 0)))))))))), ?_⟩
  refine(vI U (by show(0:Int)<6;decide) ?_)
  refine⟨_,U,_,U,n,6,c,U,by decide,by decide,λn2 H1 s1=> ?_⟩;refine(vEq U U (gW (λ_=> ?_) (λ_=> ?_)))
  ·refine⟨_,U,_,_,U,U,by rw[w1];omega,_,_,rfl,rfl,by rw[a7,w1,IF];omega,_,rfl,_,_,rfl,rfl,by rw[a7,a7,w1,IF];omega, ?_⟩
   exact vW (q (.later t t) H1 ⟨gt,gt⟩ (by show t.cnt+t.cnt<=10;omega) s1) (dc V.str (by rw[la_];rfl))
  refine(vEq U U (gW (λ_=> ?_) (λ_=> ?_)))
  ·refine⟨_,U,_,_,U,U,by rw[w2];omega,_,_,rfl,rfl,by rw[a7,w2,w3];omega,_,rfl,_,_,rfl,rfl,by rw[a7,a7,w2,w3];omega,_,_,rfl,rfl,by rw[a7,a7,a7,w2,w3,IF];omega, ?_⟩
   refine⟨_,U,_,U,n2,c,0,U,by decide,λu m p H2 nu cu s2 hp=>⟨p,_,_,_,rfl,rfl,jU.of hp,rfl, ?_⟩⟩;have gu:=iA nu;have lu:=me u (-1) gu;refine⟨_,_,U,U,by rw[a7,a7,a7,a7,w2,w3,IF];omega, ?_⟩
   refine vW (q (.cO t (.later t u)) H2 ⟨gt,gt,gu⟩ (by show t.cnt+(t.cnt+u.cnt)<=10;omega) (s1.trans s2)) (dc V.str (ext ?_))
   show cs (Str.ofString "earlier"++Str.ofString " "++t.tC (-1)++Str.ofString " "++(Str.ofString "later"++Str.ofString " "++t.tC (-1)++Str.ofString " "++u.tC (-1)))=_;rw[ea_];simp only [dH,ZdM,dj]
  refine(vEq U U (gW (λ_=> ?_) (λ_=> ?_)))
  ·refine⟨_,U,_,U,n2,c,0,U,by decide,λu m p H2 nu cu s2 hp=>⟨p,_,_,_,rfl,rfl,jU.of hp,rfl, ?_⟩⟩;have gu:=iA nu;have lu:=me u (-1) gu;refine⟨_,_,U,U,by rw[w2];omega,_,_,rfl,rfl,by rw[a7,w2,IF];omega,_,rfl,_,_,rfl,rfl,by rw[a7,a7,w2,IF];omega, ?_⟩
   exact vW (q (.cO u t) H2 ⟨gu,gt⟩ (by show u.cnt+t.cnt<=10;omega) (s1.trans s2)) (dc V.str (by rw[ea_];rfl))
  refine⟨_,_,U,U,λ_=> ?_,λ_=> ?_⟩
  ·obtain⟨u,nu,cu,eu⟩:=vM nt;exact⟨by rw[show(Str.ofString "m").length=1 by decide];omega,vW (q u H1 (iA nu) (by omega) s1) (dc V.str (ext (by rw[Js,eu])))⟩
  refine(vEq U U (gW (λ_=> ?_) (λ_=> ?_)))
  ·exact⟨_,U,_,U,n2,c,3,U,by decide,λu m p H2 nu cu s2 hp=>⟨p,_,_,_,rfl,rfl,jU.of hp,rfl,q u H2 (iA nu) (by omega) (s1.trans s2)⟩⟩
  ·exact⟨_,U,q t H1 gt (by omega) s1⟩
theorem KH{a b:V}{j:Int}(h0:0<=j)(h1:j<2):A2 [a,b] j=some (if j=0 then a else b):=by
 have:j=0\/j=1:=by omega
 rcases this with rfl|rfl<;>rfl
theorem DM:b_ ["_law_k","_law_names_by"] ["_law_k","_law_names_by"] (bG rW):=⟨rfl,rfl,rfl,by decide+kernel,rfl,by decide+kernel,by decide+kernel⟩
theorem Ee{f:aj}{fd:bC}(F:je K "_law_title" "_law_title" rW f fd)(T:Txt K mg bh a4 aO aN bF bE a3 aP aI aD aC ar aV bY bw bL bA bM bq a_ br bB aS bX)(e_:fi P w K mg base c8 1 "_law_name_by" ["_law_cell","_law_k"] iQ):dJ P w K mg base c8 2 f fd ["_law_k","_law_names_by"] pR:=by
 refine F.ok DM (λvs H Q E h=> ?_) (λdQ A outer s H vs Q E hr h=> ?_)
 ·obtain⟨k,c,rfl,_⟩:=h
  rfl
 ·obtain⟨k,c,rfl,hk,q⟩:=h;have l5:=fo;have j0:=d0 (c/7) (show(2:Int)≠0 by decide);have j1:=dq (c/7) (show(0:Int)<2 by decide);refine⟨_,(aR (bP (cG e_ (hr.mono (by omega)) U cq (ag (pv 1) (ag (dI dY (fC (ag (pv 0) (ag (bV Ea a9 (pv 0)) aA))) (bV fh (bV iG (pv 1) a9) a9) (λ_ _=>rfl)) aA))))), ?_⟩;refine⟨_,U,_,U,_,U,_,_,U,U,show 2<=sizeLine from sl,λL hL=> ?_⟩;have ea:A2 [V.int (k:Int),V.int (25-(k:Int))] (c/7%2)=some (.int (if c/7%2=0 then(k:Int) else 25-(k:Int))):=by
   rw[KH j0 j1]
   split<;>rfl
  exact(vI U ⟨by decide,by decide⟩ ⟨_,_,U,U,(by show(0:Int)<2;decide),L,_,_,_,U,U,cK.of ay,ea,c,_,U,by split<;>omega,by split<;>omega,λH2 s2=>q H2 ((aU hL).trans s2)⟩)
def Rq:Option Str->Str
 |some e=>Str.ofString " under "++e
 |none=>Str.ofString ""
theorem Za5:cs (Str.ofString "")=[]:=by decide+kernel
theorem Wo(nm e:Str):Str.ofString "series "++nm++Rq (some e)=(⟨nm,some e,none⟩:Sr).txt:=by
 refine ext ?_;show cs (_++(_++_))=cs (Str.ofString "series "++nm++Str.ofString " under "++e);simp only [dH,dj]
theorem OT(nm:Str)(el:Option Str)(t:Tr):Str.ofString "series "++nm++Rq el++Str.ofString " "++t.tC (-1)=(⟨nm,el,some t⟩:Sr).txt:=by
 refine ext ?_;cases el with
 |none=>
  show cs (Str.ofString "series "++nm++Str.ofString ""++Str.ofString " "++t.tC (-1))=cs (Str.ofString "series "++nm++Str.ofString " "++t.tC (-1));simp only [dH,Za5,cE]
 |some e=>
  show cs (_++(_++_)++_++_)=cs (Str.ofString "series "++nm++Str.ofString " under "++e++Str.ofString " "++t.tC (-1));simp only [dH,dj]
theorem U2(a x y z:Str):a++(x++y++z)=a++x++y++z:=ext (by simp only [dH,dj])
def B5(c:Int)(k:Nat)(o:Option Str):Prop:=∀e,o=some e->∃j,j<k/\e=gC c j
theorem VJ{c:Int}{k:Nat}{o:Option Str}(h:B5 c k o)(hk:k<=25):∀e,o=some e->Nm e:=λe he=>by
 obtain⟨j,hj,rfl⟩:=h e he;exact rK c (by omega)
theorem E2{c:Int}{k:Nat}{o:Option Str}(h:B5 c k o)(hk:k<=25):(Rq o).length<=19:=by
 cases o with
 |none=>exact(show(Str.ofString "").length<=19 by decide+kernel)
 |some e=>
  have:=(VJ h hk e rfl).2.1;show(Str.ofString " under "++e).length<=19;rw[a7,show(Str.ofString " under ").length=7 by decide+kernel];omega
theorem Pt{c:Int}{k:Nat}{el:Option Str}{tm:Option Tr}(hk:k<=25)(he:B5 c k el)(ht:∀t,tm=some t->t.good/\t.cnt<=10)(hs:el=none->tm≠none):uC c k ⟨gC c k,el,tm⟩:=⟨⟨rK c hk,VJ he hk,ht,hs⟩,rfl,he⟩
theorem WJ{c:Int}{k:Nat}{e:Str}(hk:k<=25)(he:B5 c k (some e)):uC c k ⟨gC c k,some e,none⟩:=Pt hk he (λ_ z=>nomatch z) λz=>nomatch z
theorem Pr{c:Int}{k:Nat}{el:Option Str}{t:Tr}(hk:k<=25)(he:B5 c k el)(gt:t.good)(ct:t.cnt<=10):uC c k ⟨gC c k,el,some t⟩:=Pt hk he (λu e=>by cases e;exact⟨gt,ct⟩) λ_ z=>nomatch z
theorem Rp{c:Int}{k:Nat}{o:Option Str}(h:B5 c k o){j:Int}(h0:0<=j)(h1:j<2):∃o',B5 c k o'/\A2 [V.str (Rq o),V.str (Str.ofString "")] j=some (.str (Rq o')):=by
 rw[KH h0 h1]
 split
 ·exact⟨o,h,U⟩
 ·exact⟨none,(λ_ z=>nomatch z),U⟩
theorem mod2(a:Int):0<=a%2/\a%2<2:=⟨d0 _ (by decide),dq _ (by decide)⟩
theorem Vw(a:Int){k:Nat}(h:0<k):∃j:Nat,a%(k:Int)=(j:Int)/\j<k:=by
 have h0:=d0 a (show(k:Int)≠0 by omega);have h1:=dq a (show(0:Int)<k by omega);exact⟨(a%(k:Int)).toNat,by omega,by omega⟩
theorem eS:b_ ["_law_cell","_law_k","_law_names_by","_law_number","_law_name","_law_under","_law_beneath","_law_way","_law_text","_law_own"] ["_law_cell","_law_k","_law_names_by"] (bG uU):=⟨rfl,rfl,rfl,by decide+kernel,rfl,by decide+kernel,by decide+kernel⟩
theorem Gu{f:aj}{fd:bC}(F:je K "_law_rows" "_law_rows" uU f fd)(T:Txt K mg bh a4 aO aN bF bE a3 aP aI aD aC ar aV bY bw bL bA bM bq a_ br bB aS bX)(fF:fi P w K mg base c8 1 "_law_onward" ["_law_number","_law_size","_law_names_by"] jo)(km:fi P w K mg base c8 3 "_law_other_text" ["_law_text","_law_number","_law_names_by"] jK)(fq:fi P w K mg base c8 2 "_law_term_text" ["_law_number","_law_names_by","_law_most"] iT)(kQ:fi P w K mg base c8 2 "_law_title" ["_law_k","_law_names_by"] pR):dJ P w K mg base c8 4 f fd ["_law_cell","_law_k","_law_names_by"] rN:=by
 refine F.ok eS (λvs H Q E h=> ?_) (λdQ A outer s H vs Q E hr h=> ?_)
 ·obtain⟨x,k,c,rfl,_⟩:=h
  rfl
 ·obtain⟨x,k,c,rfl,hk,q⟩:=h;have l5:=fo;have a1:(Str.ofString "series ").length=7:=by decide+kernel
  have a2:(Str.ofString " under ").length=7:=by decide+kernel
  have nk:=(rK c (k:=k) (by omega)).2.1;have ok:∀m:Int,IntMulOk m 1583458089:=λm=>oX (rm (by decide) (by decide));have ok2:∀m:Int,IntMulOk m 48271:=λm=>oX (rm (by decide) (by decide));refine⟨_,(av (bS (i:=3) eS.nd U (Or.inl U) (dI dY (fC (ag (cg Iv (by rfl) T.Z0F RK (ag (pv 0) aA)) (ag (bV fh (bV tK (bV fh (bV tK (pv 0) a9) a9) a9) a9) aA))) (bV fh (pv 2) a9) (λ_ _=>rfl))) (av (bS (i:=4) eS.nd U (Or.inl U) (bV bZ cV (cG kQ (hr.mono (by omega)) U cq (ag (pv 1) (ag (pv 2) aA))))) (av (bS (i:=5) eS.nd U (Or.inl U) cV) (av (bS (i:=6) eS.nd U (Or.inl U) cV) (av (bS (i:=7) eS.nd U (Or.inl U) a9) (av (c9 (PW.pt (pw_and (bQ qZ (pv 1) a9 (cf _)) (pw_and1 (bQ qZ (bV fh (pv 3) a9) a9 (cf _))))) (av (bS (i:=5) eS.nd U (Or.inl U) (bV bZ cV (cG kQ (hr.mono (by omega)) U cq (ag (bV fh (bV fh (bV iG (pv 3) a9) a9) (pv 1)) (ag (pv 2) aA))))) (av (bS (i:=6) eS.nd U (Or.inl U) (bV bZ cV (cG kQ (hr.mono (by omega)) U cq (ag (bV fh (bV fh (bV iG (pv 3) a9) a9) (pv 1)) (ag (pv 2) aA))))) (aR (bS (i:=7) eS.nd U (Or.inl U) (bV fh (bV iG (pv 3) a9) a9))))) b9) (av (D9 (cG fq (hr.mono (by omega)) U cq (ag (cG fF (hr.mono (by omega)) U cq (ag (pv 3) (ag a9 (ag (pv 2) aA)))) (ag (pv 2) (ag a9 aA)))) (ql U (fw (cR (i:=8) eS.nd U (Or.inl U)) (fw (cR (i:=3) eS.nd U (Or.inl U)) lO)))) (av (bS (i:=9) eS.nd U (Or.inl U) (bV bZ (bV bZ (dI dY (fC (ag (pv 5) (ag cV aA))) (bV fh (pv 3) a9) (λ_ _=>rfl)) cV) (pv 8))) (av (bS (i:=3) eS.nd U (Or.inl U) (cG fF (hr.mono (by omega)) U cq (ag (pv 3) (ag a9 (ag (pv 2) aA))))) (av (c9 (bQ gb (pv 7) a9 (cf _)) (aR (bP (ja (ag (bV bZ (pv 4) (pv 5)) (ag (bV bZ (pv 4) (pv 5)) aA))))) b9) (av (c9 (bQ gb (pv 7) a9 (cf _)) (aR (bP (ja (ag (bV bZ (pv 4) (pv 5)) (ag (bV bZ (pv 4) (pv 9)) aA))))) b9) (av (c9 (bQ gb (pv 7) a9 (cf _)) (aR (bP (ja (ag (bV bZ (pv 4) (pv 9)) (ag (bV bZ (pv 4) (pv 5)) aA))))) b9) (av (c9 (bQ gb (pv 7) a9 (cf _)) (aR (bP (ja (ag (bV bZ (pv 4) (pv 5)) (ag (bV bZ (pv 4) (pv 6)) aA))))) b9) (aR (bP (ja (ag (bV bZ (pv 4) (pv 9)) (ag (bV bZ (bV bZ (bV bZ (pv 4) (dI dY (fC (ag (pv 6) (ag cV aA))) (bV fh (pv 7) a9) (λ_ _=>rfl))) cV) (cG km (hr.mono (by omega)) U cq (ag (pv 8) (ag (pv 3) (ag (pv 2) aA))))) aA)))))))))))))))))), ?_⟩
  refine⟨_,U,_,U,vI U (ok _) ⟨_,_,U,U,(by show(0:Int)<2147483647;decide),_,_,U,U,ok2 _,_,_,U,U,(by show(0:Int)<2147483629;decide),show 2<=sizeLine from sl,λL hL=> ?_⟩⟩
  obtain⟨N,eN⟩:∃N:Int,A2 [V.int (if x<0 then-x else x),V.int (x*1583458089%2147483647*48271%2147483629)] (c%2)=some (.int N):=by
   rw[KH (mod2 c).1 (mod2 c).2]
   split
   ·exact⟨_,U⟩
   ·exact⟨_,U⟩
  refine(vI U (by show(0:Int)<2;decide) ⟨L,_,_,_,U,U,cK.of ay,eN, ?_⟩)
  clear eN;refine⟨_,U,_,U,k,c,U,by omega,λH1 s1=>⟨_,_,rfl,rfl,by rw[a1];omega, ?_⟩⟩
  have s01:=(aU hL).trans s1;clear s1;refine(λ(rest:∀(eu eb:Option Str) (w:Int) (H2:Hp),bU H H2->B5 c k eu->B5 c k eb->(w=5\/eu≠none/\eb≠none)->(_:L2.St->Hp->Prop) [some (.int x),some (.int (k:Int)),some (.int c),some (.int N),some (.str (Str.ofString "series "++gC c k)),some (.str (Rq eu)),some (.str (Rq eb)),some (.int w),none,none] H2)=>⟨_,U,_,_,U,U,_,U,gW (λe1=>vI U (by show(0:Int)<3;decide) ⟨_,_,U,U,_,U,gW (λe2=> ?yes) (λ_=>rest none none 5 H1 s01 (λ_ z=>nomatch z) (λ_ z=>nomatch z) (.inl U))⟩) (λ_=>ic (rest none none 5 H1 s01 (λ_ z=>nomatch z) (λ_ z=>nomatch z) (.inl U)))⟩) ?rest
  case yes=>
   have e1:(0:Int)<k:=ba e1;obtain⟨i,ei,hi⟩:=Vw (N/3%12) (k:=k) (by omega);obtain⟨j,ej,hj⟩:=Vw (N/36%12) (k:=k) (by omega);refine(vI U ⟨by decide,by decide⟩ ⟨_,_,U,U,(by show(0:Int)<12;decide),_,U,_,_,U,U,e1,_,U,i,c,(by show[V.int (N/3%12%(k:Int)),V.int c]=_;rw[ei]),by omega,λH2 s2=>⟨_,_,rfl,rfl, ?_, ?_⟩⟩)
   ·have:=(rK c (k:=i) (by omega)).2.1;rw[a2];omega
   refine(vI U ⟨by decide,by decide⟩ ⟨_,_,U,U,(by show(0:Int)<12;decide),_,U,_,_,U,U,e1,_,U,j,c,(by show[V.int (N/36%12%(k:Int)),V.int c]=_;rw[ej]),by omega,λH3 s3=>⟨_,_,rfl,rfl, ?_, ?_⟩⟩)
   ·have:=(rK c (k:=j) (by omega)).2.1;rw[a2];omega
   refine(vI U ⟨by decide,by decide⟩ ⟨_,_,U,U,(by show(0:Int)<6;decide), ?_⟩)
   exact rest (some (gC c i)) (some (gC c j)) _ H3 (s01.trans (s2.trans s3)) (λe he=>⟨i,hi,(bR he).symm⟩) (λe he=>⟨j,hj,(bR he).symm⟩) (.inr ⟨(λz=>nomatch z),λz=>nomatch z⟩)
  case rest=>
   intro eu eb w H2 s2 ou ob ww;have lu:=E2 ou (by omega);have lb:=E2 ob (by omega);refine⟨_,U,_,U,N,2592,c,U,by decide,by decide,λn1 H3 s3=>⟨_,rfl,n1,c,3,rfl,by decide,λt n2 p H4 nt ct s4 hp=> ?_⟩⟩;have SX:=s2.trans (s3.trans s4);have gt:=iA nt;have lt:=me t (-1) gt;refine⟨p,_,U,jU.of hp,U,_,_,U,_,_,U,U, ?_⟩;refine⟨_,U,show 2<=sizeLine from sl,λL2 Zg=> ?_⟩;obtain⟨eo,oo,ae⟩:=Rp ou (mod2 n2).1 (mod2 n2).2
   have lo:=E2 oo (by omega);refine(vI U (by show(0:Int)<2;decide) ⟨L2,_,_,_,U,U,cK.of ay,ae,_,_,U,U,by rw[IF];omega,_,rfl,_,_,rfl,rfl,by rw[a7,IF];omega, ?_⟩)
   refine⟨_,U,_,U,n2,2,c,U,by decide,by decide,λn3 H5 s5=> ?_⟩;have IG:=SX.trans ((aU Zg).trans s5);have ls:(Str.ofString "series "++gC c k).length<=19:=by rw[a7,a1];omega
   have lw:(Rq eo++Str.ofString " "++t.tC (-1)).length<=400:=by rw[a7,a7,IF];omega
   have Rt:Str.ofString "series "++gC c k++(Rq eo++Str.ofString " "++t.tC (-1))=(⟨gC c k,eo,some t⟩:Sr).txt:=by rw[U2];exact OT ..
   have Rr:∀{o:Option Str},o≠none->B5 c k o->∃r:Sr,uC c k r/\Str.ofString "series "++gC c k++Rq o=r.txt:=λ{o} no ho=>by
    cases o with
    |none=>exact absurd U no
    |some e=>exact⟨_,WJ (by omega) ho,Wo ..⟩
   have ZdD:=OT (gC c k);have PB:=Pr (k:=k) (by omega) oo gt (by omega);have pair:∀(r r':Sr),uC c k r->uC c k r'->∀a b:Str,a=r.txt->b=r'.txt->∀p H6,H6 p=none->bU H H6->Q (.ref p) (upd H6 p (.tup [.str a,.str b])):=λr r' h1 h2 a b e1 e2 p H6 hp6 s6=>q r r' p _ (s6.trans (aU hp6)) (by rw[ay,e1,e2]) h1 h2;generalize Str.ofString "series "++gC c k=nm at*
   generalize Rq eo++Str.ofString " "++t.tC (-1)=own at*
   have le:∀{d:Int},V.int w=V.int d->d≠5->eu≠none/\eb≠none:=λ{d} e n=>by
    injection e with e
    rcases ww with z|z
    ·omega
    ·exact z
   refine(vEq U U (gW (λe=> ?_) (λ_=> ?_)))
   ·obtain⟨r,hr,er⟩:=Rr (le (ba e) (by decide)).1 ou;exact⟨_,U,_,U,_,_,U,U,by omega,_,rfl,_,rfl,_,_,rfl,rfl,by omega,show 2<=sizeLine from sl,λp hp=>pair r r hr hr _ _ er er p H5 hp IG⟩
   refine(vEq U U (gW (λe=> ?_) (λ_=> ?_)))
   ·obtain⟨r,hr,er⟩:=Rr (le (ba e) (by decide)).1 ou;exact⟨_,U,_,U,_,_,U,U,by omega,_,rfl,_,rfl,_,_,rfl,rfl,by omega,show 2<=sizeLine from sl,λp hp=>pair r _ hr PB _ _ er Rt p H5 hp IG⟩
   refine(vEq U U (gW (λe=> ?_) (λ_=> ?_)))
   ·obtain⟨r,hr,er⟩:=Rr (le (ba e) (by decide)).1 ou;exact⟨_,U,_,U,_,_,U,U,by omega,_,rfl,_,rfl,_,_,rfl,rfl,by omega,show 2<=sizeLine from sl,λp hp=>pair _ r PB hr _ _ Rt er p H5 hp IG⟩
   refine(vEq U U (gW (λe=> ?_) (λ_=> ?_)))
   ·obtain⟨r,hr,er⟩:=Rr (le (ba e) (by decide)).1 ou;obtain⟨r',hr',er'⟩:=Rr (le (ba e) (by decide)).2 ob;exact⟨_,U,_,U,_,_,U,U,by omega,_,rfl,_,rfl,_,_,rfl,rfl,by omega,show 2<=sizeLine from sl,λp hp=>pair r r' hr hr' _ _ er er' p H5 hp IG⟩
   obtain⟨ex,ox,ax⟩:=Rp ob (mod2 w).1 (mod2 w).2;have lx:=E2 ox (by omega);refine⟨_,U,_,U,_,_,U,U,by omega,_,rfl,_,rfl,show 2<=sizeLine from sl,λL3 hL3=> ?_⟩;refine(vI U (by show(0:Int)<2;decide) ⟨L3,_,_,_,U,U,cK.of ay,ax,_,_,U,U,by omega,_,_,rfl,rfl,by rw[a7,IF];omega, ?_⟩)
   refine⟨_,U,_,U,_,U,t,n3,c,U,nt,by omega,λu H6 gu cu s6=>⟨_,_,rfl,rfl, ?_,show 2<=sizeLine from sl,λp hp=> ?_⟩⟩
   ·have lu2:=me u (-1) gu;rw[a7,a7,IF];omega
   ·exact pair _ ⟨gC c k,ex,some u⟩ PB (Pr (by omega) ox gu cu) _ _ Rt (ZdD ex u) p H6 hp (IG.trans ((aU hL3).trans s6))
theorem ZcR{K:au}{i j n:Nat}{σ:L2.St}{H:Hp}{Q:VK}{a:aj}{xs:List V}{v:V}(e:σ[i]? =some (some (.ref a)))(e2:σ[j]? =some (some (.int (0+(n:Int)))))(h:cK K H a xs)(m:xs[n]? =some v)(k:Q v H):OY (WT K) (yH i) (yH j) σ H Q:=⟨_,e,_,e2,a,_,_,_,rfl,rfl,h,by rw[Int.zero_add];exact BY m,k⟩
theorem Cu{c:Int}{rs:List Sr}{r:Sr}(h:Rows c rs)(g:uC c rs.length r):Rows c (rs++[r]):=λi x hx=>by
 rw[List.getElem?_append] at hx
 split at hx
 ·exact h i x hx
 ·obtain⟨lt,e⟩:=bT.mp hx;have lt:i-rs.length<1:=lt;have ei:i=rs.length:=by omega
  subst ei;simp at e
  exact e▸g
theorem Tc:∀{c:Int} {rs:List Sr},Rows c rs->rs.length<=12->∀(n:Nat),n<=rs.length->dO ((rs.take n).map Sr.nm) (rs.drop n):=by
 intro c rs h l n hn
 induction k:rs.length-n generalizing n with
 |zero=>
  rw[dW (by omega)]
  trivial
 |succ k ih=>
  have lt:n<rs.length:=by omega
  have g:=h n rs[n] (aK lt);rw[cB lt];have mem:∀{x:Str},x∈(rs.take n).map Sr.nm↔∃j,j<n/\x=gC c j:=λ{x}=>by
   constructor
   ·intro hx;obtain⟨r,hr,rfl⟩:=a5.mp hx;obtain⟨i,hi,e⟩:=eU hr;have li:i<n:=by rw[dh] at hi;omega
    rw[List.getElem_take] at e
    have g:=h i rs[i] (aK (by omega));exact⟨i,li,by rw[<-e];exact g.nm⟩
   ·rintro⟨j,hj,rfl⟩;have g:=h j rs[j] (aK (by omega));rw[<-g.nm];exact a5.mpr ⟨_,List.mem_iff_getElem.mpr ⟨j,by rw[dh];omega,by rw[List.getElem_take]⟩,U⟩
  refine⟨g.good,λz=> ?_,λe he=>mem.mpr (g.el e he), ?_⟩
  ·obtain⟨j,hj,e⟩:=mem.mp z;rw[g.nm] at e
   have:=Mz (by omega) (by omega) e;omega
  ·have:=ih (n+1) (by omega) (by omega);rw[dG,aK lt,bN] at this
   exact this
theorem Ge{c:Int}{rs:List Sr}(h:Rows c rs)(l:rs.length<=12):dO [] rs:=Tc h l 0 (bz _)
theorem DZ{c:Int}{rs:List Sr}(h:Rows c rs)(l:rs.length<=12){k:Int}(hk:26<=k):jb c k∉rs.map Sr.nm:=λz=>by
 obtain⟨r,hr,e⟩:=a5.mp z;obtain⟨i,hi,er⟩:=eU hr;have g:=h i r (by rw[aK hi,er]);rw[g.nm] at e
 exact MA (by omega) hk e
theorem KG:∀{ns:List Str} {rs us:List Sr},dO ns rs->dO (ns++rs.map Sr.nm) us->dO ns (rs++us)
 |ns,[],us,_,h=>by rw[i_,cE] at h;exact h
 |ns,r::rs,us,⟨g,n,e,k⟩,h=>⟨g,n,e,KG k (by rw[dj];exact h)⟩
theorem Mc:∀{ns:List Str} {z:Str} {rs:List Sr},dO ns rs->z∉rs.map Sr.nm->dO (z::ns) rs
 |_,_,[],_,_=>trivial
 |ns,z,r::rs,⟨g,n,e,k⟩,h=>⟨g,λm=>(aJ.mp m).elim (λy=>h (by rw[<-y];exact aB ..)) n,λx hx=>aF _ (e x hx),Mc k λm=>h (aF _ m)⟩
theorem rJ(rs:List Sr)(r:Sr):HO.lst ((rs.map Sr.txt).map V.str++[.str r.txt])=jx (rs++[r]):=by
 unfold jx;rw[bN,bN]
 rfl
theorem iV:b_ ["_law_cells","_law_names_by","_law_one","_law_other","_law_k","_law_row","_law_beside"] ["_law_cells","_law_names_by"] (bG rX):=⟨rfl,rfl,rfl,by decide+kernel,rfl,by decide+kernel,by decide+kernel⟩
theorem Ef{f:aj}{fd:bC}(F:je K "_law_texts" "_law_texts" rX f fd)(T:Txt K mg bh a4 aO aN bF bE a3 aP aI aD aC ar aV bY bw bL bA bM bq a_ br bB aS bX)(vd:fi P w K mg base c8 4 "_law_rows" ["_law_cell","_law_k","_law_names_by"] rN):dJ P w K mg base c8 5 f fd ["_law_cells","_law_names_by"] pT:=by
 refine F.ok iV (λvs H Q E h=> ?_) (λdQ A outer s H vs Q E hr h=> ?_)
 ·obtain⟨p,ns,c,rfl,_⟩:=h
  rfl
 ·obtain⟨p,ns,c,rfl,hp,ln,q⟩:=h;have l5:=fo;refine⟨_,(av (bS (i:=2) iV.nd U (Or.inl U) (fC aA)) (av (bS (i:=3) iV.nd U (Or.inl U) (fC aA)) (av (lj eD U (Cz U T.V6 (ag (cg fz (by rfl) T.j6 gE (ag (pv 0) aA)) aA)) (cR (i:=4) iV.nd U (Or.inl U)) (av (D9 (cG vd (hr.mono (by omega)) U cq (ag (dI dY (pv 0) (pv 4) (λ_ _=>rfl)) (ag (pv 4) (ag (pv 1) aA)))) (ql U (fw (cR (i:=5) iV.nd U (Or.inl U)) (fw (cR (i:=6) iV.nd U (Or.inl U)) lO)))) (av (gY (i6 cH cT cS gG (pv 2) (ag (pv 5) aA))) (aR (gY (i6 cH cT cS gG (pv 3) (ag (pv 6) aA))))))) (aR (bP (ja (ag (pv 2) (ag (pv 3) aA)))))))), ?_⟩
  refine⟨bz _,λA hA=>⟨bz _,λB hB=> ?_⟩⟩;have nBA:B≠A:=λz=>by rw[z,ay] at hB;cases hB
  have hB0:H B=none:=by rw[aY nBA] at hB;exact hB
  have hA1:upd (upd H A (.lst [])) B (.lst []) A=some (jx []):=by rw[aY (cY nBA)];exact ay
  have Zh:upd (upd H A (.lst [])) B (.lst []) B=some (jx []):=ay;have fr:∀b u,b≠A->b≠B->H b=some u->upd (upd H A (.lst [])) B (.lst []) b=some u:=λb u n1 n2 e=>by rw[aY n2,aY n1];exact e
  generalize upd (upd H A (.lst [])) B (.lst [])=H1 at hA1 Zh fr
  have same:∀{H':Hp},(∀b u,b≠A->b≠B->H b=some u->H' b=some u)->bU H H':=λf b u e=>f b u (bI e hA) (bI e hB0) e;have hp1:=same fr _ _ hp;refine⟨_,U,_,_,U,.inl ⟨_,cK.of hp1,U⟩,_,U,by omega,by rw[ao];omega,C0 (λi σ H'=>∃(v4 v5 v6:Option V) (rs vn:List Sr),σ=[some (.ref p),some (.int c),some (.ref A),some (.ref B),v4,v5,v6]/\H' A=some (jx rs)/\H' B=some (jx vn)/\Rows c rs/\Rows c vn/\rs.length=i/\vn.length=i/\∀b u,b≠A->b≠B->H b=some u->H' b=some u) ?_ ?_ ?_⟩
  ·exact⟨none,none,none,[],[],U,hA1,Zh,(λi r h=>by simp at h),(λi r h=>by simp at h),U,U,fr⟩
  ·rintro i σ H2 hi ⟨v4,v5,v6,rs,vn,rfl,hA2,hB2,r1,r2,l1,l2,f2⟩;rw[ao] at hi
   have hi:i<ns.length:=by omega
   have Kh:=same f2 _ _ hp;have ex:(ns.map V.int)[i]? =some (.int ns[i]):=by rw[cj,aK hi];rfl
   generalize ns[i]=x at ex
   refine(ZcR U U (cK.of Kh) ex ⟨_,U,_,U,x,i,c,(by show[V.int x,V.int (0+(i:Int)),V.int c]=_;rw[Int.zero_add]),by omega,λr r' t H3 s3 ht g g'=> ?_⟩)
   refine⟨t,_,U,jU.of ht,U,_,_,U,_,_,U,U, ?_⟩;have hA3:=s3 _ _ hA2;have hB3:=s3 _ _ hB2;have sz:∀{us:List Sr},us.length=i->((us.map Sr.txt).map V.str).length<sizeLine:=λ{us} e=>by rw[ao,ao];omega
   refine⟨_,U,.inl ⟨U,_,cK.of hA3⟩,_,U,A,_,_,U,U,hA3,sz l1, ?_⟩;have hB4:upd H3 A (.lst ((rs.map Sr.txt).map V.str++[.str r.txt])) B=some (jx vn):=by rw[aY nBA];exact hB3
   refine⟨_,U,.inl ⟨U,_,cK.of hB4⟩,_,U,B,_,_,U,U,hB4,sz l2, ?_⟩;refine⟨_,_,_,rs++[r],vn++[r'],U, ?_, ?_,Cu r1 (l1▸g),Cu r2 (l2▸g'),by rw[bb,l1];rfl,by rw[bb,l2];rfl,λb u n1 n2 e=>by rw[aY n2,aY n1];exact s3 _ _ (f2 b u n1 n2 e)⟩
   ·rw[aY (cY nBA),ay,rJ]
   ·rw[ay,rJ]
  ·rintro σ H2 ⟨v4,v5,v6,rs,vn,rfl,hA2,hB2,r1,r2,l1,l2,f2⟩;rw[ao] at l1 l2
   have l1:rs.length<=12:=by omega
   have l2:vn.length<=12:=by omega
   refine⟨_,U,_,U,show 2<=sizeLine from sl,λt ht=> ?_⟩;have s2:=aU (o:=.tup [.ref A,.ref B]) ht;exact q rs vn t A B _ ((same f2).trans s2) ay (s2 _ _ hA2) (s2 _ _ hB2) r1 r2 l1 l2
theorem tV{α:Type}{p:aj}{own:List Str}{fr:List (Str×Nat)}{g:TG}{tc:TT}{te:TE}{σ:L2.St}{H:Hp}{Q:VK}(xs:List α)(IK:α->V)(out:α->List V)(hp:H p=some (.lst (xs.map IK)))(hl:xs.length<=1000)(ho:∀x,(out x).length<=1)
  (step:∀x∈xs,∀H2,bU H H2->∀(RT:V->Hp->Prop) (RF:Hp->Prop),(∀v H6,out x=[v]->bU H2 H6->RT v H6)->(∀H5,out x=[]->bU H2 H5->RF H5)->g (IK x) (BR own fr σ) H2 λσ3 H4=>Ext (BR own fr σ) σ3/\tc σ3 H4 λb H5=>if b=true then te σ3 H5 RT else RF H5)
  (q:∀D H2,H D=none->bU H H2->H2 D=some (.lst (xs.flatMap out))->Q (.ref D) H2):IE (Yz K p) own fr g tc te σ H Q:=by
 have l5:=fo;refine wU xs.length (λj=>((xs[j]?).map out).getD []) (by omega) (λj=> ?_) (λj H2 s2 lt=>⟨_,_,cK.of (s2 _ _ hp),aK (by rw[ao];exact lt)⟩) (λH2 s2=>⟨_,cK.of (s2 _ _ hp),by rw[ao];exact aE _⟩) (λj y H2 H3 s2 lt yl RT RF rt rf=> ?_) λD H2 hD s2 d2=> ?_
 ·cases xs[j]? with
  |none=>exact bz 1
  |some x=>exact ho x
 ·obtain⟨rfl,yl⟩:=yl;have hy:=yl _ (cK.of (s2 _ _ hp));have ex:xs[j]? =some xs[j]:=aK lt;rw[cj,ex] at hy
  obtain rfl:IK xs[j]=y:=bR hy;rw[ex] at rt rf
  exact step _ (iN lt) _ s2 RT RF rt rf
 ·rw[qk out xs] at d2
  exact q D H2 hD s2 d2
theorem nM{α:Type}(IK:α->V)(pr:α->Bool):∀xs:List α,xs.flatMap (λx=>if pr x=true then[IK x] else[])=(xs.filter pr).map IK
 |[]=>rfl
 |x::xs=>by
  rw[fK,nM IK pr xs,List.filter_cons]
  split<;>rfl
theorem wM{α:Type}(IK:α->V)(pr:α->Bool)(x:α):(if pr x=true then[IK x] else[]).length<=1:=by split<;>simp
theorem tq:∀ws:List Str,(ws.map V.str).all ig=true
 |[]=>rfl
 |w::ws=>by rw[aT,fG,tq ws];rfl
theorem zT{K:au}{H:Hp}:∀ws:List Str,Paired (Rep K H) (ws.map λw=>Dt.v (.str w)) (ws.map V.str)
 |[]=> .nil
 |w::ws=> .cons (.flat rfl) (zT ws)
theorem ER(z:Str)(ws:List Str):XU (.str z) (ws.map V.str)=decide (z∈ws):=by
 unfold XU
 apply jl.mpr
 rw[eB,decide_eq_true_iff]
 constructor
 ·rintro⟨y,hy,e⟩;obtain⟨w,hw,rfl⟩:=a5.mp hy;have e:(w==z)=true:=e;exact eq_of_beq e▸hw
 ·exact λh=>⟨.str z,a5.mpr ⟨z,h,U⟩,sC U⟩
theorem Fu(e:Str)(ns:List Str):ns.any (λn=>decide (n=e))=decide (e∈ns):=by
 apply jl.mpr
 rw[eB,decide_eq_true_iff];exact⟨λ⟨y,hy,z⟩=>ba z▸hy,λh=>⟨e,h,bf U⟩⟩
theorem y4{r:Sr}(g:r.good):Txt.split r.txt ⟨#[32]⟩=r.yF:=vQ r.txt 32 r.yF (by unfold Sr.yF;simp) (Ck g) (E5 r)
theorem OU{r s:Sr}(g:r.good)(g':s.good)(h:r.txt=s.txt):r.nm=s.nm:=by
 have e:=y4 g;rw[h,y4 g'] at e
 unfold Sr.yF at e
 injection e with _ e
 injection e with e _
 exact e.symm
def yr(nm:Str):Sr:=⟨nm,none,some .never⟩
theorem Gz(nm:Str):Str.ofString "series "++nm++Str.ofString " never"=(yr nm).txt:=by
 refine ext ?_;show _=cs (Str.ofString "series "++nm++Str.ofString " "++Str.ofString "never");simp only [dH,dj];rw[show cs (Str.ofString " never")=cs (Str.ofString " ")++cs (Str.ofString "never") by decide+kernel]
theorem CH{nm:Str}(h:Nm nm):(yr nm).good:=⟨h,(λ_ z=>nomatch z),(λt e=>by cases e;exact⟨trivial,by decide⟩),λ_ z=>nomatch z⟩
theorem Mt(rs:List Sr)(r:Sr):HO.lst ([.str r.txt]++(rs.map Sr.txt).map V.str)=jx (r::rs):=rfl
theorem iW:b_ ["_law_one","_law_other","_law_cell","_law_names_by","_law_more","_law_way"] ["_law_one","_law_other","_law_cell","_law_names_by"] (bG rZ):=⟨rfl,rfl,rfl,by decide+kernel,rfl,by decide+kernel,by decide+kernel⟩
theorem Eh{f:aj}{fd:bC}(F:je K "_law_alone" "_law_alone" rZ f fd)(T:Txt K mg bh a4 aO aN bF bE a3 aP aI aD aC ar aV bY bw bL bA bM bq a_ br bB aS bX)(e_:fi P w K mg base c8 1 "_law_name_by" ["_law_cell","_law_k"] iQ):dJ P w K mg base c8 2 f fd ["_law_one","_law_other","_law_cell","_law_names_by"] pV:=by
 refine F.ok iW (λvs H Q E h=> ?_) (λdQ A outer s H vs Q E hr h=> ?_)
 ·obtain⟨a,b,x,c,rs,vn,rfl,_⟩:=h
  rfl
 ·obtain⟨a,b,x,c,rs,vn,rfl,ha,hb,r1,r2,l1,l2,q⟩:=h;have l5:=fo;have a1:(Str.ofString "series ").length=7:=by decide+kernel
  have a2:(Str.ofString " never").length=6:=by decide+kernel
  have b1:=Ge r1 l1;have b2:=Ge r2 l2;have n70:=Lu c (k:=70) (by decide) (by decide);have add:∀{us:List Sr} {nm:Str},dO [] us->Nm nm->nm∉us.map Sr.nm->dO [] (us++[yr nm]):=λ{us nm} h hn no=>KG h ⟨CH hn,no,(λ_ z=>nomatch z),trivial⟩;have ZdO:∀{us:List Sr} {nm:Str},dO [] us->Nm nm->nm∉us.map Sr.nm->dO [] (yr nm::us):=λ{us nm} h hn no=>⟨CH hn,(λz=>nomatch z),(λ_ z=>nomatch z),Mc h no⟩
  have len:∀us:List Sr,((us.map Sr.txt).map V.str).length=us.length:=λus=>by rw[ao,ao]
  refine⟨_,(av (bS (i:=4) iW.nd U (Or.inl U) (bV bZ (bV bZ cV (cG e_ (hr.mono (by omega)) U cq (ag (pv 3) (ag a9 aA)))) cV)) (av (bS (i:=5) iW.nd U (Or.inl U) (bV fh (pv 2) a9)) (av (c9 (PW.pt (pw_or (bQ gb (pv 5) a9 (cf _)) (pw_or1 (bQ gb (pv 5) a9 (cf _))))) (aR (bS (i:=0) iW.nd U (Or.inl U) (bV tL (pv 0) (fC (ag (pv 4) aA))))) b9) (av (c9 (bQ gb (pv 5) a9 (cf _)) (aR (bS (i:=1) iW.nd U (Or.inl U) (bV tL (fC (ag (pv 4) aA)) (pv 1)))) b9) (av (c9 (bQ gb (pv 5) a9 (cf _)) (aR (bS (i:=1) iW.nd U (Or.inl U) (bV tL (pv 1) (fC (ag (bV bZ (bV bZ cV (cG e_ (hr.mono (by omega)) U cq (ag (pv 3) (ag (bV lq a9 (bV fh (bV iG (pv 2) a9) a9)) aA)))) cV) aA))))) b9) (aR (bP (ja (ag (pv 0) (ag (pv 1) aA)))))))))), ?_⟩
  refine⟨_,U,c,70,U,by decide,by decide,λH1 s1=>⟨_,_,rfl,rfl,by rw[a1];have:=n70.2.1;omega,_,_,rfl,rfl,by rw[a7,a1,a2];have:=n70.2.1;omega, ?_⟩⟩
  rw[Gz];refine(vI U (by show(0:Int)<7;decide) ?_)
  have OA:=s1 _ _ ha;have NQ:=s1 _ _ hb;refine(λ(rest:∀(a':aj) (us:List Sr) (H2:Hp),bU H1 H2->H2 a'=some (jx us)->dO [] us->us.length<=13->(_:L2.St->Hp->Prop) [some (.ref a'),some (.ref b),some (.int x),some (.int c),some (.str (yr (jb c 70)).txt),some (.int (x%7))] H2)=>⟨_,U,U,_,U,gW (λ_=>jH ?y1) (λ_=>vEq U U (gW (λ_=> ?y2) (λ_=>rest a rs H1 (bU.refl _) OA b1 (by omega))))⟩) ?rest
  case y1|y2=>
   refine⟨_,U,_,U,(by show 1<=sizeLine;omega),λL hL=>⟨a,L,_,_,U,U,cK.of (aU hL _ _ OA),cK.of ay,(by rw[len];show rs.length+1<=sizeLine;omega),λD hD=> ?_⟩⟩
   exact rest D (rs++[yr (jb c 70)]) _ ((aU hL).trans (aU hD)) (by rw[ay,rJ]) (add b1 n70 (DZ r1 l1 (by decide))) (by rw[bb];show rs.length+1<=13;omega)
  case rest=>
   intro a' us H2 s2 VE bu lu;have hb2:=s2 _ _ NQ;have Lc:=s1.trans s2;refine(λ(fin:∀(b':aj) (OL:List Sr) (H3:Hp),bU H2 H3->H3 b'=some (jx OL)->dO [] OL->OL.length<=13->∀p,H3 p=none->Q (.ref p) (upd H3 p (.tup [.ref a',.ref b'])))=> ?_) (λb' OL H3 s3 hb3 bu' lu' p hp=>q us OL p a' b' _ (Lc.trans (s3.trans (aU hp))) ay (aU hp _ _ (s3 _ _ VE)) (aU hp _ _ hb3) bu bu' lu lu');have YN:2<=sizeLine:=sl;refine(vEq U U (gW (λe=> ?_) (λ_=> ?_)))
   ·have e:V.int (x%7)=V.int 2:=ba e;have n3:¬V.int (x%7)=V.int 3:=λz=>by rw[e] at z;cases z
    refine⟨_,U,(by show 1<=sizeLine;omega),λL hL=>⟨_,U,L,b,_,_,U,U,cK.of ay,cK.of (aU hL _ _ hb2),(by rw[len];show 1+vn.length<=sizeLine;omega),λD hD=> ?_⟩⟩
    refine(vEq U U (jT n3 ⟨_,U,_,U,YN,λp hp=> ?_⟩));exact fin D (yr (jb c 70)::vn) _ ((aU hL).trans (aU hD)) (by rw[ay,Mt]) (ZdO b2 n70 (DZ r2 l2 (by decide))) (by show vn.length+1<=13;omega) p hp
   ·refine(vEq U U (gW (λe=> ?_) (λ_=>⟨_,U,_,U,YN,λp hp=>fin b vn H2 (bU.refl _) hb2 b2 (by omega) p hp⟩)));have k0:=d0 (x/7) (show(3:Int)≠0 by decide);have k1:=dq (x/7) (show(0:Int)<3 by decide);have nz:=Lu c (k:=71+x/7%3) (by omega) (by omega);have nn:=DZ r2 l2 (k:=71+x/7%3) (by omega);have lz:=nz.2.1;refine⟨_,U,_,U,vI U ⟨by decide,by decide⟩ ⟨_,_,U,U,(by show(0:Int)<3;decide),_,_,U,U,c,71+x/7%3,U,by omega,by omega,λH3 s3=>⟨_,_,rfl,rfl,by rw[a1];omega,_,_,rfl,rfl,by rw[a7,a1,a2];omega, ?_⟩⟩⟩
    rw[Gz];refine⟨(by show 1<=sizeLine;omega),λL hL=>⟨b,L,_,_,U,U,cK.of (aU hL _ _ (s3 _ _ hb2)),cK.of ay,(by rw[len];show vn.length+1<=sizeLine;omega),λD hD=>⟨_,U,_,U,YN,λp hp=> ?_⟩⟩⟩
    exact fin D (vn++[yr (jb c (71+x/7%3))]) _ (s3.trans ((aU hL).trans (aU hD))) (by rw[ay,rJ]) (add b2 nz nn) (by rw[bb];show vn.length+1<=13;omega) p hp
theorem vS:b_ ["_law_row","_law_names","_law_words"] ["_law_row","_law_names"] (bG rY):=⟨rfl,rfl,rfl,by decide+kernel,rfl,by decide+kernel,by decide+kernel⟩
theorem Eg{f:aj}{fd:bC}(F:je K "_law_ready" "_law_ready" rY f fd)(T:Txt K mg bh a4 aO aN bF bE a3 aP aI aD aC ar aV bY bw bL bA bM bq a_ br bB aS bX):dJ P w K mg base c8 1 f fd ["_law_row","_law_names"] pU:=by
 refine F.ok vS (λvs H Q E h=> ?_) (λdQ A outer s H vs Q E hr h=> ?_)
 ·obtain⟨r,q,ns,rfl,_⟩:=h
  rfl
 ·obtain⟨r,nq,ns,rfl,hn,g,q⟩:=h;have l5:=fo;have ll:=vK g;refine⟨_,(av (bS (i:=2) vS.nd U (Or.inl U) (i6 dE eO i8 mK (pv 0) (ag cV aA))) (aR (bP (Zah (qm wg (dI dY (pv 2) a9 (λ_ _=>rfl)) cV (cf _)) (D_ (qm MZ (dI dY (pv 2) a9 (λ_ _=>rfl)) (pv 1) U)))))), ?_⟩;refine⟨_,U,U,r.txt,32,U,by rw[CJ],by omega,λp hp=> ?_⟩;rw[y4 g];have s1:=aU (o:=.lst (r.yF.map V.str)) hp;have hw:upd H p (.lst (r.yF.map V.str)) p=some (.lst (r.yF.map V.str)):=ay
  have hn1:=s1 _ _ hn;generalize upd H p (.lst (r.yF.map V.str))=H1 at s1 hw hn1
  have q:=q H1 s1;obtain⟨nm,el,tm⟩:=r;cases el with
  |none=>
   cases tm with
   |none=>exact absurd U (g.some U)
   |some t=>
    have hw:H1 p=some (.lst ((Str.ofString "series"::nm::t.wC (-1)).map V.str)):=hw;have un:=FV (t:=t) (c:= -1);obtain⟨w0,rest,ew⟩:∃w0 rest,t.wC (-1)=w0::rest:=by
     cases e:t.wC (-1) with
     |nil=>exact absurd e (t.zL (-1))
     |cons x y=>exact⟨x,y,U⟩
    have un:¬V.str w0=V.str (Str.ofString "under"):=λz=>by
     rw[ew] at un
     injection z with z
     exact un (by rw[z];rfl)
    rw[ew] at hw
    exact(AG U (cK.of hw) (BY U) ⟨U,_,U,GY un q⟩)
  |some e=>
   have hw:H1 p=some (.lst ((Str.ofString "series"::nm::Str.ofString "under"::e::tmW tm).map V.str)):=hw;refine(AG U (cK.of hw) (BY U) ⟨U,_,U,pF U ?_⟩);refine(AG U (cK.of hw) (BY U) ⟨_,U,nq,_,U,.inl (cK.of hn1),U,tq ns, ?_⟩);have q:Q (.bl (ns.any λn=>decide (n=e))) H1:=q;rw[Fu] at q
   exact vW q (by show V.bl _=V.bl (XU (.str e) (ns.map V.str));rw[ER])
theorem RM:∀{ns ms:List Str} {rs:List Sr},(∀x,x∈ns↔x∈ms)->dO ns rs->dO ms rs
 |_,_,[],_,_=>trivial
 |ns,ms,r::rs,h,⟨g,n,e,k⟩=>⟨g,λz=>n ((h _).mpr z),λx hx=>(h x).mp (e x hx),RM (λx=>by rw[a8,a8,h x]) k⟩
theorem Mb:∀{ns:List Str} {rs:List Sr} {r:Sr},dO ns rs->r∈rs->r.nm∉ns
 |ns,x::rs,r,⟨g,n,e,k⟩,h=>by
  rcases aJ.mp h with rfl|h
  ·exact n
  ·exact λz=>Mb k h (cN _ z)
theorem Ma:∀{ns:List Str} {as bs:List Sr} {r:Sr},dO ns (as++r::bs)->dO (ns++[r.nm]) (as++bs)
 |ns,[],bs,r,⟨_,_,_,k⟩=>k
 |ns,a::as,bs,r,⟨g,n,e,k⟩=>by
  have no:=Mb k (r:=r) (aw _ (aB ..));refine⟨g,λz=> ?_,λx hx=>cN _ (e x hx),RM (λx=> ?_) (Ma k)⟩
  ·rcases a8.mp z with z|z
   ·exact n z
   ·exact no (aw _ (by rw[dm] at z⊢;exact z.symm))
  ·simp only [a8,dm];exact or_right_comm
theorem VO:∀{ns:List Str} {rs:List Sr},dO ns rs->(rs.map Sr.nm).Nodup
 |_,[],_=>l7
 |ns,r::rs,⟨_,_,_,k⟩=>by
  rw[aT];refine cD.mpr ⟨λz=> ?_,VO k⟩;obtain⟨x,hx,e⟩:=a5.mp z;exact Mb k hx (by rw[e];exact aw _ (vD _))
theorem Lh:∀{rs:List Sr} {r:Sr},(rs.map Sr.nm).Nodup->(∀x∈rs,x.good)->r∈rs->∃as bs,rs=as++r::bs/\rs.filter (λx=> !decide (x.txt=r.txt))=as++bs
 |x::rs,r,nd,g,h=>by
  rw[aT] at nd
  obtain⟨off,nd⟩:=cD.mp nd;have gx:=g x (aB ..);have g':∀y∈rs,y.good:=λy hy=>g y (aF _ hy);have gr:=g r h
  by_cases e:x.txt=r.txt
  ·have en:=OU gx gr e;have hx:x=r:=by
    rcases aJ.mp h with z|z
    ·exact z.symm
    ·exact absurd (a5.mpr ⟨r,z,en.symm⟩) off
   subst hx;refine⟨[],rs,U, ?_⟩;rw[lH (by simp)];refine List.filter_eq_self.mpr λy hy=> ?_;rw[fL,vx];exact λz=>off (a5.mpr ⟨y,hy,OU (g' y hy) gx z⟩)
  ·have h:r∈rs:=by
    rcases aJ.mp h with z|z
    ·exact absurd (by rw[z]) e
    ·exact z
   obtain⟨as,bs,e1,e2⟩:=Lh nd g' h;exact⟨x::as,bs,by rw[e1];rfl,by rw[lG (by rw[bJ e];rfl),e2];rfl⟩
theorem FW(pr:Sr->Bool)(rs:List Sr):rs.flatMap (λr=>if pr r=true then[V.str r.txt] else[])=((rs.filter pr).map Sr.txt).map V.str:=by
 rw[nM (λr:Sr=>V.str r.txt) pr,cM]
 rfl
theorem zR(rs:List Sr):(rs.map Sr.txt).map V.str=rs.map λr=>V.str r.txt:=by
 rw[cM]
 rfl
theorem fN:b_ ["_law_rows_here","_law_number","_law_left","_law_found","_law_names","_law_ready_here","_law_row"] ["_law_rows_here","_law_number"] (bG og):=⟨rfl,rfl,rfl,by decide+kernel,rfl,by decide+kernel,by decide+kernel⟩
theorem An{f:aj}{fd:bC}(F:je K "_law_fitting" "_law_fitting" og f fd)(T:Txt K mg bh a4 aO aN bF bE a3 aP aI aD aC ar aV bY bw bL bA bM bq a_ br bB aS bX)(sJ:fi P w K mg base c8 1 "_law_ready" ["_law_row","_law_names"] pU):dJ P w K mg base c8 2 f fd ["_law_rows_here","_law_number"] mn:=by
 refine F.ok fN (λvs H Q E h=> ?_) (λdQ A outer s H vs Q E hr h=> ?_)
 ·obtain⟨p,rs,n,rfl,_⟩:=h
  rfl
 ·obtain⟨p,rs,n0,rfl,hp,bk,lr,q⟩:=h;have l5:=fo;have II:=Kf hr;refine⟨_,(av (bS (i:=2) fN.nd U (Or.inl U) (g_ lU (by rfl) T.S7 wX (ag (pv 0) aA))) (av (bS (i:=3) fN.nd U (Or.inl U) (fC aA)) (av (bS (i:=4) fN.nd U (Or.inr U) (fC aA)) (av (Gj eD (bQ (P1 II) (pv 2) (fC aA) (cf _)) (av (vX (i:=5) ["_law_row"] [("_law_names",4)] fN.nd U (Or.inl U) U (gk (pv 2)) (by rfl) (by exact⟨U,trivial⟩) (by rfl) (by exact⟨⟨U,U,U⟩,trivial⟩) (λ_ _ _ _=>(cR (i:=0) (show(t_ ["_law_row"] [("_law_names",4)]).Nodup by decide+kernel) U (Or.inl U))) (λ_ _ _ _=>(tG (iS (cG sJ (hr.mono (by omega)) U cq (ag (pv 0) (ag (pv 1) aA)))))) (λ_ _ _ _=>(pv 0))) (av (bS (i:=6) fN.nd U (Or.inr U) (dI dY (pv 5) (bV fh (pv 1) (cg fz (by rfl) T.j6 gE (ag (pv 5) aA))) (λ_ _=>rfl))) (av (bS (i:=1) fN.nd U (Or.inl U) (bV fh (bV lq (bV tK (pv 1) a9) a9) a9)) (av (gY (i6 cH cT cS gG (pv 3) (ag (pv 6) aA))) (av (gY (i6 cH cT cS gG (pv 4) (ag (dI dY (i6 dE eO i8 mK (pv 6) (ag cV aA)) a9 (λ_ _=>rfl)) aA))) (aR (vX (i:=2) ["_law_other"] [("_law_row",6)] fN.nd U (Or.inl U) U (gk (pv 2)) (by rfl) (by exact⟨U,trivial⟩) (by rfl) (by exact⟨⟨U,U,U⟩,trivial⟩) (λ_ _ _ _=>(cR (i:=0) (show(t_ ["_law_other"] [("_law_row",6)]).Nodup by decide+kernel) U (Or.inl U))) (λ_ _ _ _=>(tG (bQ wg (pv 0) (pv 1) (cf _)))) (λ_ _ _ _=>(pv 0)))))))))) (aR (bP (pv 3))))))), ?_⟩
  refine⟨_,U,p,_,U,.inl (cK.of hp),λL0 hL0=> ?_⟩;refine⟨bz _,λF hF=>⟨bz _,λN hN=> ?_⟩⟩;have dF:upd (upd (upd H L0 (.lst ((rs.map Sr.txt).map V.str))) F (.lst [])) N (.lst []) F=some (jx []):=aU hN _ _ ay;have dL:upd (upd (upd H L0 (.lst ((rs.map Sr.txt).map V.str))) F (.lst [])) N (.lst []) L0=some (jx rs):=aU hN _ _ (aU hF _ _ ay);have dN:upd (upd (upd H L0 (.lst ((rs.map Sr.txt).map V.str))) F (.lst [])) N (.lst []) N=some (.lst ((([]:List Sr).map Sr.nm).map V.str)):=ay
  have s0:=(aU (o:=.lst ((rs.map Sr.txt).map V.str)) hL0).trans ((aU (o:=.lst []) hF).trans (aU (o:=.lst []) hN));have nLF:L0≠F:=λz=>by rw[<-z,ay] at hF;cases hF
  have nNF:F≠N:=λz=>by rw[<-z,ay] at hN;cases hN
  have nLN:L0≠N:=λz=>by rw[<-z,aY nLF,ay] at hN;cases hN
  have hF0:H F=none:=none_of (aU hL0) hF;have hN0:H N=none:=none_of ((aU hL0).trans (aU hF)) hN;generalize upd (upd (upd H L0 (.lst ((rs.map Sr.txt).map V.str))) F (.lst [])) N (.lst [])=H1 at dF dL dN s0
  have len:∀us:List Sr,((us.map Sr.txt).map V.str).length=us.length:=λus=>by rw[ao,ao]
  refine⟨λm σ H'=>∃(n:Int) (L:aj) (v5 v6:Option V) (us ls:List Sr),σ=[some (.ref p),some (.int n),some (.ref L),some (.ref F),some (.ref N),v5,v6]/\H' F=some (jx us)/\H' L=some (jx ls)/\H' N=some (.lst ((us.map Sr.nm).map V.str))/\L≠F/\L≠N/\dO [] us/\dO (us.map Sr.nm) ls/\us.length+ls.length<=13/\(∀b u,b≠F->b≠N->H b=some u->H' b=some u)/\m=ls.length,⟨_,n0,L0,none,none,[],rs,U,dF,dL,dN,nLF,nLN,trivial,bk,by show 0+rs.length<=13;omega,λb u _ _ e=>s0 _ _ e,rfl⟩, ?_⟩
  rintro m σ H2 ⟨n,L,v5,v6,us,ls,rfl,dF,dL,dN,nLF,nLN,bu,bl,ll,fr,rfl⟩;have same:∀{H':Hp},(∀b u,b≠F->b≠N->H b=some u->H' b=some u)->bU H H':=λf b u e=>f b u (bI e hF0) (bI e hN0) e;have good:=qJ bl;refine⟨_,U,bz _,λE hE=>⟨1,.lst ((ls.map Sr.txt).map λw=>Dt.v (.str w)),.lst [],by decide,rfl,.lst (cK.of (aU hE _ _ dL)) (zT _),.lst (cK.of ay) .nil, ?U9,_,rfl, ?_⟩⟩
  case U9=>
   show(((ls.map Sr.txt).map λw=>Dt.v (.str w)).zip ([]:List Dt)).all _=true;rw[List.zip_nil_right]
   rfl
  have sE:=aU (o:=.lst []) hE;have dF:=sE _ _ dF;have dL:=sE _ _ dL;have dN:=sE _ _ dN;have fr:∀b u,b≠F->b≠N->H b=some u->upd H2 E (.lst []) b=some u:=λb u n1 n2 e=>sE _ _ (fr b u n1 n2 e);generalize upd H2 E (.lst [])=H3 at dF dL dN fr
  cases ls with
  |nil=>exact ic ⟨_,U,q us F H3 (same fr) dF bu (by simp at ll;omega)⟩
  |cons x0 ls0=>
   refine jH ?_;have hx0:oj x0 (us.map Sr.nm)=true:=by
    obtain⟨_,_,e,_⟩:=id bl;unfold oj;cases q:x0.el with
    |none=>rfl
    |some z=>
     show List.any _ _=true;rw[Fu];exact bf (e z q)
   have mx0:x0∈x0::ls0:=aB ..;generalize x0::ls0=ls at*
   refine⟨_,λ_ _ h=>h, ?_⟩;have dL':H3 L=some (.lst (ls.map λr=>V.str r.txt)):=by rw[<-zR];exact dL
   refine⟨_,U,L,U,⟨_,cK.of dL⟩,tV ls (λr=>V.str r.txt) (λr=>if oj r (us.map Sr.nm)=true then[V.str r.txt] else[]) dL' (by omega) (wM (λr:Sr=>V.str r.txt) _) (λr hr H4 s4 RT RF rt rf=> ?_) λR H4 hR s4 dR=> ?_⟩
   ·refine⟨⟨U,trivial⟩,_,U,_,U,r,N,_,U,s4 _ _ dN,good r hr,λH5 s5=>⟨_,U,gW (λz=>⟨_,U,rt _ _ (bg z) s5⟩) (λz=>rf _ (aX z) s5)⟩⟩
   rw[FW] at dR
   have mR:x0∈ls.filter λr=>oj r (us.map Sr.nm):=dA.mpr ⟨mx0,hx0⟩;have inR:∀r∈ls.filter (λr=>oj r (us.map Sr.nm)),r∈ls/\oj r (us.map Sr.nm)=true:=λr hr=>dA.mp hr;have lR:=fU (λr=>oj r (us.map Sr.nm)) ls;generalize ls.filter (λr=>oj r (us.map Sr.nm))=R_ at dR mR inR lR
   have pos:0<R_.length:=List.length_pos_of_mem mR;have b1:(0:Int)<(((R_.map Sr.txt).map V.str).length:Nat):=by rw[len];omega
   have m0:=d0 n (Int.ne_of_gt b1);have m1:=dq n b1;obtain⟨v,ev⟩:=A1 (xs:=(R_.map Sr.txt).map V.str) (i:=n%(((R_.map Sr.txt).map V.str).length:Nat)) (by omega) m1;obtain⟨k,_,hk,_⟩:=wY ev;obtain⟨r,hr,rfl⟩:∃r∈R_,V.str r.txt=v:=by
    have:=cI hk;rw[zR] at this
    exact a5.mp this
   obtain⟨hrl,Y2⟩:=inR r hr;have gr:=good r hrl;have s34:=s4;have dF4:=s4 _ _ dF;have dN4:=s4 _ _ dN;have dL4:=s4 _ _ dL;refine⟨_,U,_,U,_,U,_,_,U,.inl ⟨_,cK.of dR,U⟩,_,_,U,U,b1,R,_,_,_,U,U,cK.of dR,ev, ?_⟩;refine(vI U (oX (rm (by decide) (by decide))) ⟨_,_,U,U,_,_,U,U,(by show(0:Int)<2147483647;decide), ?_⟩)
   have lu:us.length<=13:=by omega
   refine⟨_,U,.inl ⟨U,_,cK.of dF4⟩,_,U,F,_,_,U,U,dF4,(by rw[len];omega), ?_⟩
   have dN5:upd H4 F (.lst ((us.map Sr.txt).map V.str++[.str r.txt])) N=some (.lst ((us.map Sr.nm).map V.str)):=by rw[aY (cY nNF)];exact dN4
   have dF5:upd H4 F (.lst ((us.map Sr.txt).map V.str++[.str r.txt])) F=some (jx (us++[r])):=by rw[ay,rJ]
   have dL5:upd H4 F (.lst ((us.map Sr.txt).map V.str++[.str r.txt])) L=some (jx ls):=by rw[aY nLF];exact dL4
   have Yj:∀b u,b≠F->b≠N->H b=some u->upd H4 F (.lst ((us.map Sr.txt).map V.str++[.str r.txt])) b=some u:=λb u n1 n2 e=>by rw[aY n1];exact s4 _ _ (fr b u n1 n2 e)
   generalize upd H4 F (.lst ((us.map Sr.txt).map V.str++[.str r.txt]))=H5 at dN5 dF5 dL5 Yj
   have ll2:=vK gr;refine⟨_,U,.inl ⟨U,_,cK.of dN5⟩,_,U,U,r.txt,32,U,by rw[CJ],by omega,λW hW=> ?_⟩;rw[y4 gr];have hW1:upd H5 W (.lst (r.yF.map V.str)) W=some (.lst (r.yF.map V.str)):=ay;have s6:=aU (o:=.lst (r.yF.map V.str)) hW;generalize upd H5 W (.lst (r.yF.map V.str))=H6 at hW1 s6
   refine⟨W,_,_,_,U,U,cK.of hW1,(show A2 (r.yF.map V.str) ((1:Nat):Int)=some (.str r.nm) from BY rfl),N,_,_,U,U,s6 _ _ dN5,(by rw[ao,ao];omega), ?_⟩
   have eN:(us.map Sr.nm).map V.str++[.str r.nm]=((us++[r]).map Sr.nm).map V.str:=by rw[bN,bN];rfl
   rw[eN];have dN7:upd H6 N (.lst (((us++[r]).map Sr.nm).map V.str)) N=some (.lst (((us++[r]).map Sr.nm).map V.str)):=ay;have IL:upd H6 N (.lst (((us++[r]).map Sr.nm).map V.str)) F=some (jx (us++[r])):=by rw[aY nNF];exact s6 _ _ dF5
   have dL7:upd H6 N (.lst (((us++[r]).map Sr.nm).map V.str)) L=some (jx ls):=by rw[aY nLN];exact s6 _ _ dL5
   have fr7:∀b u,b≠F->b≠N->H b=some u->upd H6 N (.lst (((us++[r]).map Sr.nm).map V.str)) b=some u:=λb u n1 n2 e=>by rw[aY n2];exact s6 _ _ (Yj b u n1 n2 e)
   generalize upd H6 N (.lst (((us++[r]).map Sr.nm).map V.str))=H7 at dN7 IL dL7 fr7
   have dL8:H7 L=some (.lst (ls.map λr=>V.str r.txt)):=by rw[<-zR];exact dL7
   refine⟨_,U,L,U,⟨_,cK.of dL7⟩,tV ls (λr=>V.str r.txt) (λx=>if(!decide (x.txt=r.txt))=true then[V.str x.txt] else[]) dL8 (by omega) (wM (λr:Sr=>V.str r.txt) λx=> !decide (x.txt=r.txt)) (λx hx H8 s8 RT RF rt rf=> ?_) λL2 H8 Zg s8 dL2=> ?_⟩
   ·have ed:decide (V.str x.txt=V.str r.txt)=decide (x.txt=r.txt):=decide_eq_decide.mpr ⟨λz=>by injection z,λz=>by rw[z]⟩;refine⟨⟨U,trivial⟩,_,U,_,U,U,_,U, ?_⟩;rw[ed];exact gW (λz=>⟨_,U,rt _ _ (bg z) (bU.refl _)⟩) (λz=>rf _ (aX z) (bU.refl _))
   obtain⟨as,bs,e1,e2⟩:=Lh (VO bl) good hrl;rw[FW λx=> !decide (x.txt=r.txt),e2] at dL2
   have nr:=Mb bl hrl;have er:∀e,r.el=some e->e∈us.map Sr.nm:=λe he=>by
    unfold oj at Y2
    rw[he] at Y2
    have Y2:List.any _ _=true:=Y2;rw[Fu] at Y2
    exact ba Y2
   have el:ls.length=(as++bs).length+1:=by rw[e1,bb,bb,aZ];omega
   rw[e1] at bl
   refine⟨_,el▸eh (as++bs).length,_,L2,_,_,us++[r],as++bs,U,s8 _ _ IL,dL2,s8 _ _ dN7,λz=> ?_,λz=> ?_,KG bu ⟨gr,nr,er,trivial⟩,(by rw[bN];exact Ma bl),(by rw[bb];show us.length+1+_<=13;omega),(λb u n1 n2 e=>s8 _ _ (fr7 b u n1 n2 e)),U⟩
   ·rw[z,IL] at Zg;cases Zg
   ·rw[z,dN7] at Zg;cases Zg
theorem empty_app(x:Str):Str.empty++x=x:=ext (by rw[dH];rfl)
theorem rR:b_ ["self","name"] ["self","name"] (bG kE):=⟨rfl,rfl,rfl,by decide+kernel,rfl,by decide+kernel,by decide+kernel⟩
theorem Ap{f:aj}{fd:bC}(F:je K "__init__" "Unlike.__init__" kE f fd)(T:Txt K mg bh a4 aO aN bF bE a3 aP aI aD aC ar aV bY bw bL bA bM bq a_ br bB aS bX)(mJ:yX "Unlike" aS f mg base):dJ P w K mg base c8 1 f fd ["self","name"] (iR aS):=by
 refine F.ok rR (λvs H Q E h=> ?_) (λdQ A outer s H vs Q E hr h=> ?_)
 ·obtain⟨e,z,rfl,_⟩:=h
  rfl
 ·obtain⟨e,z,rfl,he,lz,q⟩:=h;have l5:=fo;have l1:(Str.ofString "only one of the books has the series ").length=37:=by decide+kernel
  refine⟨_,(av (gY (yp (by rfl) T.qu T.Lg T.LQ T.LV (ag (pv 0) (ag (Ln (y_ PR (y_ (PM (pv 1)) PN))) aA)))) (aR (Li (pv 0) (pv 1) (by rfl)))), ?_⟩;refine⟨_,U,by rw[empty_app];omega,_,rfl,z,rfl,by omega,by rw[empty_app,a7];omega,by rw[empty_app,a7];omega,e,aS,_,_,f,rfl,he,mJ, ?_⟩
  exact⟨_,U,_,U,e,aS,U,he,T.Cb,q⟩
theorem yN{f:aj}{fd:bC}(F:je K "__init__" "Unlike.__init__" kE f fd)(T:Txt K mg bh a4 aO aN bF bE a3 aP aI aD aC ar aV bY bw bL bA bM bq a_ br bB aS bX)(mJ:yX "Unlike" aS f mg base):FnH P w K mg base 1 f fd ["self","name"] (iR aS):=by
 refine okH F rR (λvs H Q E h=> ?_) (λdQ c A outer s H vs Q E h=> ?_)
 ·obtain⟨e,z,rfl,_⟩:=h
  rfl
 ·obtain⟨e,z,rfl,he,lz,q⟩:=h;have l5:=fo;have l1:(Str.ofString "only one of the books has the series ").length=37:=by decide+kernel
  refine⟨_,(av (gY (yp (by rfl) T.qu T.Lg T.LQ T.LV (ag (pv 0) (ag (Ln (y_ PR (y_ (PM (pv 1)) PN))) aA)))) (aR (Li (pv 0) (pv 1) (by rfl)))), ?_⟩;refine⟨_,U,by rw[empty_app];omega,_,rfl,z,rfl,by omega,by rw[empty_app,a7];omega,by rw[empty_app,a7];omega,e,aS,_,_,f,rfl,he,mJ, ?_⟩
  exact⟨_,U,_,U,e,aS,U,he,T.Cb,q⟩
theorem Bu:b_ ["_law_told","_law_due"] ["_law_told","_law_due"] (bG qc):=⟨rfl,rfl,rfl,by decide+kernel,rfl,by decide+kernel,by decide+kernel⟩
theorem BD{f:aj}{fd:bC}(F:je K "_law_unlike" "_law_unlike" qc f fd)(T:Txt K mg bh a4 aO aN bF bE a3 aP aI aD aC ar aV bY bw bL bA bM bq a_ br bB aS bX):dJ P w K mg base c8 1 f fd ["_law_told","_law_due"] (nQ aS):=by
 refine F.ok Bu (λvs H Q E h=> ?_) (λdQ A outer s H vs Q E hr h=> ?_)
 ·obtain⟨e,d,z,rfl,_⟩:=h
  rfl
 ·obtain⟨e,d,z,rfl,he,hd,q⟩:=h;have l5:=fo;refine⟨_,(av (c9 (PW.pt (pw_or (mH (iS (cg uA (by rfl) T.b7 eg (ag (pv 0) (ag (fu (v:=.ref aS) U T.Np U) aA))))) (pw_or1 (mH (iS (cg uA (by rfl) T.b7 eg (ag (pv 0) (ag (qo (v:=.ty "ValueError") U T.u9 BW U) aA)))))))) (aR (bP si)) b9) (av (c9 (iS (cg AU (by rfl) T.b7 eg (ag (pv 0) (ag (ja (ag (fu (v:=.ref a_) U T.Ex U) (ag (fu (v:=.ref bM) U T.Nr U) (ag (fu (v:=.ref bY) U T.Qm U) (ag (fu (v:=.ref bw) U T.GG U) (ag (fu (v:=.ref bX) U T.Ql U) (ag (fu (v:=.ref br) U T.GF U) (ag (fu (v:=.ref bL) U T.Nq U) (ag (fu (v:=.ref bq) U T.GD U) (ag (fu (v:=.ref bB) U T.JQ U) (ag (fu (v:=.ref bA) U T.JP U) aA))))))))))) aA)))) (aR (bP si)) b9) (aR (bP (Jy (cg gK (by rfl) T.b7 eg (ag (Lm (pv 0) (by rfl)) (ag (qo (v:=.ty "str") U T.Z0i KA U) aA))) (D_ (qm gb (Lm (pv 0) (by rfl)) (pv 1) (cf _)))))))), ?_⟩
  refine⟨_,U,e,aS,d,_,_,_,_,true,U,he,hd,T.oZ,U,T.Ke,_,U,ic ?_⟩;refine⟨_,U,e,aS,d,_,_,_,_,true,U,he,hd,T.oZ,U,T.XX,_,U,ic ?_⟩;refine⟨_,U,(by show 10<=sizeLine;omega),λp hp=> ?_⟩
  have s1:=λo=>aU (H:=H) (p:=p) (o:=o) hp;refine⟨e,aS,d,_,_,p,_,_,false,U,s1 _ _ _ he,s1 _ _ _ hd,T.oZ,ay,U,T.Kc,_,U,ic ?_⟩;refine⟨_,U,e,aS,d,_,U,s1 _ _ _ he,s1 _ _ _ hd,T.oZ,T.Cc,_,_,_,_,true,U,U,pL.str _,T.kss,_,U,jH ?_⟩;exact⟨_,U,e,aS,d,_,U,s1 _ _ _ he,s1 _ _ _ hd,T.oZ,T.Cc,_,U,U,vW (q _ (s1 _)) (by rw[bf rfl])⟩
theorem Bx:b_ ["found"] ["found"] (bG qf):=⟨rfl,rfl,rfl,by decide+kernel,rfl,by decide+kernel,by decide+kernel⟩
theorem BG{f:aj}{fd:bC}(F:je K "kinds_told" "kinds_told" qf f fd)(T:Txt K mg bh a4 aO aN bF bE a3 aP aI aD aC ar aV bY bw bL bA bM bq a_ br bB aS bX):dJ P w K mg base c8 1 f fd ["found"] kC:=by
 refine F.ok Bx (λvs H Q E h=> ?_) (λdQ A outer s H vs Q E hr h=> ?_)
 ·obtain⟨d,l,z,k,rfl,_⟩:=h
  rfl
 ·obtain⟨d,l,z,k,rfl,hd,hl,q⟩:=h;refine⟨_,(aR (bP (cg tW (by rfl) T.j6 gE (ag (dI jc (pv 0) a9 (λ_ _=>rfl)) aA)))), ?_⟩;refine GX U (jU.of hd) U ⟨l,_,U,hl, ?_⟩;rw[eT];exact q H (bU.refl H)
theorem yZ.same{cn ca cl ce:aj}{H H':Hp}(s:bU H H'){p:aj}{rs:List Sr}:yZ cn ca cl ce H p rs->yZ cn ca cl ce H' p rs
 |⟨ds,h,t⟩=>⟨ds,s _ _ h,jE s t⟩
theorem zw{cn ca cl ce p:aj}{own:List Str}{fr:List (Str×Nat)}{g:TG}{tc:TT}{te:TE}{σ:L2.St}{H:Hp}{Q:VK}{rs:List Sr}(hb:yZ cn ca cl ce H p rs)(hl:rs.length<=13)
  (step:∀d z x y H2,H2 d=some (.tup [.str z,x,y])->∀(RT:V->Hp->Prop) (RF:Hp->Prop),(∀H6,bU H2 H6->RT (.str z) H6)->g (.ref d) (BR own fr σ) H2 λσ3 H4=>Ext (BR own fr σ) σ3/\tc σ3 H4 λb H5=>if b=true then te σ3 H5 RT else RF H5)
  (q:∀D H2,H D=none->bU H H2->H2 D=some (.lst ((rs.map Sr.nm).map V.str))->Q (.ref D) H2):IE (Yz K p) own fr g tc te σ H Q:=by
 obtain⟨ds,hp,pr⟩:=hb;have le:=cA pr;have l5:=fo;refine wU ds.length (λj=>[((rs[j]?).map λr=>V.str r.nm).getD .fR]) (by omega) (λj=>aE 1) (λj H4 s4 lt=>⟨_,_,cK.of (s4 _ _ hp),aK (by rw[ao];exact lt)⟩) (λH4 s4=>⟨_,cK.of (s4 _ _ hp),by rw[ao];exact aE _⟩) (λj y H4 H5 s4 lt yl RT RF rt rf=> ?_) λD H4 hD s4 d4=> ?_
 ·obtain⟨rfl,yl⟩:=yl;obtain⟨d,rfl,ed⟩:=Ld (yl _ (cK.of (s4 _ _ hp)));obtain⟨r,er,v,hd,_⟩:=xE (jE s4 pr) j d ed;exact step d r.nm _ _ _ hd RT RF λH6 s6=>rt _ _ (by rw[er];rfl) s6
 ·refine q D H4 hD s4 ?_;rw[d4,kN,le,Cy rs (λr=>V.str r.nm) .fR,cM]
  rfl
theorem Ga:b_ ["book"] ["book"] (bG uT):=⟨rfl,rfl,rfl,by decide+kernel,rfl,by decide+kernel,by decide+kernel⟩
theorem Gs{f:aj}{fd:bC}(F:je K "names_of" "names_of" uT f fd)(T:Txt K mg bh a4 aO aN bF bE a3 aP aI aD aC ar aV bY bw bL bA bM bq a_ br bB aS bX):dJ P w K mg base c8 1 f fd ["book"] (rM aI aD aC ar):=by
 refine F.ok Ga (λvs H Q E h=> ?_) (λdQ A outer s H vs Q E hr h=> ?_)
 ·obtain⟨p,rs,rfl,_⟩:=h
  rfl
 ·obtain⟨p,rs,rfl,hb,hl,q⟩:=h;refine⟨_,(aR (bP (kF ["series"] [] U (gk (pv 0)) (by rfl) (by exact trivial) (by rfl) (by exact trivial) (λ_ _ _ _=>(cR (i:=0) (show(t_ ["series"] []).Nodup by decide+kernel) U (Or.inl U))) (λ_ _ _ _=>lN) (λ_ _ _ _=>(dI (zo (K:=K) U) (pv 0) a9 (λ_ _=>rfl)))))), ?_⟩;obtain⟨ds,hp,pr⟩:=id hb;refine⟨_,U,p,U,⟨_,cK.of hp⟩,zw hb hl (λd z x y H2 hd RT RF rt=> ?_) q⟩;refine⟨trivial, ?_⟩
  unfold qX;exact jH (GX U (jU.of hd) U (rt _ (bU.refl _)))
theorem wB:∀{xs:List Nat} {x:Nat},x∈xs->Ax xs<=x
 |y::xs,x,h=>by
  unfold Ax
  split
  ·rename_i e
   rw[e] at h
   rw[dm.mp h];exact aE _
  ·rcases aJ.mp h with rfl|h
   ·exact Nat.min_le_left ..
   ·exact bD (Nat.min_le_right ..) (wB h)
theorem pB:∀{xs:List Nat},xs≠[]->Ax xs∈xs
 |[],h=>absurd rfl h
 |y::xs,_=>by
  unfold Ax
  split
  ·exact aB ..
  ·rename_i e
   rcases Nat.le_total y (Ax xs) with z|z
   ·rw[Nat.min_eq_left z];exact aB ..
   ·rw[Nat.min_eq_right z];exact aF _ (pB e)
theorem Qk{xs ys:List Nat}(h1:∀x∈xs,∃y∈ys,y<=x)(h2:∀y∈ys,∃x∈xs,x<=y):Ax xs=Ax ys:=by
 by_cases e:xs=[]
 ·have e2:ys=[]:=by
   cases ys with
   |nil=>rfl
   |cons y ys=>
    obtain⟨x,hx,_⟩:=h2 y (aB ..);rw[e] at hx
    cases hx
  rw[e,e2]
 ·have m1:=pB e;obtain⟨y,hy,l1⟩:=h1 _ m1;have m2:=pB (kX hy);obtain⟨x,hx,l2⟩:=h2 _ m2;exact Mn (bD (wB hx) l2) (bD (wB hy) l1)
theorem uQ{t u:Tr}:short t u=0↔ju t u=[]:=by
 constructor
 ·intro h;cases e:ju t u with
  |nil=>rfl
  |cons c r=>
   exfalso
   have m:=pB (xs:=(ju t u).map List.length) (by rw[e];simp)
   obtain⟨d,hd,ed⟩:=a5.mp m;have:=(tT hd).1;exact this (eV (ed.trans h))
 ·intro h;unfold short;rw[h]
  rfl
theorem Ir{c d:Tb}(h:d.length<c.length):M4.gh d c=true:=by
 show(if((d.length:Nat):Int)=((c.length:Nat):Int) then _ else jF (d.length:Int) (c.length:Int))=true;rw[aX (by omega)];exact bf (by omega)
theorem Pd{t u:Tr}{c:Tb}(hc:c∈ju t u)(lo:∀d∈ju t u,M4.gh d c=false):c.length=short t u:=by
 have m:=pB (xs:=(ju t u).map List.length) (kX (a5.mpr ⟨c,hc,rfl⟩));obtain⟨d,hd,ed⟩:=a5.mp m;have l:=wB (a5.mpr ⟨c,hc,rfl⟩:c.length∈(ju t u).map List.length);refine Mn (fX λz=> ?_) l;have:=lo d hd;rw[Ir (by unfold short at z;omega)] at this
 cases this
theorem Ji(t:Tr):short t t=0:=uQ.mpr (by
 have h:yK (bW t) (bW t)=[]:=List.filter_eq_nil_iff.mpr λw hw=>by
  rw[fL,Bool.not_eq_false,eB];exact⟨w,hw,bf U⟩
 show _++_=[];rw[h]
 rfl)
theorem RQ{a b c:Tb}(hb:M4.Nd b)(h1:below a b=true)(h2:below b c=true):below a c=true:=M4.i5.mpr λp hp=>by
 obtain⟨u,e,q⟩:=M4.i5.mp h1 p hp;obtain⟨v,e2,q2⟩:=M4.i5.mp h2 (p.1,u) ((M4.gO hb).mp e);exact⟨v,e2,by have:u<=v:=q2;omega⟩
def eL(ws us:List Tb):List Tb:=ws.filter λw=> !(us.any λu=>below u w)
theorem LS{t u:Tr}{w:Tb}(h:w∈eL (bW t) (bW u)):w∈yK (bW t) (bW u):=by
 obtain⟨hw,no⟩:=dA.mp h;refine QS hw λz=> ?_;rw[fL] at no
 exact List.any_eq_false.mp no w z (M4.AY (dM u w z).1.nd)
theorem LU{t u:Tr}{d:Tb}(h:d∈yK (bW t) (bW u)):∃w,(w∈eL (bW t) (bW u)\/w∈eL (bW u) (bW t))/\w.length<=d.length:=by
 have hd:=tJ h;have nfd:=(dM t d hd).1
 by_cases z:(bW u).any (λb=>below b d)=true
 ·obtain⟨b,hb,e⟩:=eB.mp z;have nfb:=(dM u b hb).1;have lo:=M4.sP nfd nfb e;refine⟨b,.inr (dA.mpr ⟨hb, ?_⟩),fX λl=>by rw[Ir l] at lo;cases lo⟩
  rw[fL];refine List.any_eq_false.mpr λa ha e2=> ?_;have ea:=Iy hd ha (RQ nfb.nd e2 e);subst ea;have lo2:=M4.sP nfb nfd e2;have eb:a=b:=by
   rcases M4.kP.IZ a b with y|y|y
   ·rw[lo] at y;cases y
   ·exact y
   ·rw[lo2] at y;cases y
  exact JA h (eb▸hb)
 ·exact⟨d,.inl (dA.mpr ⟨hd,by rw[fL];exact FO.mpr z⟩),aE _⟩
theorem Rc(t u:Tr):Ax ((eL (bW t) (bW u)++eL (bW u) (bW t)).map List.length)=short t u:=by
 refine Qk (λx hx=> ?_) (λy hy=> ?_)
 ·obtain⟨w,hw,rfl⟩:=a5.mp hx;refine⟨w.length,a5.mpr ⟨w, ?_,U⟩,aE _⟩;exact(a8.mp hw).elim (λz=>cN _ (LS z)) λz=>aw _ (LS z)
 ·obtain⟨d,hd,rfl⟩:=a5.mp hy;rcases a8.mp hd with z|z
  ·obtain⟨w,hw,l⟩:=LU z;exact⟨w.length,a5.mpr ⟨w,a8.mpr hw,U⟩,l⟩
  ·obtain⟨w,hw,l⟩:=LU z;exact⟨w.length,a5.mpr ⟨w,a8.mpr hw.symm,U⟩,l⟩
theorem K0{rs:List Sr}(bk:dO [] rs){z:Str}(hz:z∈rs.map Sr.nm):∃r,wc rs.reverse (some z)=some r/\r.tm=some (ma rs z)/\(ma rs z).good/\(ma rs z).cnt<=10:=by
 obtain⟨r,hr,t,e1,e2⟩:=Jz rs.reverse (some z) (UX bk) (λn hn=>by cases hn;rw[vE,IS];exact hz) (λy=>nomatch y)
 have e:ma rs z=t:=by
  unfold ma;rw[e1];show r.tm.getD .never=t;rw[e2]
  rfl
 obtain⟨gt,ct⟩:=(qJ bk r (List.mem_reverse.mp hr)).tm t e2;exact⟨r,e1,by rw[e];exact e2,by rw[e];exact gt,by rw[e];exact ct⟩
theorem Ac:∀(xs:List Str) (p:Str),risingS p xs=true->(∀x∈xs,strLt x p=false)/\M4.Mi strLt xs
 |[],_,_=>⟨(λ_ h=>nomatch h),.nil⟩
 |x::r,p,h=>by
  have h:(!ltCps x.cps.toList p.cps.toList&&risingS x r)=true:=h;rw[ltCps_eq] at h
  have h:(!strLt x p&&risingS x r)=true:=h;rw[cZ] at h
  have hx:strLt x p=false:=by simpa using h.1
  obtain⟨k1,k2⟩:=Ac r x h.2;refine⟨λy hy=> ?_,dU.mpr ⟨λy hy=>k1 y hy,k2⟩⟩;obtain rfl|hr:=aJ.mp hy
  ·exact hx
  ·cases e:strLt y p with
   |false=>rfl
   |true=>
    rcases jZ.IZ x y with a|a|a
    ·rw[jZ.tr _ _ _ a e] at hx;cases hx
    ·subst a;rw[e] at hx;cases hx
    ·rw[k1 y hr] at a;cases a
theorem uP{zs:List Str}(h:sortedS zs=true):M4.Mi strLt zs:=by
 cases zs with
 |nil=>exact .nil
 |cons x r=>
  obtain⟨k1,k2⟩:=Ac r x h;exact dU.mpr ⟨k1,k2⟩
theorem Jd{a b c:List Str}(pa:a.Perm c)(pb:b.Perm c)(ha:sortedS a=true)(hb:sortedS b=true):a=b:=M4.zy jZ (pa.trans pb.symm) (uP ha) (uP hb)
theorem sO{α:Type}{f:α->Nat}{p:α->Bool}:∀{xs:List α} {x:α},(∃i:Nat,(xs.filter p)[i]? =some x/\∀(j:Nat) (y:α),(xs.filter p)[j]? =some y->f x<=f y/\(j<i->f x<f y))->YD f p xs x
 |[],x,⟨i,h,_⟩=>by simp at h
 |a::xs,x,⟨i,h,k⟩=>by
  cases pa:p a with
  |false=>
   rw[lH (by rw[pa];exact bj)] at h k
   obtain⟨j,e,px,q⟩:=sO ⟨i,h,k⟩;refine⟨j+1,by simpa using e,px,λm y hy py=> ?_⟩;cases m with
   |zero=>
    have:a=y:=by simpa using hy
    rw[<-this,pa] at py
    cases py
   |succ m=>
    have:=q m y (by simpa using hy) py;exact⟨this.1,λz=>this.2 (by omega)⟩
  |true=>
   rw[lG pa] at h k
   cases i with
   |zero=>
    obtain rfl:a=x:=by simpa using h
    refine⟨0,U,pa,λm y hy py=>⟨?_,λz=>absurd z (eI _)⟩⟩;cases m with
    |zero=>
     have:a=y:=by simpa using hy
     rw[this];exact aE _
    |succ m=>
     have my:y∈xs.filter p:=dA.mpr ⟨cI (by simpa using hy:xs[m]? =some y),py⟩;obtain⟨n,hn,e⟩:=eU my;exact(k (n+1) y (by rw[List.getElem?_cons_succ,aK hn,e])).1
   |succ i=>
    have fa:=(k 0 a rfl).2 (xb _);obtain⟨j,e,px,q⟩:=sO (xs:=xs) (x:=x) ⟨i,by simpa using h,λm y hy=>by
     have:=k (m+1) y (by simpa using hy);exact⟨this.1,λz=>this.2 (by omega)⟩⟩
    refine⟨j+1,by simpa using e,px,λm y hy py=> ?_⟩;cases m with
    |zero=>
     have ea:a=y:=by simpa using hy
     rw[<-ea];exact⟨i9 fa,λ_=>fa⟩
    |succ m=>
     have:=q m y (by simpa using hy) py;exact⟨this.1,λz=>this.2 (by omega)⟩
theorem Yw{C e d:aj}{z:Str}{E:XK}{H0 H1:Hp}{o:HO}(b:YE C z E H0)(s:bU H0 H1)(he:H1 e=none)(hd:upd H1 e o d=none)(nd:d≠e):E (.ref C) (some d) (gone (upd (upd (upd H1 e o) d (XD d (Str.ofString "name") (.str z))) e (XN e C (some d))) e):=by
 rw[aY nd] at hd
 have eq:gone (upd (upd (upd H1 e o) d (XD d (Str.ofString "name") (.str z))) e (XN e C (some d))) e=upd H1 d (XD d (Str.ofString "name") (.str z)):=by
  funext b
  by_cases z:b=e
  ·rw[z,xU,aY (cY nd),he]
  ·rw[EX z,aY z]
   by_cases y:b=d
   ·rw[y,ay,ay]
   ·rw[aY y,aY z,aY y]
 rw[eq];exact b d _ (none_of s hd) (s.trans (aU hd)) ay
theorem Pz{C:aj}{z:Str}{E:XK}{H0 H1:Hp}(b:YE C z E H0)(s:bU H0 H1)(lz:z.length<=12):[V.str z].length<=sizeLine/\∀e,H1 e=none->iR C [.ref e,.str z] (upd H1 e (XN e C none)) (λv H2=>v=.fR/\∃dk,H2 e=some (XN e C dk)/\E (.ref C) dk (gone H2 e)) λ_ _ _=>False:=
 ⟨sl (n:=1),λe he=>⟨e,z,rfl,ay,lz,λd hd nd=>⟨rfl,some d,ay,Yw b s he hd nd⟩⟩⟩
theorem GJ{c l:Tb}(h:wG c l):l.length=c.length:=by
 obtain⟨d,M,nd,e,_,rfl⟩:=h;rw[ao,<-e,M4.fW]
theorem Told.but{rs us:List Sr}{H0 H H':Hp}{d:aj}{z:Str}(s1:∀b xs,H b=some (.tup xs)->H' b=some (.tup xs))(s2:∀b kvs,H b=some (.dK kvs)->H' b=some (.dK kvs)):Told rs us H0 H d z->Told rs us H0 H' d z
 |⟨l,c,k,h1,h2,r⟩=>⟨l,c,k,s1 _ _ h1,s2 _ _ h2,r⟩
theorem Told.same{rs us:List Sr}{H0 H H':Hp}{d:aj}{z:Str}(s:bU H H'):Told rs us H0 H d z->Told rs us H0 H' d z:=Told.but (λb _ h=>s b _ h) λb _ h=>s b _ h
theorem xk{rs us:List Sr}{H0 H H':Hp}(s1:∀b xs,H b=some (.tup xs)->H' b=some (.tup xs))(s2:∀b kvs,H b=some (.dK kvs)->H' b=some (.dK kvs)):∀{ds:List aj} {zs:List Str},Paired (Told rs us H0 H) ds zs->Paired (Told rs us H0 H') ds zs
 |_,_,.nil=> .nil
 |_,_,.cons h t=> .cons (h.but s1 s2) (xk s1 s2 t)
theorem xl{rs us:List Sr}{z:Str}{c k:Tb}(hc:c∈ju (ma rs z) (ma us z))(lo:∀d∈ju (ma rs z) (ma us z),M4.gh d c=false)(lf:wG c k):k.length=d_ rs us z:=(GJ lf).trans (Pd hc lo)
theorem Ew{rs us:List Sr}{H0 H1:Hp}{F:aj}{xs:List V}{Q:VK}(hq:∀H',bU H1 H'->cK K H' F xs):∀{ds:List aj} {zs:List Str},Paired (Told rs us H0 H1) ds zs->∀(b:aj) (zb:Str) (H:Hp),bU H1 H->Told rs us H0 H1 b zb->
  (∀d z (i:Nat) H',bU H1 H'->(zb::zs)[i]? =some z->Told rs us H0 H1 d z->(∀(j:Nat) y,(zb::zs)[j]? =some y->d_ rs us z<=d_ rs us y/\(j<i->d_ rs us z<d_ rs us y))->Q (.ref d) H')->
  Ow K (XI kC) jF Vb F xs (ds.map V.ref) (.ref b) (.int ((d_ rs us zb:Nat):Int)) H Q
 |[],[],.nil,b,zb,H,s,tb,q=>⟨hq H s,q b zb 0 H s rfl tb λj y hy=>by
   cases j with
   |zero=>
    have:zb=y:=by simpa using hy
    rw[this];exact⟨aE _,λz=>absurd z (dP _)⟩
   |succ j=>simp at hy⟩
 |d::ds,z::zs,.cons td t,b,zb,H,s,tb,q=>by
  obtain⟨l,c,k,hd,hl,_,hc,lo,lf⟩:=id td;refine⟨hq H s,d,l,z,k,U,s _ _ hd,s _ _ hl,λH' s'=> ?_⟩;rw[xl hc lo lf];refine⟨_,_,U,U,λe=> ?_,λe=> ?_⟩
  ·have e:((d_ rs us z:Nat):Int)<((d_ rs us zb:Nat):Int):=ba e;refine Ew hq t d z H' (s.trans s') td λd' z' i H2 s2 hi YM k=>q d' z' (i+1) H2 s2 (by simpa using hi) YM λj y hy=> ?_;cases j with
   |zero=>
    have ey:zb=y:=by simpa using hy
    have:=(k 0 z rfl).1;rw[<-ey];exact⟨by omega,λ_=>by omega⟩
   |succ j=>
    have:=k j y (by simpa using hy);exact⟨this.1,λw=>this.2 (by omega)⟩
  ·have e:¬((d_ rs us z:Nat):Int)<((d_ rs us zb:Nat):Int):=of_decide_eq_false e;refine Ew hq t b zb H' (s.trans s') tb λd' z' i H2 s2 hi YM k=> ?_;cases i with
   |zero=>
    have ez:zb=z':=by simpa using hi
    refine q d' z' 0 H2 s2 (by rw[<-ez];rfl) YM λj y hy=>⟨?_,λw=>absurd w (eI _)⟩
    match j,hy with
    |0,hy=>
     have ey:zb=y:=by simpa using hy
     rw[<-ez,ey];exact aE _
    |1,hy=>
     have ey:z=y:=by simpa using hy
     rw[<-ez,<-ey];omega
    |j+2,hy=>exact(k (j+1) y (by simpa using hy)).1
   |succ i=>
    refine q d' z' (i+2) H2 s2 (by simpa using hi) YM λj y hy=> ?_;have k0:=(k 0 zb rfl).2 (xb _)
    match j,hy with
    |0,hy=>
     have ey:zb=y:=by simpa using hy
     rw[<-ey];exact⟨by omega,λ_=>k0⟩
    |1,hy=>
     have ey:z=y:=by simpa using hy
     rw[<-ey];exact⟨by omega,λ_=>by omega⟩
    |j+2,hy=>
     have:=k (j+1) y (by simpa using hy);exact⟨this.1,λw=>this.2 (by omega)⟩
def kK(ns ms:List Str)(z:Str):Bool:= !decide (z∈ns)|| !decide (z∈ms)
theorem kc:b_ ["one","other","ones","others","strange","found","name","life"] ["one","other"] (bG z_):=⟨rfl,rfl,rfl,by decide+kernel,rfl,by decide+kernel,by decide+kernel⟩
theorem M0{f:aj}{fd:bC}(F:je K "parted" "parted" z_ f fd)(T:Txt K mg bh a4 aO aN bF bE a3 aP aI aD aC ar aV bY bw bL bA bM bq a_ br bB aS bX)(mJ:YA P w K mg base 1 "Unlike" aS ["self","name"] (iR aS))(qG:fi P w K mg base c8 1 "kinds_told" ["found"] kC)(qD:fi P w K mg base c8 1 "names_of" ["book"] (rM aI aD aC ar))(xW:fi P w K mg base c8 24 "parting" ["one","other"] (uL aI aD aC ar))(iB:fi P w K mg base c8 2 "term_of" ["book","name"] (pP aI aD aC ar)):dJ P w K mg base (yh P w) 25 f fd ["one","other"] (xn aI aD aC ar aS):=by
 refine okX F kc (λvs H Q E h=> ?_) (λdQ A outer s H vs Q E hr h=> ?_)
 ·obtain⟨a,b,rs,us,rfl,_⟩:=h
  rfl
 ·obtain⟨a,b,rs,us,rfl,⟨a1,a2,k1,k2,l1,l2⟩,yes,no⟩:=h;have l5:=fo;have II:=Kf hr;have ln:∀x:List Sr,((x.map Sr.nm).map V.str).length=x.length:=λx=>by rw[ao,ao]
  refine⟨_,(av (bS (i:=2) kc.nd U (Or.inr U) (cG qD (hr.mono (by omega)) U cq (ag (pv 0) aA))) (av (bS (i:=3) kc.nd U (Or.inr U) (cG qD (hr.mono (by omega)) U cq (ag (pv 1) aA))) (av (vX (i:=4) ["name"] [("ones",2),("others",3)] kc.nd U (Or.inl U) U (gk (bV tL (pv 2) (pv 3))) (by rfl) (by exact⟨U,⟨U,trivial⟩⟩) (by rfl) (by exact⟨⟨U,U,U⟩,⟨⟨U,U,U⟩,trivial⟩⟩) (λ_ _ _ _=>(cR (i:=0) (show(t_ ["name"] [("ones",2),("others",3)]).Nodup by decide+kernel) U (Or.inl U))) (λ_ _ _ _=>(tG (PW.pt (pw_or (bQ (uu (K:=K) U) (pv 0) (pv 1) U) (pw_or1 (bQ (uu (K:=K) U) (pv 0) (pv 2) U)))))) (λ_ _ _ _=>(pv 0))) (av (c9 (bQ qZ (cg fz (by rfl) T.j6 gE (ag (pv 4) aA)) a9 (cf _)) (aR (MS (by rfl) mJ (hr.mono (by omega)) U (by rfl) (ag (cg (Oc (@SM _) U II) (by rfl) T.U7 ve (ag (pv 4) aA)) aA))) b9) (av (bS (i:=5) kc.nd U (Or.inl U) (fC aA)) (av (lj PassesOwn.leaving U (gk (cg wV (by rfl) T.u6 pJ (ag (pv 2) aA))) (cR (i:=6) kc.nd U (Or.inl U)) (av (bS (i:=7) kc.nd U (Or.inl U) (cG xW (hr.mono (by omega)) U cq (ag (cG iB (hr.mono (by omega)) U cq (ag (pv 0) (ag (pv 6) aA))) (ag (cG iB (hr.mono (by omega)) U cq (ag (pv 1) (ag (pv 6) aA))) aA)))) (aR (c9 (bQ we (pv 7) gN (cf _)) (aR (gY (i6 cH cT cS gG (pv 5) (ag (ja (ag (pv 6) (ag (pv 7) aA))) aA)))) b9)))) (aR (bP (PU (@LK _) U II qG (hr.mono (by omega)) (by rfl) T.U7 (by rfl) (ag (pv 5) aA) gN))))))))), ?_⟩
  refine⟨_,U,a,rs,U,a1,l1,λN1 H1 hN1 s1 d1=>⟨_,U,b,us,U,a2.same s1,l2,λN2 H2 hN2 s2 d2=> ?_⟩⟩;have d1:=s2 _ _ d1;have Lc:=s1.trans s2;clear s1 s2 hN1 hN2;refine⟨_,U,_,U,N1,N2,_,_,U,U,cK.of d1,cK.of d2,by rw[ln,ln];omega,λD hD=> ?_⟩
  rw[<-bN];have dD:upd H2 D (.lst ((rs.map Sr.nm++us.map Sr.nm).map V.str)) D=some (.lst ((rs.map Sr.nm++us.map Sr.nm).map V.str)):=ay;have s3:=aU (o:=.lst ((rs.map Sr.nm++us.map Sr.nm).map V.str)) hD;generalize upd H2 D (.lst ((rs.map Sr.nm++us.map Sr.nm).map V.str))=H3 at dD s3
  have d1:=s3 _ _ d1;have d2:=s3 _ _ d2;have s03:=Lc.trans s3;clear Lc s3 hD;refine⟨D,U,⟨_,cK.of dD⟩,tV (rs.map Sr.nm++us.map Sr.nm) V.str (λz=>if kK (rs.map Sr.nm) (us.map Sr.nm) z=true then[V.str z] else[]) dD (by rw[bb,ao,ao];omega) (wM V.str _) (λz hz H4 s4 RT RF rt rf=> ?_) λS H4 hS s4 dS=> ?_⟩
  ·refine⟨⟨U,U,trivial⟩,_,U,_,U,N1,_,U,.inl (cK.of (s4 _ _ d1)),U,tq _,_,U, ?_⟩;show if(!XU (.str z) ((rs.map Sr.nm).map V.str))=true then _ else _;rw[ER];refine gW (λe=>jH ⟨_,U,rt _ _ (bg ?_) (bU.refl _)⟩) (λe=>⟨_,U,_,U,N2,_,U,.inl (cK.of (s4 _ _ d2)),U,tq _,_,U, ?_⟩)
   ·unfold kK;rw[e];rfl
   show if(!XU (.str z) ((us.map Sr.nm).map V.str))=true then _ else _;rw[ER];refine gW (λe2=>⟨_,U,rt _ _ (bg ?_) (bU.refl _)⟩) (λe2=>rf _ (aX ?_) (bU.refl _))
   ·unfold kK;rw[e2,Bool.or_true]
   ·unfold kK;rw[FO.mpr e,FO.mpr e2];exact bj
  rw[nM V.str] at dS
  have d1:=s4 _ _ d1;have SX:=s03.trans s4;clear s03 s4 d2 dD hS;have odd:∀z,z∈(rs.map Sr.nm++us.map Sr.nm).filter (kK (rs.map Sr.nm) (us.map Sr.nm))↔vh rs us z:=λz=>by
   rw[List.mem_filter,a8];unfold kK vh;rw[Bool.or_eq_true,fL,fL,vx,vx]
  have lS:((rs.map Sr.nm++us.map Sr.nm).filter (kK (rs.map Sr.nm) (us.map Sr.nm))).length<=26:=bD (fU ..) (by rw[bb,ao,ao];omega)
  generalize (rs.map Sr.nm++us.map Sr.nm).filter (kK (rs.map Sr.nm) (us.map Sr.nm))=ss at dS odd lS
  refine⟨_,U,_,_,U,.inl ⟨_,cK.of dS,U⟩,_,_,U,U,_,U, ?_⟩;cases ss with
  |cons x r=>
   refine EM (by rw[ao,aZ];omega) ?_
   refine⟨_,U,S,V.str x::r.map V.str,U,cK.of dS,wD jZ (λ_=>rfl) (cK.of dS) r x λm hm lo=> ?_⟩;have om:=(odd m).mp hm;have lm:m.length<=12:=by
    rcases om.1 with z|z
    ·obtain⟨y,hy,rfl⟩:=a5.mp z;exact(qJ k1 y hy).nm.2.1
    ·obtain⟨y,hy,rfl⟩:=a5.mp z;exact(qJ k2 y hy).nm.2.1
   exact Pz (no m om λy hy=>lo y ((odd y).mpr hy)) SX lm
  |nil=>
   refine jT (λz=>by simp at z) ?_;have U9:Oj rs us:=λz=>by
    have h:¬vh rs us z:=λy=>nomatch (odd z).mpr y
    constructor
    ·exact λy=>ik λw=>h ⟨.inl y,.inr w⟩
    ·exact λy=>ik λw=>h ⟨.inr y,.inl w⟩
   have yes:=yes U9;refine⟨bz _,λF hF=> ?_⟩;have dF:upd H4 F (.lst []) F=some (.lst []):=ay;have d1:=aU (o:=.lst []) hF _ _ d1;have IG:=SX.trans (aU (o:=.lst []) hF);have hF0:=none_of SX hF;generalize upd H4 F (.lst [])=H5 at dF d1 IG
   refine⟨_,U,N1,_,U,cK.of d1,by rw[ao];omega,λzs pz sz Z hZ=> ?_⟩
   have dZ:upd H5 Z (.lst (zs.map V.str)) Z=some (.lst (zs.map V.str)):=ay;have nZF:Z≠F:=λw=>by rw[w,dF] at hZ;cases hZ
   have dF:=aU (o:=.lst (zs.map V.str)) hZ _ _ dF;have s06:=IG.trans (aU (o:=.lst (zs.map V.str)) hZ);generalize upd H5 Z (.lst (zs.map V.str))=H6 at dF s06 dZ
   clear IG d1 dS SX odd lS;have lz:zs.length=rs.length:=by rw[pz.length_eq,ao]
   have fr0:∀b u,b≠F->H6 b=some u->H6 b=some u:=λ_ _ _ e=>e;have same:∀{H':Hp},(∀b u,b≠F->H6 b=some u->H' b=some u)->bU H H':=λf b u e=>f b u (bI e hF0) (s06 _ _ e);refine⟨Z,U,⟨_,cK.of dZ⟩,sA (xs:=zs.map V.str) (λi σ H'=>∃(v6 v7:Option V) (ds:List aj),σ=[some (.ref a),some (.ref b),some (.ref N1),some (.ref N2),some (.ref S),some (.ref F),v6,v7]/\H' F=some (.lst (ds.map V.ref))/\Paired (Told rs us H H') ds ((zs.take i).filter (apart rs us))/\∀b u,b≠F->H6 b=some u->H' b=some u) ⟨none,none,[],U,dF,.nil,fr0⟩ (λi σ H' _ ⟨_,_,_,_,_,_,fr⟩=>cK.of (fr _ _ nZF dZ)) ?_ ?_⟩
   ·rintro i x σ H7 hx ⟨v6,v7,ds,rfl,IL,pt,fr⟩;obtain⟨z,rfl,ez⟩:∃z,V.str z=x/\zs[i]? =some z:=by
     rw[cj] at hx
     cases e:zs[i]? with
     |none=>rw[e] at hx;cases hx
     |some z=>rw[e] at hx;exact⟨z,bR hx,U⟩
    have hz:z∈rs.map Sr.nm:=pz.mem_iff.mp (cI ez);obtain⟨r1,o1,t1,g1,c1⟩:=K0 k1 hz;obtain⟨r2,o2,t2,g2,c2⟩:=K0 k2 ((U9 z).mp hz);have p1:=(ma rs z).iw;have p2:=(ma us z).iw;have YT:=same fr;have tk:zs.take (i+1)=zs.take i++[z]:=by rw[dG,ez];rfl
    refine⟨_,U,_,U,a,z,rs,r1,_,U,a1.same YT,by omega,o1,t1,λm1 H8 s8 ZC=>⟨_,rfl,_,rfl,b,z,us,r2,_,rfl,a2.same (YT.trans s8),by omega,o2,t2,λm2 H9 s9 ZA=> ?_⟩⟩;have s79:=s8.trans s9;refine⟨m1,m2,_,_,U,ZC.same s9,ZA,by omega,by omega,c1,c2,λKO yo dz=> ?_,λc l p KO hp yo hl mc lo lf=> ?_⟩
    ·have Jp:=s79.trans yo;refine⟨_,U,U,_,U,pF U ⟨_,_,ds,U,Jp _ _ IL, ?_,λb u n e=>Jp _ _ (fr b u n e)⟩⟩;rw[tk,List.filter_append,lH (by unfold apart d_;rw[uQ.mpr dz];decide),Mp,cE]
     exact xk (λb xs e=>Jp _ _ e) (λb kvs e=>Jp _ _ e) pt
    ·have Jp:=s79.trans yo;have Ry:=Jp _ _ IL;refine⟨_,U,U,_,U,GY (λw=>nomatch w) ⟨_,U,.inl ⟨U,_,cK.of Ry⟩,_,U,_,U,show 2<=sizeLine from sl,λt ht=> ?_⟩⟩;have DY:=aU (o:=.tup [.str z,.ref p]) ht;have UM:=DY _ _ Ry;have dt:upd KO t (.tup [.str z,.ref p]) t=some (.tup [.str z,.ref p]):=ay;generalize upd KO t (.tup [.str z,.ref p])=Om at DY UM dt
     have ld:ds.length<=13:=by
      rw[cA pt];exact bD (fU ..) (by rw[dh];omega)
     refine⟨F,_,_,U,U,UM,by rw[ao];omega, ?_⟩
     have WH:=Jp.trans DY;have kt:∀b xs,Om b=some (.tup xs)->upd Om F (.lst (ds.map V.ref++[V.ref t])) b=some (.tup xs):=λb xs e=>by rw[aY (wq e UM (λw=>nomatch w))];exact e
     have kd:∀b kvs,Om b=some (.dK kvs)->upd Om F (.lst (ds.map V.ref++[V.ref t])) b=some (.dK kvs):=λb kvs e=>by rw[aY (wq e UM (λw=>nomatch w))];exact e
     have ap:apart rs us z=true:=bf (Dv λw=>by rw[uQ.mp w] at mc;cases mc)
     refine⟨_,_,ds++[t],U,by rw[ay,bN];rfl, ?_,λb u n e=>by rw[aY n];exact WH _ _ (fr b u n e)⟩
     rw[tk,List.filter_append,lG ap,Mp];exact Paired.snoc (xk (λb xs e=>kt _ _ (WH _ _ e)) (λb kvs e=>kd _ _ (WH _ _ e)) pt) ⟨p,c,l,kt _ _ dt,kd _ _ (DY _ _ hl),none_of (YT.trans s79) hp,mc,lo,lf⟩
   ·rintro σ H7 ⟨v6,v7,ds,rfl,IL,pt,fr⟩;rw[ao,dg (aE _)] at pt
    have YT:=same fr;refine⟨_,U,F,ds.map V.ref,U, ?_⟩;have key:∀z∈zs,d_ rs us z≠0->z∈zs.filter (apart rs us):=λz hz w=>dA.mpr ⟨hz,bf (Dv w)⟩;generalize hfl:zs.filter (apart rs us)=fl at pt key
    cases pt with
    |nil=>
     refine⟨cK.of IL,_,U,yes _ H7 YT ⟨zs,pz,sz,.inl ⟨U,λz hz=>ik λw=>nomatch key z hz w⟩⟩⟩
    |cons td t=>
     obtain⟨l,c,k,hd,hl,_,hc,lo,lf⟩:=id td;refine⟨cK.of IL,_,l,_,k,U,hd,hl,λH8 s8=> ?_⟩;rw[xl hc lo lf];refine Ew (λH' s'=>cK.of (s' _ _ IL)) t _ _ H8 s8 td λd z i H9 s9 hi YM bt=> ?_;refine yes _ H9 (YT.trans s9) ⟨zs,pz,sz,.inr ⟨d,z,U,YM.same s9,sO ⟨i, ?_, ?_⟩⟩⟩
     ·rw[hfl];exact hi
     ·rw[hfl];exact bt
theorem OJ{α β:Type}{R:α->β->Prop}:∀{as:List α} {bs:List β},Paired R as bs->∀z∈as.zip bs,R z.1 z.2
 |_,_,.nil,z,h=>nomatch h
 |_,_,.cons r t,z,h=>by
  rw[eF] at h
  rcases aJ.mp h with rfl|h
  ·exact r
  ·exact OJ t z h
theorem OI{as:List aj}{ws:List Tb}(h:as.length=ws.length):(as.zip ws).map (λz=>V.ref z.1)=as.map V.ref:=by
 rw[show(λz:aj×Tb=>V.ref z.1)=V.ref∘Prod.fst from rfl,<-cM,List.map_fst_zip (by omega)]
theorem KW{pr:Tb->Bool}:∀{as:List aj} {ws:List Tb},as.length=ws.length->(((as.zip ws).flatMap λz=>if pr z.2=true then[V.ref z.1] else[])=[]↔ws.any pr=false)
 |[],[],_=>⟨λ_=>rfl,λ_=>rfl⟩
 |a::as,w::ws,h=>by
  rw[eF,fK,List.append_eq_nil_iff,iE,Bool.or_eq_false_iff,KW (by simpa using h)];refine and_congr_left λ_=> ?_;cases pr w<;>simp
def q0(ws:List Tb):List V:=ws.map λw=>V.int ((w.length:Nat):Int)
theorem Qy{ws:List Tb}{m:Int}(hm:m∈ws.map λw=>((w.length:Nat):Int))(lo:∀z∈ws.map λw=>((w.length:Nat):Int),jF z m=false):m=((Ax (ws.map List.length):Nat):Int):=by
 obtain⟨w,hw,rfl⟩:=a5.mp hm;have l:=wB (a5.mpr ⟨w,hw,rfl⟩:w.length∈ws.map List.length);obtain⟨v,hv,ev⟩:=a5.mp (pB (kX (a5.mpr ⟨w,hw,rfl⟩:w.length∈ws.map List.length)));have:=of_decide_eq_false (lo _ (a5.mpr ⟨v,hv,rfl⟩));omega
theorem Nw(ws:List Tb)(w:Tb):q0 ws++[V.int ((w.length:Nat):Int)]=q0 (ws++[w]):=by
 unfold q0;rw[bN]
 rfl
theorem CN{t:Tr}(h:t.cnt<=10):(bW t).length<=36/\∀w∈bW t,w.length<=10:=⟨bD (ia t h) (qr t.cnt h),λw hw=>bD (gc t w hw) h⟩
theorem fT:b_ ["_law_one","_law_other","_law_left","_law_right","_law_found","_law_some","_law_others","_law_clause"] ["_law_one","_law_other"] (bG mG):=⟨rfl,rfl,rfl,by decide+kernel,rfl,by decide+kernel,by decide+kernel⟩
theorem yM{f:aj}{fd:bC}(F:je K "_law_shortest" "_law_shortest" mG f fd)(T:Txt K mg bh a4 aO aN bF bE a3 aP aI aD aC ar aV bY bw bL bA bM bq a_ br bB aS bX)(kn:fi P w K mg base c8 1 "is_below" ["one","other"] nE)(gZ:fi P w K mg base c8 23 "least" ["term"] (mj aI aD aC ar 18)):dJ P w K mg base c8 24 f fd ["_law_one","_law_other"] (k_ aI aD aC ar):=by
 refine F.ok fT (λvs H Q E h=> ?_) (λdQ A outer s H vs Q E hr h=> ?_)
 ·obtain⟨a,b,t,u,rfl,_⟩:=h
  rfl
 ·obtain⟨a,b,t,u,rfl,ta,tb,ct,cu,q⟩:=h;have l5:=fo;have II:=Kf hr;have dt:=t.iw;have du:=u.iw;refine⟨_,(av (bS (i:=2) fT.nd U (Or.inl U) (cG gZ (hr.mono (by omega)) U cq (ag (pv 0) aA))) (av (bS (i:=3) fT.nd U (Or.inl U) (cG gZ (hr.mono (by omega)) U cq (ag (pv 1) aA))) (av (bS (i:=4) fT.nd U (Or.inl U) (fC aA)) (av (lj eD U (gk (fC (ag (ja (ag (pv 2) (ag (pv 3) aA))) (ag (ja (ag (pv 3) (ag (pv 2) aA))) aA)))) (ql U (fw (cR (i:=5) fT.nd U (Or.inl U)) (fw (cR (i:=6) fT.nd U (Or.inl U)) lO))) (aR (lj eD U (gk (pv 5)) (cR (i:=7) fT.nd U (Or.inr U)) (aR (c9 (bQ (Gp II) (kF ["_law_below"] [("_law_clause",7)] U (gk (pv 6)) (by rfl) (by exact⟨U,trivial⟩) (by rfl) (by exact⟨⟨U,U,U⟩,trivial⟩) (λ_ _ _ _=>(cR (i:=0) (show(t_ ["_law_below"] [("_law_clause",7)]).Nodup by decide+kernel) U (Or.inl U))) (λ_ _ _ _=>(tG (iS (cG kn (hr.mono (by omega)) U cq (ag (pv 0) (ag (pv 1) aA)))))) (λ_ _ _ _=>(pv 0))) (fC aA) (cf _)) (aR (gY (i6 cH cT cS gG (pv 4) (ag (cg tW (by rfl) T.j6 gE (ag (pv 7) aA)) aA)))) b9))))) (aR (bP (Tx (@LK _) U II (by rfl) T.U7 (ag (pv 4) aA) a9))))))), ?_⟩
  refine⟨_,U,a,t,U,ta,by omega,ct,λr1 Ib H1 hr1 s1 d1 c1 n1=> ?_⟩;refine⟨_,U,b,u,U,tb.same s1,by omega,cu,λr2 Kt H2 hr2 s2 d2 c2 n2=> ?_⟩;have d1:=s2 _ _ d1;have c1:=c1.same s2;have Lc:=s1.trans s2;clear s1 s2 n1 n2 hr1 hr2;refine⟨bz _,λF hF=> ?_⟩;have hF0:=none_of Lc hF;have nr1:r1≠F:=bI d1 hF;have nr2:r2≠F:=bI d2 hF;have s3:=aU (o:=.lst []) hF;have dF:upd H2 F (.lst []) F=some (.lst (q0 [])):=ay
  generalize upd H2 F (.lst [])=H3 at s3 dF
  refine⟨_,U,_,U,show 2<=sizeLine from sl,λT1 hT1=> ?_⟩;have s4:=aU (o:=.tup [.ref r1,.ref r2]) hT1;have t1:upd H3 T1 (.tup [.ref r1,.ref r2]) T1=some (.tup [.ref r1,.ref r2]):=ay;generalize upd H3 T1 (.tup [.ref r1,.ref r2])=H4 at s4 t1
  refine⟨_,U,_,U,show 2<=sizeLine from sl,λT2 hT2=> ?_⟩;have s5:=aU (o:=.tup [.ref r2,.ref r1]) hT2;have t2:upd H4 T2 (.tup [.ref r2,.ref r1]) T2=some (.tup [.ref r2,.ref r1]):=ay;have t1:=s5 _ _ t1;generalize upd H4 T2 (.tup [.ref r2,.ref r1])=H5 at s5 t2 t1
  refine⟨show 2<=sizeLine from sl,λL hL=> ?_⟩;have s6:=aU (o:=.lst [.ref T1,.ref T2]) hL;have dL:upd H5 L (.lst [.ref T1,.ref T2]) L=some (.lst [.ref T1,.ref T2]):=ay;generalize upd H5 L (.lst [.ref T1,.ref T2])=H6 at s6 dL
  have t1:=s6 _ _ t1;have t2:=s6 _ _ t2;have s36:=s4.trans (s5.trans s6);have dF:=s36 _ _ dF;have YR:=s3.trans s36;have d1:=YR _ _ d1;have d2:=YR _ _ d2;have c1:=c1.same YR;have c2:=c2.same YR;have s06:=Lc.trans YR;clear Lc YR s3 s4 s5 s6 s36 hT1 hT2 hL;have nT1:T1≠F:=λz=>by rw[z,dF] at t1;cases t1
  have nT2:T2≠F:=λz=>by rw[z,dF] at t2;cases t2
  have nL:L≠F:=λz=>by rw[z,dF] at dL;cases dL
  have same:∀{H':Hp},(∀b u,b≠F->H6 b=some u->H' b=some u)->bU H H':=λf b u e=>f b u (bI e hF0) (s06 _ _ e);have dks:∀{H':Hp},(∀b u,b≠F->H6 b=some u->H' b=some u)->∀(b:aj) (kvs:List (Key×V)),H6 b=some (.dK kvs)->H' b=some (.dK kvs):=λf b kvs e=>f b _ (λz=>by rw[z,dF] at e;cases e) e
  obtain⟨lt,wt⟩:=CN ct;obtain⟨lu,wu⟩:=CN cu;refine⟨L,U,⟨_,cK.of dL⟩,sA (xs:=[.ref T1,.ref T2]) (λi σ H'=>∃(v5 v6 v7:Option V) (pre:List Tb),σ=[some (.ref a),some (.ref b),some (.ref r1),some (.ref r2),some (.ref F),v5,v6,v7]/\H' F=some (.lst (q0 pre))/\(i=0->pre=[])/\(i=1->pre=eL (bW t) (bW u))/\(i=2->pre=eL (bW t) (bW u)++eL (bW u) (bW t))/\pre.length<=72/\∀b u,b≠F->H6 b=some u->H' b=some u) ⟨none,none,none,[],U,dF,(λ_=>rfl),(λz=>nomatch z),(λz=>nomatch z),by decide,λ_ _ _ e=>e⟩ (λi σ H' _ ⟨_,_,_,_,_,_,_,_,_,_,fr⟩=>cK.of (fr _ _ nL dL)) ?_ ?_⟩
  ·rintro i x σ H7 hx ⟨v5,v6,v7,pre,rfl,IL,i0,i1,_,lp,fr⟩;obtain⟨T_,p,q_,ds,es,ws,vs,rfl,hT,nT,hp,hq,np,nq,cw,cv,lw,ww,wv,e1,e2,Zgk,i3⟩:∃(T_ p q_:aj) (ds es:List aj) (ws vs:List Tb),x=.ref T_/\H6 T_=some (.tup [.ref p,.ref q_])/\T_≠F/\H6 p=some (.lst (ds.map V.ref))/\H6 q_=some (.lst (es.map V.ref))/\p≠F/\q_≠F/\eQ H6 ds ws/\eQ H6 es vs/\(ws.length<=36/\vs.length<=36)/\(∀w∈ws,w.length<=10)/\(∀w∈vs,w.length<=10)/\(i+1=1->pre++eL ws vs=eL (bW t) (bW u))/\(i+1=2->pre++eL ws vs=eL (bW t) (bW u)++eL (bW u) (bW t))/\pre.length<=36/\i<2:=by
    match i,hx with
    |0,hx=>
     obtain rfl:V.ref T1=x:=by simpa using hx
     exact⟨T1,r1,r2,Ib,Kt,_,_,U,t1,nT1,d1,d2,nr1,nr2,c1,c2,⟨lt,lu⟩,wt,wu,λ_=>by rw[i0 rfl];rfl,(λz=>nomatch z),by rw[i0 rfl];decide,by decide⟩
    |1,hx=>
     obtain rfl:V.ref T2=x:=by simpa using hx
     exact⟨T2,r2,r1,Kt,Ib,_,_,U,t2,nT2,d2,d1,nr2,nr1,c2,c1,⟨lu,lt⟩,wu,wt,(λz=>nomatch z),λ_=>by rw[i1 rfl],by rw[i1 rfl];exact bD (fU ..) lt,by decide⟩
    |i+2,hx=>simp at hx
   clear i0 i1 lp hx;have lcw:=cw.len;have lcv:=cv.len;refine⟨T_,_,U,jU.of (fr _ _ nT hT),U,_,_,U,_,_,U,U, ?_⟩;refine⟨_,U,p,U,⟨_,cK.of (fr _ _ np hp)⟩,sA (xs:=ds.map V.ref) (λj σ H'=>∃v7:Option V,σ=[some (.ref a),some (.ref b),some (.ref r1),some (.ref r2),some (.ref F),some (.ref p),some (.ref q_),v7]/\H' F=some (.lst (q0 (pre++eL (ws.take j) vs)))/\∀b u,b≠F->H6 b=some u->H' b=some u) ⟨_,U,by rw[IL];show _=some (HO.lst (q0 (pre++[])));rw[cE],fr⟩ (λj σ H' _ ⟨_,_,_,fr⟩=>cK.of (fr _ _ np hp)) ?_ ?_⟩
   ·rintro j y σ H8 hy ⟨v7,rfl,dF8,VG⟩;obtain⟨d,w,c,rfl,_,ew,hd,nc,en⟩:=eQ.get cw j y hy;have hd8:=dks VG _ _ hd;have hw:=cI ew;have lc:c.length<=10:=by have:=ww w hw;rw[<-en,M4.fW] at this;exact this
    have hq8:H8 q_=some (.lst ((es.zip vs).map λz=>V.ref z.1)):=by rw[OI lcv];exact VG _ _ nq hq
    have cv8:=cv.but (dks VG);have tk:eL (ws.take (j+1)) vs=eL (ws.take j) vs++(if vs.any (λv=>below v w)=false then[w] else[]):=by
     unfold eL;rw[dG,ew];show List.filter _ (_++[w])=_;rw[List.filter_append]
     congr 1
     rw[List.filter_cons,Mp];cases vs.any (λv=>below v w)<;>rfl
    refine⟨_,U,q_,U,⟨_,cK.of (VG _ _ nq hq)⟩,tV (es.zip vs) (λz=>V.ref z.1) (λz=>if below z.2 w=true then[V.ref z.1] else[]) hq8 (by rw[List.length_zip];omega) (λz=>wM (λz:aj×Tb=>V.ref z.1) (λz=>below z.2 w) z) (λz hz H9 s9 RT RF rt rf=> ?_) λD H9 hD s9 dD=> ?_⟩
    ·obtain⟨cz,hz1,nz,ez⟩:=OJ cv8 z hz;have lz:cz.length<=10:=by have:=wv z.2 (jh hz).2;rw[<-ez,M4.fW] at this;exact this
     refine⟨⟨U,trivial⟩,_,U,_,U,z.1,d,cz,c,U,s9 _ _ hz1,.inl (s9 _ _ hd8),by omega,λKO yo=>⟨_,rfl, ?_⟩⟩;rw[<-M4.AZ nc,ez,en];exact gW (λe=>⟨_,U,rt _ _ (bg e) yo⟩) (λe=>rf _ (aX e) yo)
    refine⟨bz _,λE_ hE=>⟨D,E_,_,U,U,cK.of (aU hE _ _ dD),cK.of ay,_,U, ?_⟩⟩;have yo:=s9.trans (aU (o:=.lst []) hE);generalize upd H9 E_ (.lst [])=KO at yo
    have iff:=KW (pr:=λv=>below v w) lcv;refine gW (λe=> ?_) (λe=> ?_)
    ·have e:=iff.mp (ba e);have Ry:=yo _ _ dF8;refine⟨_,U,.inl ⟨U,_,cK.of Ry⟩,_,U,d,_,U,yo _ _ hd8,F,_,_,U,U,Ry, ?_, ?_⟩
     ·unfold q0;rw[ao,bb];have:(eL (ws.take j) vs).length<=36:=bD (fU ..) (by rw[dh];omega)
      omega
     ·refine⟨_,U, ?_,λb u n e=>by rw[aY n];exact yo _ _ (VG b u n e)⟩
      rw[ay,eT,show c.length=w.length by rw[<-en,M4.fW],Nw,tk,bg e,dj]
    ·have e:¬vs.any (λv=>below v w)=false:=λz=>e (bf (iff.mpr z));exact⟨_,U,by rw[tk,aX e,cE];exact yo _ _ dF8,λb u n e=>yo _ _ (VG b u n e)⟩
   ·rintro σ H8 ⟨v7,rfl,dF8,VG⟩;rw[ao,dg (by omega)] at dF8
    refine⟨_,_,_,pre++eL ws vs,U,dF8,(λz=>nomatch z),e1,e2, ?_,VG⟩;rw[bb];have:(eL ws vs).length<=36:=bD (fU ..) lw.1;omega
  ·rintro σ H7 ⟨v5,v6,v7,pre,rfl,IL,_,_,i2,_,fr⟩;have ep:=i2 rfl;have q:=q H7 (same fr);rw[<-Rc t u,<-ep] at q
   refine⟨_,U,F,q0 pre,U, ?_⟩;cases pre with
   |nil=>exact⟨cK.of IL,_,U,q⟩
   |cons w r=>
    have er:q0 r=(r.map λw=>((w.length:Nat):Int)).map V.int:=by unfold q0;rw[cM];rfl
    refine⟨cK.of IL, ?_⟩;show Ow K Av jF Vb F _ (q0 r) (V.int _) (V.int _) H7 Q;rw[er];refine wD (R:=Vb) (IK:=V.int) pH (λ_=>rfl) (cK.of IL) (r.map λw=>((w.length:Nat):Int)) _ λm hm lo=> ?_;rw[Qy (ws:=w::r) hm lo];exact q
theorem WE(o p:Option Int):Pf (oV o) (oV p)=true:=by cases o<;>cases p<;>rfl
theorem Xh{o p:Option Int}(h:oV o=oV p):o=p:=by
 cases o<;>cases p
 ·rfl
 ·cases h
 ·cases h
 ·injection h with h;rw[h]
theorem rQ:b_ ["_law_life","_law_one","_law_other","_law_many","_law_kind"] ["_law_life","_law_one","_law_other","_law_many"] (bG n_):=⟨rfl,rfl,rfl,by decide+kernel,rfl,by decide+kernel,by decide+kernel⟩
theorem Am{f:aj}{fd:bC}(F:je K "_law_life_so" "_law_life_so" n_ f fd)(T:Txt K mg bh a4 aO aN bF bE a3 aP aI aD aC ar aV bY bw bL bA bM bq a_ br bB aS bX)(sH:fi P w K mg base c8 1 "_law_whole" ["_law_found"] pQ)(uz:Sa P w K mg base c8 19 "due" ["self","life"] (pY aI aD aC ar 18) (λC=>C=aI\/C=aD\/C=aC\/C=ar)):dJ P w K mg base c8 20 f fd ["_law_life","_law_one","_law_other","_law_many"] (ml aI aD aC ar):=by
 refine F.ok rQ (λvs H Q E h=> ?_) (λdQ A outer s H vs Q E hr h=> ?_)
 ·obtain⟨l,a,b,k,t,u,rfl,_⟩:=h
  rfl
 ·obtain⟨l,a,b,k,t,u,rfl,hl,ta,tb,ct,cu,nd,lk_,pos,df,q⟩:=h;have l5:=fo;have hu:=AI hr;have dt:=t.iw;have du:=u.iw;obtain⟨n1,n2,n3,n4⟩:=Qi "due" (.inl rfl);have nfz:∀o u,H l≠some (.pM o u):=λo u z=>by rw[hl] at z;cases z
  refine⟨_,(av (c9 (PW.pt (pw_or (mH (iS (cg gK (by rfl) T.b7 eg (ag (pv 0) (ag (qo (v:=.ty "dict") U T.U8 zx U) aA))))) (pw_or1 (bQ wg (cg tW (by rfl) T.j6 gE (ag (pv 0) aA)) (pv 3) (cf _))))) (aR (bP si)) b9) (av (PF (lj eD U (Tq (pv 0)) (cR (i:=4) rQ.nd U (Or.inl U)) (aR (c9 (PW.pt (pw_or (mH (iS (cg gK (by rfl) T.b7 eg (ag (pv 4) (ag (qo (v:=.ty "str") U T.Z0i KA U) aA))))) (pw_or (mH (iS (cG sH (hr.mono (by omega)) U cq (ag (zc hu (pv 0) (pv 4) (λ_ _=>rfl)) aA)))) (pw_or1 (bQ CB (zc hu (pv 0) (pv 4) (λ_ _=>rfl)) a9 (cf _)))))) (aR (bP si)) b9)))) (aR (bP (qm wg (xD (pv 1) uz (hr.mono (by omega)) cq (ag (g_ qC (by rfl) T.U8 zx (ag (pv 0) aA)) aA)) (xD (pv 2) uz (hr.mono (by omega)) cq (ag (g_ qC (by rfl) T.U8 zx (ag (pv 0) aA)) aA)) (cf _)))))), ?_⟩
  refine⟨_,U,_,_,_,_,true,U,U,pL.dK hl,T.kdd,_,U,ic ⟨_,U,l,_,U,hl,_,U,U,_,U,pF (by rw[eT]) ?_⟩⟩;refine⟨_,U,l,_,U,hl,λo=>AL (J:=Itk l o (kk k)) (n:=k.length) (λj σ H'=>∃v4,σ=[some (.ref l),some (.ref a),some (.ref b),some (.int (k.length:Int)),v4]/\uD l (kk k) H H'/\H' l=some (.pM o (.dK (kk k)))) ?_ ?_ ?_ ?_⟩
  ·exact⟨_,U,⟨λb' u n e=>by rw[aY n];exact e,o,ay⟩,ay⟩
  ·rintro j σ H9 hj ⟨v4,rfl,f1,g1⟩;exact⟨g1,by rw[eT];exact hj⟩
  ·rintro σ H9 ⟨v4,rfl,f1,g1⟩;obtain⟨t1,t2⟩:=f1.ZD hl nfz;refine⟨⟨g1,by rw[eT];exact aE _⟩,l,_,t1, ?_⟩
   have d9:=t2 _ _ hl;have s9:=t2;generalize upd H9 l (.dK (kk k))=KO at s9 d9
   have ne:¬oV (t.xa k)=oV (u.xa k):=λz=>df (Xh z);obtain⟨dx,fs,ii,lk0⟩:=pe (ta.same s9);refine⟨_,U,a,_,dx,fs,U,ii,xT t,lk0 _ n1 n2 n3 n4,_,U,l,_,U,.inl d9,λph Y3=>⟨a,ph,t,k,U,(ta.same s9).same (aU Y3),by omega,rfl,.inl ay,λOm DY=> ?_⟩⟩;have Jo:=s9.trans ((aU Y3).trans DY);have d11:=Jo _ _ hl;clear s9 d9 ii Y3;obtain⟨dx,fs,ii,lk0⟩:=pe (tb.same Jo);refine⟨_,U,b,_,dx,fs,U,ii,xT u,lk0 _ n1 n2 n3 n4,_,U,l,_,U,.inl d11,λph Y3=>⟨b,ph,u,k,U,(tb.same Jo).same (aU Y3),by omega,rfl,.inl ay,λWb SW=> ?_⟩⟩
   exact⟨WE _ _,vW (q Wb (Jo.trans ((aU Y3).trans SW))) (by rw[bJ ne];rfl)⟩
  ·rintro j x σ H9 KO hj ⟨v4,rfl,f1,g1⟩ ⟨e6,kv,e7,e8⟩;subst e6 e8;obtain⟨pr,e9,e10⟩:=RR e7;subst e10;have pm:=cI e9;have hs:=Ae f1.rd pr.1;rw[kG nd pm] at hs
   refine⟨_,U,_,_,_,_,true,U,U,pL.str _,T.kss,_,U,ic ⟨_,U,_,U,l,_,U,hs,pr.2,U,λOm DY=>⟨_,U,ic ?_⟩⟩⟩;have f2:uD l (kk k) H Om:=⟨λb' u n e=>DY _ _ (f1.1 b' u n e),o,DY _ _ g1⟩
   have X0:=Ae f2.rd pr.1;rw[kG nd pm] at X0
   have pp:=pos pr pm;refine⟨_,U,_,U,l,_,U,X0,_,_,U,U,_,U, ?_⟩;show if decide (pr.2<0)=true then _ else _;rw[bJ (by omega)];exact ic ⟨_,U,f2,DY _ _ g1⟩
theorem AX{rs us:List Sr}{zs:List Str}{z:Str}{M:Int}(hb:YD (d_ rs us) (apart rs us) zs z)(h:VX ((zs.filter (apart rs us)).map λz=>((d_ rs us z:Nat):Int)) M):M=((d_ rs us z:Nat):Int):=by
 obtain⟨i,ei,pz,k⟩:=hb;obtain⟨y,hy,ey⟩:=a5.mp h.1;obtain⟨hy,py⟩:=dA.mp hy;obtain⟨j,hj,ej⟩:=eU hy;have a:=(k j y (by rw[aK hj,ej]) py).1;have b:=h.2 _ (a5.mpr ⟨z,dA.mpr ⟨cI ei,pz⟩,rfl⟩);have ey:((d_ rs us y:Nat):Int)=M:=ey;omega
theorem Found.same{rs us:List Sr}{H0 H H':Hp}{v:V}(s:bU H H'):Found rs us H0 H v->Found rs us H0 H' v
 |⟨zs,pz,sz,.inl h⟩=>⟨zs,pz,sz,.inl h⟩
 |⟨zs,pz,sz,.inr ⟨p,z,e,t,b⟩⟩=>⟨zs,pz,sz,.inr ⟨p,z,e,t.same s,b⟩⟩
theorem tE:b_ ["_law_found","_law_one","_law_other","_law_names","_law_sizes","_law_there"] ["_law_found","_law_one","_law_other"] (bG Aa):=⟨rfl,rfl,rfl,by decide+kernel,rfl,by decide+kernel,by decide+kernel⟩
theorem M_{f:aj}{fd:bC}(F:je K "_law_so" "_law_so" Aa f fd)(T:Txt K mg bh a4 aO aN bF bE a3 aP aI aD aC ar aV bY bw bL bA bM bq a_ br bB aS bX)(oF:fi P w K mg base c8 20 "_law_life_so" ["_law_life","_law_one","_law_other","_law_many"] (ml aI aD aC ar))(mQ:fi P w K mg base c8 24 "_law_shortest" ["_law_one","_law_other"] (k_ aI aD aC ar))(iB:fi P w K mg base c8 2 "term_of" ["book","name"] (pP aI aD aC ar)):dJ P w K mg base c8 25 f fd ["_law_found","_law_one","_law_other"] (xp aI aD aC ar):=by
 refine F.ok tE (λvs H Q E h=> ?_) (λdQ A outer s H vs Q E hr h=> ?_)
 ·obtain⟨v,a,b,rs,us,H0,rfl,_⟩:=h
  rfl
 ·obtain⟨v,a,b,rs,us,H0,rfl,⟨a1,a2,k1,k2,l1,l2⟩,U9,fd,q⟩:=h;have l5:=fo;have II:=Kf hr;refine⟨_,(av (bS (i:=3) tE.nd U (Or.inl U) (cg wV (by rfl) T.u6 pJ (ag (kF ["_law_row"] [] U (gk (pv 1)) (by rfl) (by exact trivial) (by rfl) (by exact trivial) (λ_ _ _ _=>(cR (i:=0) (show(t_ ["_law_row"] []).Nodup by decide+kernel) U (Or.inl U))) (λ_ _ _ _=>lN) (λ_ _ _ _=>(dI (zo (K:=K) U) (pv 0) a9 (λ_ _=>rfl)))) aA))) (av (vX (i:=4) ["_law_name"] [("_law_one",1),("_law_other",2)] tE.nd U (Or.inl U) U (gk (pv 3)) (by rfl) (by exact⟨U,⟨U,trivial⟩⟩) (by rfl) (by exact⟨⟨U,U,U⟩,⟨⟨U,U,U⟩,trivial⟩⟩) (λ_ _ _ _=>(cR (i:=0) (show(t_ ["_law_name"] [("_law_one",1),("_law_other",2)]).Nodup by decide+kernel) U (Or.inl U))) (λ_ _ _ _=>lN) (λ_ _ _ _=>(cG mQ (hr.mono (by omega)) U cq (ag (cG iB (hr.mono (by omega)) U cq (ag (pv 1) (ag (pv 0) aA))) (ag (cG iB (hr.mono (by omega)) U cq (ag (pv 2) (ag (pv 0) aA))) aA))))) (av (vX (i:=5) ["_law_size"] [] tE.nd U (Or.inl U) U (gk (pv 4)) (by rfl) (by exact trivial) (by rfl) (by exact trivial) (λ_ _ _ _=>(cR (i:=0) (show(t_ ["_law_size"] []).Nodup by decide+kernel) U (Or.inl U))) (λ_ _ _ _=>(tG (bQ qZ (pv 0) a9 (cf _)))) (λ_ _ _ _=>(pv 0))) (av (c9 (bQ (Gp II) (pv 5) (fC aA) (cf _)) (aR (bP (qm xF (pv 0) gN (cf _)))) b9) (av (c9 (PW.pt (pw_or (mH (iS (cg gK (by rfl) T.b7 eg (ag (pv 0) (ag (qo (v:=.ty "tuple") U T.X3 RG U) aA))))) (pw_or (bQ wg (cg fz (by rfl) T.j6 gE (ag (pv 0) aA)) a9 (cf _)) (pw_or1 (bQ wg (dI jc (pv 0) a9 (λ_ _=>rfl)) (dI dY (pv 3) (i6 cH PySem.F.slot_list_index PySem.F.type_list_index Nl (pv 4) (ag (cg (AS U) (by rfl) T.U7 ve (ag (pv 5) aA)) aA)) (λ_ _=>rfl)) (cf _)))))) (aR (bP si)) b9) (aR (bP (cG oF (hr.mono (by omega)) U cq (ag (dI jc (pv 0) a9 (λ_ _=>rfl)) (ag (cG iB (hr.mono (by omega)) U cq (ag (pv 1) (ag (dI jc (pv 0) a9 (λ_ _=>rfl)) aA))) (ag (cG iB (hr.mono (by omega)) U cq (ag (pv 2) (ag (dI jc (pv 0) a9 (λ_ _=>rfl)) aA))) (ag (cg (AS U) (by rfl) T.U7 ve (ag (pv 5) aA)) aA)))))))))))), ?_⟩
  obtain⟨_,hp,_⟩:=id a1;refine⟨_,U,a,U,⟨_,cK.of hp⟩,zw a1 l1 (λd z x y H2 hd RT RF rt=> ?_) λD H1 hD s1 d1=> ?_⟩
  ·refine⟨trivial, ?_⟩;unfold qX;exact jH (GX U (jU.of hd) U (rt _ (bU.refl _)))
  refine⟨D,_,U,cK.of d1,by rw[ao];omega,λzs pz sz Z hZ=> ?_⟩
  have s2:=s1.trans (aU (o:=.lst (zs.map V.str)) hZ);have dZ:upd H1 Z (.lst (zs.map V.str)) Z=some (.lst (zs.map V.str)):=ay;generalize upd H1 Z (.lst (zs.map V.str))=H2 at s2 dZ
  clear s1 d1 hZ hD hp;have lz:zs.length=rs.length:=by rw[pz.length_eq,ao]
  have tms:∀z∈zs,(∃r,wc rs.reverse (some z)=some r/\r.tm=some (ma rs z)/\(ma rs z).good/\(ma rs z).cnt<=10)/\∃r,wc us.reverse (some z)=some r/\r.tm=some (ma us z)/\(ma us z).good/\(ma us z).cnt<=10:=λz hz=>by
   have hz:=pz.mem_iff.mp hz;exact⟨K0 k1 hz,K0 k2 ((U9 z).mp hz)⟩
  refine⟨_,U,Z,U,⟨_,cK.of dZ⟩,tV zs V.str (λz=>[V.int ((d_ rs us z:Nat):Int)]) dZ (by omega) (λ_=>aE 1) (λz hz H3 s3 RT RF rt rf=> ?_) λSz H3 hSz s3 dS=> ?_⟩
  ·obtain⟨⟨r1,o1,t1,_,c1⟩,r2,o2,t2,_,c2⟩:=tms z hz;refine⟨⟨U,U,trivial⟩, ?_⟩;unfold qX;refine jH ⟨_,U,_,U,a,z,rs,r1,_,U,a1.same (s2.trans s3),by omega,o1,t1,λm1 H4 s4 ZC=>⟨_,rfl,_,rfl,b,z,us,r2,_,rfl,a2.same (s2.trans (s3.trans s4)),by omega,o2,t2,λm2 H5 s5 ZA=> ?_⟩⟩;exact⟨m1,m2,_,_,U,ZC.same s5,ZA,c1,c2,λH6 s6=>rt _ _ U (s4.trans (s5.trans s6))⟩
  rw[kN] at dS
  have s23:=s2.trans s3;have dZ:=s3 _ _ dZ;clear s2 s3 hSz;refine⟨_,U,Sz,U,⟨_,cK.of dS⟩,tV zs (λz=>V.int ((d_ rs us z:Nat):Int)) (λz=>if apart rs us z=true then[V.int ((d_ rs us z:Nat):Int)] else[]) dS (by omega) (wM (λz=>V.int ((d_ rs us z:Nat):Int)) _) (λz hz H4 s4 RT RF rt rf=> ?_) λTh H4 hTh s4 dT=> ?_⟩
  ·have ed:decide ((0:Int)<((d_ rs us z:Nat):Int))=apart rs us z:=decide_eq_decide.mpr (by omega);refine⟨trivial,_,U,_,_,U,U,_,U, ?_⟩;show if decide ((0:Int)<((d_ rs us z:Nat):Int))=true then _ else _;rw[ed];exact gW (λe=>⟨_,U,rt _ _ (bg e) (bU.refl _)⟩) (λe=>rf _ (aX e) (bU.refl _))
  rw[nM (λz=>V.int ((d_ rs us z:Nat):Int))] at dT
  have SX:=s23.trans s4;have dZ:=s4 _ _ dZ;have dS:=s4 _ _ dS;clear s23 s4 hTh;refine⟨_,U,bz _,λE_ hE=> ?_⟩;have IG:=SX.trans (aU (o:=.lst []) hE);have dZ:=aU (o:=.lst []) hE _ _ dZ;have dS:=aU (o:=.lst []) hE _ _ dS;have dT:=aU (o:=.lst []) hE _ _ dT;refine⟨Th,E_,_,U,U,cK.of dT,cK.of ay,_,U, ?_⟩;generalize upd H4 E_ (.lst [])=H5 at IG dZ dS dT
  obtain⟨Sj,pz',sz',cas⟩:=fd.same IG;obtain rfl:Sj=zs:=Jd pz' pz sz' sz;clear sz' pz' fd SX hE;rcases cas with ⟨rfl,z0⟩|⟨p,z,rfl,td,best⟩
  ·have ef:Sj.filter (apart rs us)=[]:=List.filter_eq_nil_iff.mpr λz hz=>by
    unfold apart;rw[z0 z hz]
    decide
   rw[ef];exact EM U ⟨_,U,U,vW (q H5 IG) U⟩
  ·obtain⟨i,ei,pz1,kb⟩:=id best;have hz:=cI ei;have mz:z∈Sj.filter (apart rs us):=dA.mpr ⟨hz,pz1⟩;have nef:¬(Sj.filter (apart rs us)).map (λz=>V.int ((d_ rs us z:Nat):Int))=[]:=λw=>kX mz (qV.mp w);refine jT nef ?_;obtain⟨l,c,k,hp,hl,_,mc,lo,lf⟩:=td;obtain⟨⟨r1,o1,t1,_,c1⟩,r2,o2,t2,_,c2⟩:=tms z hz;have em:∀xs:List Str,(xs.map λz=>V.int ((d_ rs us z:Nat):Int))=(xs.map λz=>((d_ rs us z:Nat):Int)).map V.int:=λxs=>by rw[cM];rfl
   rw[em] at dS dT
   have nei:((Sj.filter (apart rs us)).map λz=>((d_ rs us z:Nat):Int))≠[]:=λw=>kX mz (qV.mp w);have lei:i<Sj.length:=(bT.mp ei).1;refine⟨_,U,_,_,_,_,true,U,U,pL.tup hp,T.ktt,_,U,ic ⟨_,U,_,_,U,.inr ⟨_,jU.of hp,U⟩,U,_,U,pF U ?_⟩⟩;refine GX U (jU.of hp) U ⟨_,U,_,U,.inl ⟨U,_,cK.of dS⟩,_,U,Th,_,U,cK.of dT,nei,λM hM=> ?_⟩;have eM:=AX best hM;subst eM;refine⟨Sz,_,_,i,U,U,dS, ?_,by omega,λm hm e=> ?_,Z,_,_,_,rfl,rfl,cK.of dZ,BY (by rw[cj,ei];rfl),rfl,_,rfl,pF rfl ?_⟩
   ·rw[cj,ei];rfl
   ·rw[cj] at e
    have lm:m<Sj.length:=by omega
    rw[aK lm] at e
    have e:((d_ rs us Sj[m]:Nat):Int)=((d_ rs us z:Nat):Int):=bR e;have p0:0<d_ rs us z:=ba pz1;have:=(kb m Sj[m] (aK lm) (bf (by omega))).2 hm;omega
   clear hM;refine GX U (jU.of hp) U ⟨_,U,GX U (jU.of hp) U ⟨a,z,rs,r1,_,U,a1.same IG,by omega,o1,t1,λm1 H6 s6 ZC=> ?_⟩⟩;have hp6:=s6 _ _ hp;refine⟨_,U,GX U (jU.of hp6) U ⟨b,z,us,r2,_,U,a2.same (IG.trans s6),by omega,o2,t2,λm2 H7 s7 ZA=> ?_⟩⟩;have s57:=s6.trans s7;refine⟨_,U,Th,_,U,cK.of (s57 _ _ dT),nei,λM hM=> ?_⟩;have eM:=AX best hM;have ek:=xl mc lo lf;obtain⟨ndk,_,pos⟩:=Nt lf (tT mc).1;have lk_:k.length<=31:=by
    have:=(tT mc).2;have:=GJ lf;omega
   exact⟨l,m1,m2,k,_,_,by show[V.ref l,V.ref m1,V.ref m2,V.int M]=_;rw[eM,ek],s57 _ _ hl,ZC.same s7,ZA,c1,c2,ndk,lk_,pos,MW mc lo lf,λH8 s8=>q H8 (IG.trans (s57.trans s8))⟩
theorem Yr(ns:List Int):∃ms:List Int,BU (ns.map V.int) (some 2) (some 14)=ms.map V.int/\ms.length<=12:=by
 refine⟨(ns.drop (HT.Ct ns.length 0 (some 2))).take (HT.Ct ns.length ns.length (some 14)-HT.Ct ns.length 0 (some 2)), ?_, ?_⟩
 ·unfold BU;rw[ao,List.map_take,List.map_drop]
 ·rw[dh,show(14:Int)=((14:Nat):Int) from rfl,show(2:Int)=((2:Nat):Int) from rfl,HT.DX,HT.DX];omega
theorem u_{a b:TS}{D:Ends}{σ:L2.St}{H:Hp}(h:∀B:L2.St->Hp->Prop,(∀σ' H',b D σ' H'->B σ' H')->Ws a (λ_=>B) D σ H):Ws a b D σ H:=h (b D) λ_ _ x=>x
theorem YC.same{cn ca cl ce:aj}{H H':Hp}(s:bU H H'){a b:aj}{rs us:List Sr}(h:YC cn ca cl ce H a b rs us):YC cn ca cl ce H' a b rs us:=⟨h.a1.same s,h.a2.same s,h.k1,h.k2,h.l1,h.l2⟩
theorem zi{rs us:List Sr}(h:Oj rs us){z:Str}:¬vh rs us z:=λ⟨x,y⟩=>by
 rcases x with x|x<;>rcases y with y|y
 ·exact y x
 ·exact y ((h z).mp x)
 ·exact y ((h z).mpr x)
 ·exact y x
theorem Kn{rs:List Sr}{H0 H:Hp}{v:V}(h:Found rs rs H0 H v):v=.fR:=by
 obtain⟨zs,_,_,c⟩:=h;rcases c with ⟨e,_⟩|⟨p,z,_,_,i,_,pz,_⟩
 ·exact e
 ·have p0:0<d_ rs rs z:=ba pz;unfold d_ at p0
  rw[Ji] at p0
  exact absurd p0 (dP _)
theorem P7{rs us:List Sr}{x z:Str}{r:List Str}(mem:∀y,y∈x::r↔vh rs us y)(sz:sortedS (x::r)=true)(oz:vh rs us z)(lo:∀y,vh rs us y->strLt y z=false):x=z:=by
 have a:=dU.mp (uP sz);rcases jZ.IZ x z with t|t|t
 ·rw[lo x ((mem x).mp (aB ..))] at t;cases t
 ·exact t
 ·rcases aJ.mp ((mem z).mpr oz) with e|e
  ·exact e.symm
  ·rw[a.1 z e] at t;cases t
theorem Cj(rs:List Sr)(h:dO [] rs)(l:rs.length<=13):((rs.map Sr.txt).map (·.length)).sum+(rs.map Sr.txt).length*(Str.ofString "\n").length<=16777216:=J_ (λp hp=>by
 obtain⟨r,hr,rfl⟩:=a5.mp hp;exact vK (qJ h r hr)) (by rw[ao];exact l)
theorem jy:b_ ["_law_script","_law_names_by","_law_texts_here","_law_others","_law_one","_law_other","_law_handed","_law_alone_here","_law_told","_law_found","e"] ["_law_script"] (bG vU):=⟨rfl,rfl,rfl,by decide+kernel,rfl,by decide+kernel,by decide+kernel⟩
theorem Xc{f:aj}{fd:bC}(F:je K "law" "law" vU f fd)(T:Txt K mg bh a4 aO aN bF bE a3 aP aI aD aC ar aV bY bw bL bA bM bq a_ br bB aS bX)(sL:fi P w K mg base c8 2 "_law_alone" ["_law_one","_law_other","_law_cell","_law_names_by"] pV)(iC:fi P w K mg base c8 1 "_law_cell_at" ["_law_script","_law_k"] (mq K))(oG:fi P w K mg base c8 2 "_law_fitting" ["_law_rows_here","_law_number"] mn)(wW:fi P w K mg base c8 25 "_law_so" ["_law_found","_law_one","_law_other"] (xp aI aD aC ar))(sI:fi P w K mg base c8 5 "_law_texts" ["_law_cells","_law_names_by"] pT)(qE:fi P w K mg base c8 1 "_law_unlike" ["_law_told","_law_due"] (nQ aS))(nN:fi P w K mg base c8 27 "book_read" ["text"] (pZ aI aD aC ar))(sG:fi P w K mg base (yh P w) 25 "parted" ["one","other"] (xn aI aD aC ar aS)):dJ P w K mg base c8 28 f fd ["_law_script"] (Pc K):=by
 refine F.ok jy (λvs H Q E h=> ?_) (λdQ A outer s H vs Q E hr h=> ?_)
 ·obtain⟨a,ns,rfl,_⟩:=h
  rfl
 ·obtain⟨a,ns,rfl,hS,hlen,_,fin⟩:=h;have l5:=fo;have II:=Kf hr;refine⟨_,(av (bS (i:=1) jy.nd U (Or.inl U) (cG iC (hr.mono (by omega)) U cq (ag (pv 0) (ag a9 aA)))) (av (D9 (cG sI (hr.mono (by omega)) U cq (ag (mI DH (pv 0) (nJ a9) (nJ a9)) (ag (pv 1) aA))) (ql U (fw (cR (i:=2) jy.nd U (Or.inl U)) (fw (cR (i:=3) jy.nd U (Or.inl U)) lO)))) (av (D9 (cG sL (hr.mono (by omega)) U cq (ag (pv 2) (ag (pv 3) (ag (cG iC (hr.mono (by omega)) U cq (ag (pv 0) (ag a9 aA))) (ag (pv 1) aA))))) (ql U (fw (cR (i:=2) jy.nd U (Or.inl U)) (fw (cR (i:=3) jy.nd U (Or.inl U)) lO)))) (av (c9 (bQ qZ (bV fh (bV iG (cG iC (hr.mono (by omega)) U cq (ag (pv 0) (ag a9 aA))) a9) a9) a9 (cf _)) (aR (bS (i:=3) jy.nd U (Or.inl U) (cG oG (hr.mono (by omega)) U cq (ag (pv 3) (ag (cg Iv (by rfl) T.Z0F RK (ag (cG iC (hr.mono (by omega)) U cq (ag (pv 0) (ag a9 aA))) aA)) aA))))) b9) (av (bS (i:=4) jy.nd U (Or.inl U) (cG nN (hr.mono (by omega)) U cq (ag (i6 dE nB nA tP cV (ag (pv 2) aA)) aA))) (av (bS (i:=5) jy.nd U (Or.inl U) (cG nN (hr.mono (by omega)) U cq (ag (i6 dE nB nA tP cV (ag (pv 3) aA)) aA))) (av (bS (i:=6) jy.nd U (Or.inl U) (fC (ag (g_ lU (by rfl) T.S7 wX (ag (pv 4) aA)) (ag (g_ lU (by rfl) T.S7 wX (ag (pv 5) aA)) aA)))) (av (bS (i:=7) jy.nd U (Or.inl U) (cg (Fc U) (by rfl) T.u6 pJ (ag (bV TK (g_ (C_ U) (by rfl) T.Z0C RH (ag (kF ["_law_row"] [] U (gk (pv 4)) (by rfl) (by exact trivial) (by rfl) (by exact trivial) (λ_ _ _ _=>(cR (i:=0) (show(t_ ["_law_row"] []).Nodup by decide+kernel) U (Or.inl U))) (λ_ _ _ _=>lN) (λ_ _ _ _=>(dI (zo (K:=K) U) (pv 0) a9 (λ_ _=>rfl)))) aA)) (g_ (C_ U) (by rfl) T.Z0C RH (ag (kF ["_law_row"] [] U (gk (pv 5)) (by rfl) (by exact trivial) (by rfl) (by exact trivial) (λ_ _ _ _=>(cR (i:=0) (show(t_ ["_law_row"] []).Nodup by decide+kernel) U (Or.inl U))) (λ_ _ _ _=>lN) (λ_ _ _ _=>(dI (zo (K:=K) U) (pv 0) a9 (λ_ _=>rfl)))) aA))) aA))) (av (bS (i:=8) jy.nd U (Or.inl U) gN) (av (bS (i:=9) jy.nd U (Or.inl U) gN) (av (Gk (CX:=c8) (iy:=9) (i:=10) (by rfl) sG (hr.mono (by omega)) (by rfl) (ag (dI dY (pv 6) a9 (λ_ _=>rfl)) (ag (dI dY (pv 6) a9 (λ_ _=>rfl)) aA)) jy.nd (by rfl) (by rfl) (by rfl) T.qu (by rfl) (by rfl) (λ_=>(aR (bS (i:=8) jy.nd U (Or.inl U) (pv 10))))) (av (c9 (bQ (JC II) (pv 6) (fC (ag (pv 4) (ag (pv 5) aA))) (cf _)) (aR (bP si)) b9) (av (c9 (bQ (P1 II) (pv 7) (fC aA) (cf _)) (aR (bP (cG qE (hr.mono (by omega)) U cq (ag (pv 8) (ag (dI dY (pv 7) a9 (λ_ _=>rfl)) aA))))) b9) (av (c9 (PW.pt (pw_or (bQ we (pv 8) gN (cf _)) (pw_or (mH (iS (cG wW (hr.mono (by omega)) U cq (ag (pv 9) (ag (pv 4) (ag (pv 5) aA)))))) (pw_or1 (bQ we (cG sG (hr.mono (by omega)) U Lo (ag (dI dY (pv 6) a9 (λ_ _=>rfl)) (ag (g_ lU (by rfl) T.S7 wX (ag (pv 4) aA)) aA))) gN (cf _)))))) (aR (bP si)) b9) (av (c9 (bQ we (pv 9) gN (cf _)) (aR (gY (MV (dI jc (pv 9) a9 (λ_ _=>rfl))))) b9) (aR (bP (cG wW (hr.mono (by omega)) U cq (ag (cG sG (hr.mono (by omega)) U Lo (ag (dI dY (pv 6) a9 (λ_ _=>rfl)) (ag (dI dY (pv 6) a9 (λ_ _=>rfl)) aA))) (ag (pv 4) (ag (pv 5) aA))))))))))))))))))))), ?_⟩
  refine u_ λB_ hB=> ?_
  suffices nx:∀(c0:Int) (H1:Hp),bU H H1->B_ [some (.ref a),some (.int c0),none,none,none,none,none,none,none,none,none] H1 by
   exact⟨_,U,a,ns,0,U,hS,λc0 H1 s1=>nx c0 H1 s1⟩
  intro c0 H1 s1;refine hB _ _ ?_;clear hB;refine u_ λB_ hB=> ?_
  suffices nx:∀(A B:aj) (rs us:List Sr) (H2:Hp),bU H1 H2->H2 A=some (jx rs)->H2 B=some (jx us)->Rows c0 rs->Rows c0 us->rs.length<=12->us.length<=12->B_ [some (.ref a),some (.int c0),some (.ref A),some (.ref B),none,none,none,none,none,none,none] H2 by
   obtain⟨ms,em,lm⟩:=Yr ns;refine⟨_,U,_,U,_,U,a,_,U,s1.seq hS,λp hp=>⟨_,U,p,ms,c0,U,by rw[ay,em],lm,λrs vn t A B H2 s2 ht hA VF r1 r2 m1 m2=> ?_⟩⟩;exact⟨t,_,U,jU.of ht,U,_,_,U,_,_,U,U,nx A B rs vn H2 ((aU hp).trans s2) hA VF r1 r2 m1 m2⟩
  intro A0 B0 rs0 us0 H2 s2 hA0 hB0 r1 r2 m1 m2;refine hB _ _ ?_;clear hB;have Zf:=(s1.trans s2).seq hS;clear s1 s2 hS;refine u_ λB_ hB=> ?_
  suffices nx:∀(A B:aj) (rs us:List Sr) (H3:Hp),bU H2 H3->H3 A=some (jx rs)->H3 B=some (jx us)->dO [] rs->dO [] us->rs.length<=13->us.length<=13->B_ [some (.ref a),some (.int c0),some (.ref A),some (.ref B),none,none,none,none,none,none,none] H3 by
   refine⟨_,U,_,U,_,U,a,ns,1,U,Zf,λc1 H3 s3=>⟨_,U,A0,B0,c1,c0,rs0,us0,U,s3 _ _ hA0,s3 _ _ hB0,r1,r2,m1,m2,λvn OL t A' B' H4 s4 ht hA VF b1 b2 m1 m2=> ?_⟩⟩;exact⟨t,_,U,jU.of ht,U,_,_,U,_,_,U,U,nx A' B' vn OL H4 (s3.trans s4) hA VF b1 b2 m1 m2⟩
  clear hA0 hB0 r1 r2 m1 m2;intro A B1 rs us1 H3 s3 hA Zh k1 k2 l1 l2;refine hB _ _ ?_;clear hB;have hS3:=s3.seq Zf;clear s3 Zf;refine u_ λB_ hB=> ?_
  suffices nx:∀(B:aj) (us:List Sr) (H4:Hp),bU H3 H4->H4 B=some (jx us)->dO [] us->us.length<=13->B_ [some (.ref a),some (.int c0),some (.ref A),some (.ref B),none,none,none,none,none,none,none] H4 by
   refine⟨_,U,a,ns,1,U,hS3,λc1 H4 s4=>⟨_,_,U,U,⟨by decide,by decide⟩,_,_,U,U,(by show(0:Int)<3;decide),_,_,U,U,_,U,gW (λ_=> ?_) (λ_=>nx B1 us1 H4 s4 (s4 _ _ Zh) k2 l2)⟩⟩
   refine⟨_,U,_,U,a,ns,1,U,s4.seq hS3,λc2 H5 s5=>⟨_,U,B1,us1,_,U,s5 _ _ (s4 _ _ Zh),k2,l2,λus q H6 s6 hq b2 m2=>nx q us H6 (s4.trans (s5.trans s6)) hq b2 m2⟩⟩
  clear k2 l2 Zh;intro B us H4 s4 VF k2 l2;refine hB _ _ ?_;clear hB;have hA:=s4 _ _ hA;clear s4 hS3;refine u_ λB_ hB=> ?_
  suffices nx:∀(O1:aj) (H5:Hp),bU H4 H5->yZ aI aD aC ar H5 O1 rs->B_ [some (.ref a),some (.int c0),some (.ref A),some (.ref B),some (.ref O1),none,none,none,none,none,none] H5 by
   exact⟨U,_,U,_,A,_,U,U,cK.of hA,Cj rs k1 l1,rs,U,k1,by omega,λp H5 _ s5 b=>nx p H5 s5 b⟩
  intro O1 H5 s5 w1;refine hB _ _ ?_;clear hB;have VF:=s5 _ _ VF;refine u_ λB_ hB=> ?_
  suffices nx:∀(O2:aj) (H6:Hp),bU H5 H6->yZ aI aD aC ar H6 O2 us->B_ [some (.ref a),some (.int c0),some (.ref A),some (.ref B),some (.ref O1),some (.ref O2),none,none,none,none,none] H6 by
   exact⟨U,_,U,_,B,_,U,U,cK.of VF,Cj us k2 l2,us,U,k2,by omega,λp H6 _ s6 b=>nx p H6 s6 b⟩
  intro O2 H6 s6 w2;refine hB _ _ ?_;clear hB;have w1:=w1.same s6;clear s5 s6 hA VF;obtain⟨Ib,g1,YV⟩:=id w1;obtain⟨Kt,g2,YU⟩:=id w2;refine u_ λB_ hB=> ?_
  suffices nx:∀(h1 h2 Hd:aj) (H7:Hp),bU H6 H7->H7 h1=some (.lst (Ib.map V.ref))->H7 h2=some (.lst (Kt.map V.ref))->H7 Hd=some (.lst [.ref h1,.ref h2])->B_ [some (.ref a),some (.int c0),some (.ref A),some (.ref B),some (.ref O1),some (.ref O2),some (.ref Hd),none,none,none,none] H7 by
   refine⟨_,U,O1,_,U,.inl (cK.of g1),λh1 Zc=>⟨_,U,O2,_,U,.inl (cK.of (aU Zc _ _ g2)),λh2 hh2=>⟨show 2<=sizeLine from sl,λHd hHd=> ?_⟩⟩⟩;exact nx h1 h2 Hd _ ((aU Zc).trans ((aU hh2).trans (aU hHd))) (aU hHd _ _ (aU hh2 _ _ ay)) (aU hHd _ _ ay) ay
  intro h1 h2 Hd H7 s7 e1 e2 eH;refine hB _ _ ?_;clear hB;have w1:=w1.same s7;have w2:=w2.same s7;have YV:=jE s7 YV;have YU:=jE s7 YU;have g1:=s7 _ _ g1;have g2:=s7 _ _ g2;clear s7;refine u_ λB_ hB=> ?_
  suffices nx:∀(Z:aj) (zs:List Str) (H8:Hp),bU H7 H8->H8 Z=some (.lst (zs.map V.str))->sortedS zs=true->(∀y,y∈zs↔vh rs us y)->B_ [some (.ref a),some (.int c0),some (.ref A),some (.ref B),some (.ref O1),some (.ref O2),some (.ref Hd),some (.ref Z),none,none,none] H8 by
   refine⟨_,U,O1,U,⟨_,cK.of g1⟩,zw w1 l1 (λd z x y H2 hd RT RF rt=> ?_) λD1 H8 hD1 s8 d1=> ?_⟩
   ·refine⟨trivial, ?_⟩;unfold qX;exact jH (GX U (jU.of hd) U (rt _ (bU.refl _)))
   refine⟨D1,rs.map Sr.nm,U,cK.of d1,by rw[ao];omega,λS1 hS1=> ?_⟩
   have s9:=s8.trans (aU (o:=B3 P w S1 (uniq [] (rs.map Sr.nm))) hS1);have q1:upd H8 S1 (B3 P w S1 (uniq [] (rs.map Sr.nm))) S1=some (B3 P w S1 (uniq [] (rs.map Sr.nm))):=ay;refine⟨_,U,O2,U,⟨_,cK.of (s9 _ _ g2)⟩,zw (w2.same s9) l2 (λd z x y H2 hd RT RF rt=> ?_) λD2 KO hD2 yo d2=> ?_⟩
   ·refine⟨trivial, ?_⟩;unfold qX;exact jH (GX U (jU.of hd) U (rt _ (bU.refl _)))
   refine⟨D2,us.map Sr.nm,U,cK.of d2,by rw[ao];omega,λS2 Zf=> ?_⟩
   have q1:=yo _ _ q1;have u1:=vJ (rs.map Sr.nm) [];have u2:=vJ (us.map Sr.nm) [];rw[ao] at u1 u2
   refine⟨S1,S2,_,_,U,U,aU Zf _ _ q1,ay,uJ _ _ l7,uJ _ _ l7,by simp at u1;omega,by simp at u2;omega,λX_ xs hX xo=> ?_⟩
   have mem:∀y,y∈xs↔vh rs us y:=λy=>by
    rw[xo.mem,zM,zM];unfold vh;simp only [List.not_mem_nil,false_or]
    constructor
    ·rintro(⟨h,k⟩|⟨h,k⟩)
     ·exact⟨.inr h,.inl k⟩
     ·exact⟨.inl k,.inr h⟩
    ·rintro⟨h|h,k|k⟩
     ·exact absurd h k
     ·exact .inr ⟨k,h⟩
     ·exact .inl ⟨h,k⟩
     ·exact absurd h k
   have lx:xs.length<64:=by
    have sub:∀y∈xs,y∈rs.map Sr.nm++us.map Sr.nm:=λy hy=>a8.mpr ((mem y).mp hy).1;have:=(M4.sub_len xo.nd sub).1;rw[bb,ao,ao] at this
    omega
   refine⟨X_,xs,U,ay,lx,λzs pz sz Z hZ=> ?_⟩;exact nx Z zs _ (s9.trans (yo.trans ((aU Zf).trans ((aU hX).trans (aU hZ))))) ay sz λy=>pz.mem_iff.trans (mem y)
  intro Z zs H8 s8 dZ sz mem;refine hB _ _ ?_;clear hB;have w1:=w1.same s8;have w2:=w2.same s8;have YV:=jE s8 YV;have YU:=jE s8 YU;have g1:=s8 _ _ g1;have g2:=s8 _ _ g2;have e1:=s8 _ _ e1;have e2:=s8 _ _ e2;have eH:=s8 _ _ eH;clear s8;have bO:YC aI aD aC ar H8 O1 O2 rs us:=⟨w1,w2,k1,k2,l1,l2⟩
  have bH:YC aI aD aC ar H8 h1 h2 rs us:=⟨⟨Ib,e1,YV⟩,⟨Kt,e2,YU⟩,k1,k2,l1,l2⟩
  clear w1 w2 YV YU;refine u_ λB_ hB=>hB _ _ ?_;clear hB;refine u_ λB_ hB=>hB _ _ ?_;clear hB;refine u_ λB_ hB=> ?_
  suffices nx:∀(v8 v9:V) (H9:Hp),bU H8 H9->(Oj rs us/\v8=.fR/\Found rs us H8 H9 v9\/∃(e d:aj) (z:Str),v8=.ref e/\H9 e=some (XO e aS (some d))/\H9 d=some (XD d (Str.ofString "name") (.str z))/\vh rs us z/\∀y,vh rs us y->strLt y z=false)->B_ [some (.ref a),some (.int c0),some (.ref A),some (.ref B),some (.ref O1),some (.ref O2),some (.ref Hd),some (.ref Z),some v8,some v9,none] H9 by
   refine AG U (cK.of eH) U (AG U (cK.of eH) U ⟨h1,h2,rs,us,U,bH,λU9 v H9 s9 fd=> ?_,λz oz lo=> ?_⟩)
   ·exact nx .fR v H9 s9 (.inl ⟨U9,U,fd⟩)
   ·intro d H9 hd s9 hx e he;refine⟨_,U,T.Zb7,_,U, ?_⟩;exact nx (.ref e) .fR _ (s9.trans (aU he)) (.inr ⟨e,d,z,U,ay,by rw[aY (bI hx he)];exact hx,oz,lo⟩)
  intro v8 v9 H9 s9 cas;refine hB _ _ ?_;clear hB;refine u_ λB_ hB=> ?_
  suffices nx:∀KO,bU H9 KO->B_ [some (.ref a),some (.int c0),some (.ref A),some (.ref B),some (.ref O1),some (.ref O2),some (.ref Hd),some (.ref Z),some v8,some v9,none] KO by
   refine⟨_,U,_,U,_,U,show 2<=sizeLine from sl,λM hM=> ?_⟩;have yo:=aU (o:=.lst [.ref O1,.ref O2]) hM;have BA:=s9.trans yo;refine⟨Hd,M,[(h1,O1),(h2,O2)],U,U,cK.of (BA _ _ eH),cK.of ay,λp hp=> ?_,_,U,ic (nx _ yo)⟩;have rf:∀(ds:List aj) (v:V),v∈ds.map V.ref->∃d,v=.ref d:=λds v hv=>by
    obtain⟨d,_,e⟩:=a5.mp hv;exact⟨d,e.symm⟩
   rcases aJ.mp hp with rfl|hp
   ·exact⟨_,cK.of (BA _ _ e1),cK.of (BA _ _ g1),rf Ib⟩
   ·obtain rfl:=dm.mp hp;exact⟨_,cK.of (BA _ _ e2),cK.of (BA _ _ g2),rf Kt⟩
  intro KO yo;refine hB _ _ ?_;clear hB;have BA:=s9.trans yo;refine u_ λB_ hB=> ?_
  suffices nx:∀Om,bU KO Om->zs=[]->B_ [some (.ref a),some (.int c0),some (.ref A),some (.ref B),some (.ref O1),some (.ref O2),some (.ref Hd),some (.ref Z),some v8,some v9,none] Om by
   refine⟨_,U,bz _,λE_ hE=>⟨1,.lst (zs.map λw=>Dt.v (.str w)),.lst [],by decide,rfl,.lst (cK.of (aU hE _ _ (BA _ _ dZ))) (zT _),.lst (cK.of ay) .nil, ?U9,_,rfl, ?_⟩⟩
   case U9=>
    show((zs.map λw=>Dt.v (.str w)).zip ([]:List Dt)).all _=true;rw[List.zip_nil_right]
    rfl
   have DY:=aU (o:=.lst []) hE;cases zs with
   |nil=>exact ic (nx _ DY U)
   |cons x r=>
    refine jH ?_;rcases cas with ⟨U9,_,_⟩|⟨e,d,z,rfl,he,hd,oz,lo⟩
    ·exact absurd ((mem x).mp (aB ..)) (zi U9)
    ·obtain rfl:=P7 mem sz oz lo;have Jo:=yo.trans DY;exact⟨_,U,AG U (cK.of (DY _ _ (BA _ _ dZ))) (BY U) ⟨e,d,x,U,Jo _ _ he,Jo _ _ hd,λWb SW=>fin _⟩⟩
  intro Om DY ez;refine hB _ _ ?_;clear hB;have U9:Oj rs us:=λz=>by
   have h:¬vh rs us z:=λy=>by
    have:=(mem z).mpr y;rw[ez] at this
    cases this
   exact⟨λy=>ik λw=>h ⟨.inl y,.inr w⟩,λy=>ik λw=>h ⟨.inr y,.inl w⟩⟩
  obtain⟨rfl,fd⟩:v8=.fR/\Found rs us H8 H9 v9:=by
   rcases cas with ⟨_,e,fd⟩|⟨e,d,z,_,_,_,oz,_⟩
   ·exact⟨e,fd⟩
   ·exact absurd oz (zi U9)
  clear cas mem sz ez;have SV:=BA.trans DY;have fd:=fd.same (yo.trans DY);refine u_ λB_ hB=> ?_
  suffices nx:∀Wb,bU Om Wb->B_ [some (.ref a),some (.int c0),some (.ref A),some (.ref B),some (.ref O1),some (.ref O2),some (.ref Hd),some (.ref Z),some .fR,some v9,none] Wb by
   refine⟨_,U,U,_,U,pF U ⟨_,U,_,U,_,U,v9,O1,O2,rs,us,H8,U,bO.same SV,U9,fd,λWb SW=>⟨_,U,ic ?_⟩⟩⟩;have MK:=SV.trans SW;refine AG U (cK.of (MK _ _ eH)) U ⟨_,U,O1,_,U,.inl (cK.of (MK _ _ g1)),λc hc=> ?_⟩;have ML:=aU (o:=.lst (Ib.map V.ref)) hc;have ZZ:=MK.trans ML;refine⟨h1,c,rs,rs,U,⟨bH.a1.same ZZ, ?_,k1,k1,l1,l1⟩,λ_ v H14 YS fd2=> ?_,λz oz _=>absurd oz (zi λ_=>Iff.rfl)⟩
   ·obtain⟨ds,e,pr⟩:=bO.a1;rw[g1] at e
    have e:Ib.map V.ref=ds.map V.ref:=by injection e with e;injection e
    exact⟨ds,by rw[ay,e],jE ZZ pr⟩
   ·have e:=Kn fd2;subst e;exact⟨U,_,U,pF U (nx H14 (SW.trans (ML.trans YS)))⟩
  intro Wb SW;refine hB _ _ ?_;clear hB;have MK:=SV.trans SW;have fd:=fd.same SW;clear s9 yo DY SW BA SV;refine u_ λB_ hB=> ?_
  suffices nx:∀H13,bU H8 H13->B_ [some (.ref a),some (.int c0),some (.ref A),some (.ref B),some (.ref O1),some (.ref O2),some (.ref Hd),some (.ref Z),some .fR,some v9,none] H13 by
   obtain⟨Sj,_,_,⟨rfl,_⟩|⟨p,z,rfl,⟨l,c,k,hp,hl,h0,_⟩,_⟩⟩:=fd
   ·exact⟨_,U,U,_,U,pF U (nx Wb MK)⟩
   ·refine⟨_,U,U,_,U,GY (λz=>nomatch z) (GX U (jU.of hp) U ⟨l,_,U,hl,nx _ λb u e=> ?_⟩)⟩;rw[aY (bI e h0)];exact MK _ _ e
  intro H13 ML;refine hB _ _ ?_;clear hB;refine AG U (cK.of (ML _ _ eH)) U (AG U (cK.of (ML _ _ eH)) U ⟨h1,h2,rs,us,U,bH.same ML,λ_ v H14 YS fd2=> ?_,λz oz _=>absurd oz (zi U9)⟩);exact⟨_,U,_,U,v,O1,O2,rs,us,H13,U,bO.same (ML.trans YS),U9,fd2,λH15 s15=>fin _⟩
end
def Gd(K:au)(x:Str)(st:Stmt):Prop:=∃A fd,PySem.W.nsIn K mainGlobals x=some (some (.ref A))/\je K x x st A fd
def Md(K:au)(C:aj)(x q:Str)(st:Stmt):Prop:=∃A fd,PySem.W.findIn K (.ref C) x=some (some (.ref A))/\isFn K (.ref A)=true/\je K x q st A fd
def Xd(K:au)(N:aj)(x q:Str)(st:Stmt):Prop:=∃A oc od fd sl,PySem.W.nsIn K N x=some (some (.ref A))/\K.lookup A=some ⟨oc,od,.func fd,sl⟩/\oc=.type "function"/\je K x q st A fd
theorem all_mk{l:PySem.W.OpenLaw}{w:World}{K:au}{h:Heap}{mg:Str->Option af}{fa:aj}{Sb:aj}{Xg QN Rw PK Kw RB:af}{Xf RX:Option aj}{WD:Array (Option af)}{aI:aj}{aD:aj}{aC:aj}{ar:aj}{aV:aj}{bY:aj}{bw:aj}{bL:aj}{bA:aj}{bM:aj}{bq:aj}{a_:aj}{br:aj}{bB:aj}{aS:aj}{bX:aj}{bh:Tok}{a4:Tok}{aO:Tok}{aN:Tok}{bF:Tok}{Ce:Str}{bE:Tok}{Cd:Str}{a3:Tok}{aP:Tok}{A3:aj}{Nh MP:Str}{Of MJ:List af}{NP Oi:Bool}{MG:List Str}{Oa:Option Bool}{N4:Option aj}{NG NF ND NC NB:Option af}{Nk:af}{Nj:Option aj}{CG:Array DictEntry}{Nc:Nat}{Ni:Array (Option af)}{sS:aj}{Ep D6:Str}{Fp DR:List af}{EW Fx:Bool}{DE:List Str}{E9:Option Bool}{E4:Option aj}{EL EK EJ EI EH:Option af}{Et:af}{Es:Option aj}{wx:Array DictEntry}{En:Nat}{Er:Array (Option af)}
  (X:K.In h)(G:h.Ns mainGlobals mg)(hfa:mg "law"=some (.ref fa))
  (K5:Gd K "is_made_of" qh)
  (N7:Gd K "is_number" r6)
  (j5:Gd K "days_of_letter" kg)
  (o8:Gd K "length_read" n5)
  (S5:Gd K "is_name" xB)
  (Z0:Gd K "never" DT)
  (Z2:Gd K "after" DW)
  (Z1:Gd K "later" DV)
  (S6:Gd K "earlier" xC)
  (M6:Gd K "term_read" rT)
  (J6:Gd K "word_taken" qa)
  (n8:Gd K "part_taken" qb)
  (K4:Gd K "kind_taken" qg)
  (m9:Gd K "length_taken" mF)
  (Q8:Gd K "is_below" uV)
  (Q5:Gd K "place_of" uS)
  (W0:Gd K "least" DU)
  (R5:Gd K "thinned" xv)
  (K6:Gd K "all_joined" qi)
  (V2:Gd K "joined" Ab)
  (N8:Gd K "book_read" r8)
  (o7:Gd K "series_read" nZ)
  (o6:Gd K "series_term" nY)
  (R6:Gd K "term_of" xw)
  (j7:Gd K "owning_series" lg)
  (R7:Gd K "parting" xx)
  (R8:Gd K "only_in" xy)
  (R9:Gd K "life_of" xA)
  (V0:Gd K "parted" z_)
  (Q6:Gd K "names_of" uT)
  (K3:Gd K "kinds_told" qf)
  (M7:Gd K "_law_whole" rV)
  (t6:Gd K "_law_cell_at" oh)
  (o9:Gd K "_law_name_by" n9)
  (J9:Gd K "_law_length" qe)
  (J8:Gd K "_law_onward" qd)
  (j8:Gd K "_law_term_text" lh)
  (j4:Gd K "_law_other_text" ke)
  (M8:Gd K "_law_title" rW)
  (Q7:Gd K "_law_rows" uU)
  (M9:Gd K "_law_texts" rX)
  (N6:Gd K "_law_alone" rZ)
  (N5:Gd K "_law_ready" rY)
  (p8:Gd K "_law_fitting" og)
  (J7:Gd K "_law_unlike" qc)
  (n6:Gd K "_law_shortest" mG)
  (p7:Gd K "_law_life_so" n_)
  (V1:Gd K "_law_so" Aa)
  (Z0L:PySem.W.nsIn K mainGlobals "law"=some (some (.ref Sb)))
  (Z0J:K.lookup Sb=some ⟨Xg,Xf,.func (PySem.W.fnOf "law" "law" (tU vU) (lT vU) (bG vU) .none QN Rw PK RX Kw RB),WD⟩)
  (US:PySem.W.codeIn K Kw "law"=true)
  (Z0K:keepIn K (.ref Sb)=true)
  (Z0B:PySem.W.nsIn K mainGlobals "Never"=some (some (.ref aI)))
  (Z4:PySem.W.nsIn K mainGlobals "After"=some (some (.ref aD)))
  (Z3:PySem.W.nsIn K mainGlobals "Later"=some (some (.ref aC)))
  (U6:PySem.W.nsIn K mainGlobals "Earlier"=some (some (.ref ar)))
  (U5:PySem.W.nsIn K mainGlobals "HallError"=some (some (.ref aV)))
  (Z0A:PySem.W.nsIn K mainGlobals "NoDay"=some (some (.ref bY)))
  (V5:PySem.W.nsIn K mainGlobals "NoLength"=some (some (.ref bw)))
  (Z0g:PySem.W.nsIn K mainGlobals "NoTerm"=some (some (.ref bL)))
  (W8:PySem.W.nsIn K mainGlobals "TooWide"=some (some (.ref bA)))
  (Z0h:PySem.W.nsIn K mainGlobals "NoBook"=some (some (.ref bM)))
  (V3:PySem.W.nsIn K mainGlobals "PutTwice"=some (some (.ref bq)))
  (U4:PySem.W.nsIn K mainGlobals "HeldTwice"=some (some (.ref a_)))
  (V4:PySem.W.nsIn K mainGlobals "NoSeries"=some (some (.ref br)))
  (W9:PySem.W.nsIn K mainGlobals "RunBack"=some (some (.ref bB)))
  (W2:PySem.W.nsIn K mainGlobals "Unlike"=some (some (.ref aS)))
  (Z0z:PySem.W.nsIn K mainGlobals "NoRow"=some (some (.ref bX)))
  (Y4:plainGet K aI Str.empty=true)
  (Y7:PySem.W.hasDictIn K aI=true)
  (X7:plainOver K aI=true)
  (X4:PySem.W.findIn K (.ref aI) "__setattr__"=some (some (.builtin "object.__setattr__")))
  (Z0l:makesIn K aI=true)
  (Z0o:keepIn K (.ref aI)=true)
  (Z0r:PySem.W.findIn K (.ref aI) "__init__"=some (some (.builtin "object.__init__")))
  (Z0v:PySem.W.findIn K (.ref aI) "__class__"=some (some (.builtin "object.__class__")))
  (Z0s:PySem.W.mroIn K aI (.type "object")=some true)
  (Y6:plainGet K aD Str.empty=true)
  (Y9:PySem.W.hasDictIn K aD=true)
  (Y0:plainOver K aD=true)
  (X6:PySem.W.findIn K (.ref aD) "__setattr__"=some (some (.builtin "object.__setattr__")))
  (Z0n:makesIn K aD=true)
  (Z0q:keepIn K (.ref aD)=true)
  (z9:Md K aD "__init__" "After.__init__" qj)
  (Q9:PySem.W.findIn K (.ref aD) "kind"=some none)
  (R0:PySem.W.findIn K (.ref aD) "days"=some none)
  (Z0x:PySem.W.findIn K (.ref aD) "__class__"=some (some (.builtin "object.__class__")))
  (Z0u:PySem.W.mroIn K aD (.type "object")=some true)
  (Y5:plainGet K aC Str.empty=true)
  (Y8:PySem.W.hasDictIn K aC=true)
  (X8:plainOver K aC=true)
  (X5:PySem.W.findIn K (.ref aC) "__setattr__"=some (some (.builtin "object.__setattr__")))
  (Z0m:makesIn K aC=true)
  (Z0p:keepIn K (.ref aC)=true)
  (z8:Md K aC "__init__" "Pair.__init__" nG)
  (T8:PySem.W.findIn K (.ref aC) "one"=some none)
  (Q0:PySem.W.findIn K (.ref aC) "other"=some none)
  (Z0w:PySem.W.findIn K (.ref aC) "__class__"=some (some (.builtin "object.__class__")))
  (Z0t:PySem.W.mroIn K aC (.type "object")=some true)
  (T7:plainGet K ar Str.empty=true)
  (T9:PySem.W.hasDictIn K ar=true)
  (T6:plainOver K ar=true)
  (T5:PySem.W.findIn K (.ref ar) "__setattr__"=some (some (.builtin "object.__setattr__")))
  (W4:makesIn K ar=true)
  (W5:keepIn K (.ref ar)=true)
  (m5:Md K ar "__init__" "Pair.__init__" nG)
  (Q4:PySem.W.findIn K (.ref ar) "one"=some none)
  (K8:PySem.W.findIn K (.ref ar) "other"=some none)
  (W7:PySem.W.findIn K (.ref ar) "__class__"=some (some (.builtin "object.__class__")))
  (W6:PySem.W.mroIn K ar (.type "object")=some true)
  (hn:PySem.W.specialIn K (.builtin "object.__class__") "__get__"=some (some (.builtin "getset_descriptor.__get__")))
  (htk:PySem.W.takesIn K (.builtin "object.__class__")=some true)
  (t7:Md K aI "due" "Never.due" r9)
  (u0:Md K aD "due" "After.due" se)
  (t8:Md K aC "due" "Later.due" r_)
  (j9:Md K ar "due" "Earlier.due" oi)
  (M5:PySem.W.nsIn K mainGlobals "YEAR_DAYS"=some (some (.int 360 bh)))
  (G4:PySem.W.nsIn K mainGlobals "MONTH_DAYS"=some (some (.int 30 a4)))
  (m7:PySem.W.nsIn K mainGlobals "MOST_FIGURES"=some (some (.int 40 aO)))
  (m6:PySem.W.nsIn K mainGlobals "MOST_LETTERS"=some (some (.int 12 aN)))
  (R4:PySem.W.nsIn K mainGlobals "FIGURES"=some (some (.str Ce bF)))
  (Z0f:Ce=iD)
  (R3:PySem.W.nsIn K mainGlobals "LETTERS"=some (some (.str Cd bE)))
  (Z0e:Cd=kq)
  (G3:PySem.W.nsIn K mainGlobals "MOST_WORDS"=some (some (.int 61 a3)))
  (m8:PySem.W.nsIn K mainGlobals "MOST_CLAUSES"=some (some (.int 40 aP)))
  (V7:K.lookup aS=some (excClassObj Nh MP aS A3 Of [.ref aV,.type "ValueError",.type "Exception",.type "BaseException",.type "object"] NP MG MJ Oi Oa N4 NG NF ND NC NB "ValueError.__new__"))
  (V9:K.lookup A3=some ⟨Nk,Nj,.dict CG Nc,Ni⟩)
  (V8:strKeys CG=true)
  (R1:Xd K A3 "__init__" "Unlike.__init__" kE)
  (S8:K.lookup aV=some (excClassObj Ep D6 aV sS Fp [.type "ValueError",.type "Exception",.type "BaseException",.type "object"] EW DE DR Fx E9 E4 EL EK EJ EI EH "ValueError.__new__"))
  (P0:K.lookup sS=some ⟨Et,Es,.dict wx En,Er⟩)
  (O9:strKeys wx=true)
  (S9:PySem.W.nsIn K sS "__init__"=some none)
  (T4:PySem.W.findIn K (.ref aS) "name"=some none)
  (T3:PySem.W.hasDictIn K aS=true)
  (W3:PySem.W.findIn K (.ref aS) "__setattr__"=some (some (.builtin "object.__setattr__")))
  (Z7:(PySem.W.kitCls K (.ref aS) (.ref aS)).isSome=true)
  (Z9:PySem.W.findIn K (.ref aS) "__getattribute__"=some (some (.builtin "BaseException.__getattribute__")))
  (Z8:PySem.W.findIn K (.ref aS) "__getattr__"=some none)
  (Z5:PySem.W.findIn K (.ref aS) "__class__"=some (some (.builtin "object.__class__")))
  (Z6:PySem.W.mroIn K aS (.type "object")=some true)
  (Z0a:PySem.W.subIn K (.ref aS) (.type "BaseException")=some true)
  (O4:PySem.W.kitOne K (.ref aI) (.ref aD)=some false)
  (G5:PySem.W.kitOne K (.ref aI) (.ref ar)=some false)
  (O3:PySem.W.kitOne K (.ref aI) (.ref aC)=some false)
  (O8:PySem.W.kitOne K (.ref aD) (.ref aD)=some true)
  (G9:PySem.W.kitOne K (.ref aD) (.ref ar)=some false)
  (O7:PySem.W.kitOne K (.ref aD) (.ref aC)=some false)
  (O6:PySem.W.kitOne K (.ref aC) (.ref aD)=some false)
  (G6:PySem.W.kitOne K (.ref aC) (.ref ar)=some false)
  (O5:PySem.W.kitOne K (.ref aC) (.ref aC)=some true)
  (G8:PySem.W.kitOne K (.ref ar) (.ref aD)=some false)
  (o5:PySem.W.kitOne K (.ref ar) (.ref ar)=some true)
  (G7:PySem.W.kitOne K (.ref ar) (.ref aC)=some false)
  (Z0b:PySem.W.readsIn K aV (.type "type")=true)
  (Z0c:PySem.W.specialIn K (.ref aV) "__getattribute__"=some (some (.builtin "type.__getattribute__")))
  (Z0d:PySem.W.findCls K (.ref aV) (.type "type") "__init__"=some (.val (.builtin "ValueError.__init__")))
  (Z0H:PySem.W.exmOne K (.ref aS) (.ref aV)=some true)
  (Z0y:PySem.W.kitOne K (.ref aS) (.type "ValueError")=some true)
  (U3:PySem.W.kitOne K (.ref aS) (.ref aS)=some true)
  (U0:PySem.W.kitAny K (.ref aS) [.ref a_,.ref bM,.ref bY,.ref bw,.ref bX,.ref br,.ref bL,.ref bq,.ref bB,.ref bA]=some false)
  (u9:PySem.W.nsIn K mainGlobals "ValueError"=some none)
  (Z0F:PySem.W.nsIn K mainGlobals "abs"=some none)
  (Z0E:PySem.W.nsIn K mainGlobals "all"=some none)
  (Z0G:PySem.W.nsIn K mainGlobals "any"=some none)
  (Z0k:PySem.W.nsIn K mainGlobals "bool"=some none)
  (U8:PySem.W.nsIn K mainGlobals "dict"=some none)
  (K9:PySem.W.nsIn K mainGlobals "enumerate"=some none)
  (Z0D:PySem.W.nsIn K mainGlobals "int"=some none)
  (b7:PySem.W.nsIn K mainGlobals "isinstance"=some none)
  (j6:PySem.W.nsIn K mainGlobals "len"=some none)
  (S7:PySem.W.nsIn K mainGlobals "list"=some none)
  (Z0j:PySem.W.nsIn K mainGlobals "max"=some none)
  (U7:PySem.W.nsIn K mainGlobals "min"=some none)
  (V6:PySem.W.nsIn K mainGlobals "range"=some none)
  (K7:PySem.W.nsIn K mainGlobals "reversed"=some none)
  (Z0C:PySem.W.nsIn K mainGlobals "set"=some none)
  (u6:PySem.W.nsIn K mainGlobals "sorted"=some none)
  (Z0i:PySem.W.nsIn K mainGlobals "str"=some none)
  (X3:PySem.W.nsIn K mainGlobals "tuple"=some none)
  (kib:PySem.W.kitOne K (.type "int") (.type "bool")=some false)
  (kii:PySem.W.kitOne K (.type "int") (.type "int")=some true)
  (kss:PySem.W.kitOne K (.type "str") (.type "str")=some true)
  (kdd:PySem.W.kitOne K (.type "dict") (.type "dict")=some true)
  (ktt:PySem.W.kitOne K (.type "tuple") (.type "tuple")=some true)
  (f9:aI≠aD)
  (d8:aI≠aC)
  (b8:aI≠ar)
  (g8:aD≠aC)
  (d7:aD≠ar)
  (c7:aC≠ar)
  :∃fd:bC,(∀(s:ah) (v:af),BindsTo s fd ⟨[v],[]⟩ [("_law_script",v)])/\∀base:Heap,K.In base->base.Ns mainGlobals mg->dJ l.prog w K mg base c8 28 fa fd ["_law_script"] (Pc K):=by
 have e:=hfa.symm.trans (aH X G Z0L);cases e;subst Z0f;subst Z0e;have T:Txt K mg bh a4 aO aN bF bE a3 aP aI aD aC ar aV bY bw bL bA bM bq a_ br bB aS bX:=⟨aH X G M5,aH X G G4,aH X G m7,aH X G m6,aH X G R4,aH X G R3,aH X G G3,aH X G m8,cC X G u9,cC X G Z0F,cC X G Z0E,cC X G Z0G,cC X G Z0k,cC X G U8,cC X G K9,cC X G Z0D,cC X G b7,cC X G j6,cC X G S7,cC X G Z0j,cC X G U7,cC X G V6,cC X G K7,cC X G Z0C,cC X G u6,cC X G Z0i,cC X G X3,kib,kii,kss,kdd,ktt,⟨Y4,Y7,X7,X4⟩,⟨⟨Y4,Y7,X7,X4⟩,Z0v,hn,htk,Z0s⟩,⟨Y6,Y9,Y0,X6⟩,Q9,R0,⟨⟨Y6,Y9,Y0,X6⟩,Z0x,hn,htk,Z0u⟩,⟨Y5,Y8,X8,X5⟩,T8,Q0,⟨⟨Y5,Y8,X8,X5⟩,Z0w,hn,htk,Z0t⟩,⟨T7,T9,T6,T5⟩,Q4,K8,⟨⟨T7,T9,T6,T5⟩,W7,hn,htk,W6⟩,aH X G U5,aH X G Z0A,aH X G V5,aH X G Z0g,aH X G W8,aH X G Z0h,aH X G V3,aH X G U4,aH X G V4,aH X G W9,aH X G W2,aH X G Z0z,aH X G Z4,aH X G U6,aH X G Z3,⟨Z7,Z9,Z8,Z5,hn,htk,Z6,Z0a⟩,⟨T4,T3⟩,⟨W3,⟨_,_,by unfold PySem.W.clsIn;rw[V7],rfl⟩,T4,T3⟩,O4,G5,O3,O8,G9,O7,O6,G6,O5,G8,o5,G7,Z0b,Z0c,Z0d,Z0H,Z0y,U3,U0,f9,d8,b8,g8,d7,c7⟩
 have Zbi:=EY (st:=vU) Z0J US Z0K;obtain⟨_,_,K5,qR⟩:=K5;obtain⟨_,_,N7,tf⟩:=N7;obtain⟨_,_,j5,kA⟩:=j5;obtain⟨_,_,o8,oM⟩:=o8;obtain⟨_,_,S5,yd⟩:=S5;obtain⟨_,_,Z0,FA⟩:=Z0;obtain⟨_,_,Z2,FD⟩:=Z2;obtain⟨_,_,Z1,FC⟩:=Z1;obtain⟨_,_,S6,ye⟩:=S6;obtain⟨_,_,M6,sV⟩:=M6;obtain⟨_,_,J6,qL⟩:=J6;obtain⟨_,_,n8,jP⟩:=n8;obtain⟨_,_,K4,qQ⟩:=K4;obtain⟨_,_,m9,mU⟩:=m9;obtain⟨_,_,Q8,vm⟩:=Q8;obtain⟨_,_,Q5,vi⟩:=Q5;obtain⟨_,_,W0,w8⟩:=W0
 obtain⟨_,_,R5,x9⟩:=R5;obtain⟨_,_,K6,qS⟩:=K6;obtain⟨_,_,V2,Ba⟩:=V2;obtain⟨_,_,N8,ti⟩:=N8;obtain⟨_,_,o7,oJ⟩:=o7;obtain⟨_,_,o6,oH⟩:=o6;obtain⟨_,_,R6,x_⟩:=R6;obtain⟨_,_,j7,lC⟩:=j7;obtain⟨_,_,R7,ya⟩:=R7;obtain⟨_,_,R8,yb⟩:=R8;obtain⟨_,_,R9,yc⟩:=R9;obtain⟨_,_,V0,A9⟩:=V0;obtain⟨_,_,Q6,vj⟩:=Q6;obtain⟨_,_,K3,qP⟩:=K3;obtain⟨_,_,M7,sW⟩:=M7;obtain⟨_,_,t6,oQ⟩:=t6;obtain⟨_,_,o9,oN⟩:=o9;obtain⟨_,_,J9,qO⟩:=J9;obtain⟨_,_,J8,qN⟩:=J8
 obtain⟨_,_,j8,lE⟩:=j8;obtain⟨_,_,j4,kz⟩:=j4;obtain⟨_,_,M8,sX⟩:=M8;obtain⟨_,_,Q7,vk⟩:=Q7;obtain⟨_,_,M9,sY⟩:=M9;obtain⟨_,_,N6,s_⟩:=N6;obtain⟨_,_,N5,sZ⟩:=N5;obtain⟨_,_,p8,oP⟩:=p8;obtain⟨_,_,J7,qM⟩:=J7;obtain⟨_,_,n6,mV⟩:=n6;obtain⟨_,_,p7,oO⟩:=p7;obtain⟨_,_,V1,A_⟩:=V1;obtain⟨_,_,z9,ET,w_⟩:=z9;obtain⟨_,_,z8,ES,w9⟩:=z8;obtain⟨_,_,m5,AH,tj⟩:=m5;obtain⟨_,_,t7,yv,kR⟩:=t7;obtain⟨_,_,u0,yy,kU⟩:=u0;obtain⟨_,_,t8,yw,kT⟩:=t8
 obtain⟨_,_,j9,ux,jv⟩:=j9;obtain⟨_,_,_,_,_,R1,Nu,N0,x6⟩:=R1;refine⟨PySem.W.fnOf "law" "law" (tU vU) (lT vU) (bG vU) .none QN Rw PK RX Kw RB,λs v=> .of_eq U,λbase Kb _=> ?_⟩;have Ah:yX "Unlike" aS _ mg base:=⟨aH X G W2,⟨_,_,_,_,_,_,_,_,_,_,_,_,_,_,_,_,_,Kb _ _ V7,.of_isNs (Du Kb (zf V9 V8)),Xj Kb (.of_isNs (Du Kb (zf V9 V8))) R1,.own (Kb _ _ S8) (.of_isNs (Du Kb (zf P0 O9))) (PySem.W.nsMap_none_of_in Kb (zf P0 O9) S9) .base⟩,_,Kb _ _ Nu,N0⟩
 have mJ:YA l.prog w K mg base 1 "Unlike" aS ["self","name"] (iR aS):=⟨_,_,Ah,Ap x6 T Ah,yN x6 T Ah,x6.binds (λ_ _ _ _ _ _=>all2 λ_ _=>rfl)⟩
 have iZ:fi l.prog w K mg base c8 1 "is_made_of" ["text","signs"] kD:=⟨_,_,aH X G K5,qR.kp,qR.binds (λ_ _ _ _ _ _=>all2 λ_ _=>rfl),BI qR T⟩
 have sM:fi l.prog w K mg base c8 2 "is_number" ["text"] pW:=⟨_,_,aH X G N7,tf.kp,tf.binds (λ_ _ _ _ _ _=>all1 λ_=>rfl),Ei tf T iZ⟩
 have ko:fi l.prog w K mg base c8 1 "days_of_letter" ["letter"] jL:=⟨_,_,aH X G j5,kA.kp,kA.binds (λ_ _ _ _ _ _=>all1 λ_=>rfl),wk kA T⟩
 have oE:fi l.prog w K mg base c8 3 "length_read" ["text"] mi:=⟨_,_,aH X G o8,oM.kp,oM.binds (λ_ _ _ _ _ _=>all1 λ_=>rfl),Ak oM T ko sM⟩
 have lX:fi l.prog w K mg base c8 2 "is_name" ["text"] pX:=⟨_,_,aH X G S5,yd.kp,yd.binds (λ_ _ _ _ _ _=>all1 λ_=>rfl),JI yd T iZ⟩
 have Fl:YB K mg "Never" aI:=⟨aH X G Z0B,Z0l,Z0r,Z0o⟩
 have Fh:fi l.prog w K mg base c8 1 "never" [] (zV aI aD aC ar):=⟨_,_,aH X G Z0,FA.kp,FA.binds (λ_ _ _ _ _ _=>ZdN rfl),P2 FA T Fl⟩
 have Fn:KU l.prog w K mg base c8 1 "After" aD ["self","kind","days"] (nW aD):=⟨_,_,aH X G Z4,⟨Z0n,z9,ET,Z0q⟩,w_.binds (λ_ _ _ _ _ _=>Fv λ_ _ _=>rfl),BK w_ T T.kO T.lP T.qq⟩
 have Fj:fi l.prog w K mg base c8 3 "after" ["kind","days"] (zX aI aD aC ar):=⟨_,_,aH X G Z2,FD.kp,FD.binds (λ_ _ _ _ _ _=>all2 λ_ _=>rfl),P6 FD T Fn⟩
 have Fm:KU l.prog w K mg base c8 1 "Later" aC ["self","one","other"] (jM aC):=⟨_,_,aH X G Z3,⟨Z0m,z8,ES,Z0p⟩,w9.binds (λ_ _ _ _ _ _=>Fv λ_ _ _=>rfl),wo w9 T T.mO T.sj T.oq⟩
 have Fi:fi l.prog w K mg base c8 3 "later" ["one","other"] (zW aI aD aC ar):=⟨_,_,aH X G Z1,FC.kp,FC.binds (λ_ _ _ _ _ _=>all2 λ_ _=>rfl),P5 FC T Fm⟩
 have xZ:KU l.prog w K mg base c8 1 "Earlier" ar ["self","one","other"] (jM ar):=⟨_,_,aH X G U6,⟨W4,m5,AH,W5⟩,tj.binds (λ_ _ _ _ _ _=>Fv λ_ _ _=>rfl),wo tj T T.jz T.oy T.ly⟩
 have xY:fi l.prog w K mg base c8 3 "earlier" ["one","other"] (uO aI aD aC ar):=⟨_,_,aH X G S6,ye.kp,ye.binds (λ_ _ _ _ _ _=>all2 λ_ _=>rfl),JJ ye T xZ⟩
 have fZ:fi l.prog w K mg base c8 1 "word_taken" ["rest"] jm:=⟨_,_,aH X G J6,qL.kp,qL.binds (λ_ _ _ _ _ _=>all1 λ_=>rfl),BB qL T⟩
 have qH:fi l.prog w K mg base c8 3 "kind_taken" ["rest"] nU:=⟨_,_,aH X G K4,qQ.kp,qQ.binds (λ_ _ _ _ _ _=>all1 λ_=>rfl),BH qQ T lX fZ⟩
 have mP:fi l.prog w K mg base c8 4 "length_taken" ["rest"] k9:=⟨_,_,aH X G m9,mU.kp,mU.binds (λ_ _ _ _ _ _=>all1 λ_=>rfl),yL mU T oE fZ⟩
 have gL:∀n,fi l.prog w K mg base c8 (4+n+1) "part_taken" ["rest"] (jn aI aD aC ar n):=λn=>by
  induction n with
  |zero=>exact⟨_,_,aH X G n8,jP.kp,jP.binds (λ_ _ _ _ _ _=>all1 λ_=>rfl),tR yJ⟩
  |succ n ih=>exact⟨_,_,aH X G n8,jP.kp,jP.binds (λ_ _ _ _ _ _=>all1 λ_=>rfl),BC jP T n Fj xY qH Fi mP Fh ih fZ⟩
 have sF:fi l.prog w K mg base c8 24 "term_read" ["text"] (pO aI aD aC ar):=⟨_,_,aH X G M6,sV.kp,sV.binds (λ_ _ _ _ _ _=>all1 λ_=>rfl),Ec sV T (gL 18)⟩
 have kn:fi l.prog w K mg base c8 1 "is_below" ["one","other"] nE:=⟨_,_,aH X G Q8,vm.kp,vm.binds (λ_ _ _ _ _ _=>all2 λ_ _=>rfl),Gv vm T⟩
 have kl:fi l.prog w K mg base c8 1 "place_of" ["clause"] (jD K):=⟨_,_,aH X G Q5,vi.kp,vi.binds (λ_ _ _ _ _ _=>all1 λ_=>rfl),Gr vi T⟩
 have AW:fi l.prog w K mg base c8 1 "joined" ["one","other"] xq:=⟨_,_,aH X G V2,Ba.kp,Ba.binds (λ_ _ _ _ _ _=>all2 λ_ _=>rfl),Na Ba T⟩
 have qI:fi l.prog w K mg base c8 2 "all_joined" ["ones","others"] nV:=⟨_,_,aH X G K6,qS.kp,qS.binds (λ_ _ _ _ _ _=>all2 λ_ _=>rfl),BJ qS T AW⟩
 have tX:fi l.prog w K mg base c8 4 "thinned" ["clauses"] uK:=⟨_,_,aH X G R5,x9.kp,x9.binds (λ_ _ _ _ _ _=>all1 λ_=>rfl),JD x9 T kn kl⟩
 have gZ:∀n,fi l.prog w K mg base c8 (4+n+1) "least" ["term"] (mj aI aD aC ar n):=λn=>by
  induction n with
  |zero=>exact⟨_,_,aH X G W0,w8.kp,w8.binds (λ_ _ _ _ _ _=>all1 λ_=>rfl),tR JU⟩
  |succ n ih=>exact⟨_,_,aH X G W0,w8.kp,w8.binds (λ_ _ _ _ _ _=>all1 λ_=>rfl),P4 w8 T n qI ih tX⟩
 have kH:fi l.prog w K mg base c8 25 "series_term" ["words","number"] (mf aI aD aC ar):=⟨_,_,aH X G o6,oH.kp,oH.binds (λ_ _ _ _ _ _=>all2 λ_ _=>rfl),Ai oH T (gZ 18) sF⟩
 have oC:fi l.prog w K mg base c8 26 "series_read" ["row","number","ahead"] (mh aI aD aC ar):=⟨_,_,aH X G o7,oJ.kp,oJ.binds (λ_ _ _ _ _ _=>Fv λ_ _ _=>rfl),Aj oJ T lX kH⟩
 have nN:fi l.prog w K mg base c8 27 "book_read" ["text"] (pZ aI aD aC ar):=⟨_,_,aH X G N8,ti.kp,ti.binds (λ_ _ _ _ _ _=>all1 λ_=>rfl),Ej ti T oC⟩
 have lB:fi l.prog w K mg base c8 1 "owning_series" ["book","name"] (j3 aI aD aC ar):=⟨_,_,aH X G j7,lC.kp,lC.binds (λ_ _ _ _ _ _=>all2 λ_ _=>rfl),xG lC T⟩
 have iB:fi l.prog w K mg base c8 2 "term_of" ["book","name"] (pP aI aD aC ar):=⟨_,_,aH X G R6,x_.kp,x_.binds (λ_ _ _ _ _ _=>all2 λ_ _=>rfl),JE x_ T lB⟩
 have xX:fi l.prog w K mg base c8 1 "life_of" ["clause"] uN:=⟨_,_,aH X G R9,yc.kp,yc.binds (λ_ _ _ _ _ _=>all1 λ_=>rfl),JH yc T⟩
 have tY:fi l.prog w K mg base c8 1 "only_in" ["ones","others"] uM:=⟨_,_,aH X G R8,yb.kp,yb.binds (λ_ _ _ _ _ _=>all2 λ_ _=>rfl),JG yb T⟩
 have xW:fi l.prog w K mg base c8 24 "parting" ["one","other"] (uL aI aD aC ar):=⟨_,_,aH X G R7,ya.kp,ya.binds (λ_ _ _ _ _ _=>all2 λ_ _=>rfl),JF ya T kl (gZ 18) xX tY⟩
 have qG:fi l.prog w K mg base c8 1 "kinds_told" ["found"] kC:=⟨_,_,aH X G K3,qP.kp,qP.binds (λ_ _ _ _ _ _=>all1 λ_=>rfl),BG qP T⟩
 have qD:fi l.prog w K mg base c8 1 "names_of" ["book"] (rM aI aD aC ar):=⟨_,_,aH X G Q6,vj.kp,vj.binds (λ_ _ _ _ _ _=>all1 λ_=>rfl),Gs vj T⟩
 have sG:fi l.prog w K mg base (yh l.prog w) 25 "parted" ["one","other"] (xn aI aD aC ar aS):=⟨_,_,aH X G V0,A9.kp,A9.binds (λ_ _ _ _ _ _=>all2 λ_ _=>rfl),M0 A9 T mJ qG qD xW iB⟩
 have sH:fi l.prog w K mg base c8 1 "_law_whole" ["_law_found"] pQ:=⟨_,_,aH X G M7,sW.kp,sW.binds (λ_ _ _ _ _ _=>all1 λ_=>rfl),Ed sW T⟩
 have iC:fi l.prog w K mg base c8 1 "_law_cell_at" ["_law_script","_law_k"] (mq K):=⟨_,_,aH X G t6,oQ.kp,oQ.binds (λ_ _ _ _ _ _=>all2 λ_ _=>rfl),Ao oQ T⟩
 have e_:fi l.prog w K mg base c8 1 "_law_name_by" ["_law_cell","_law_k"] iQ:=⟨_,_,aH X G o9,oN.kp,oN.binds (λ_ _ _ _ _ _=>all2 λ_ _=>rfl),Al oN T⟩
 have qF:fi l.prog w K mg base c8 1 "_law_length" ["_law_number"] nR:=⟨_,_,aH X G J9,qO.kp,qO.binds (λ_ _ _ _ _ _=>all1 λ_=>rfl),BF qO T⟩
 have fF:fi l.prog w K mg base c8 1 "_law_onward" ["_law_number","_law_size","_law_names_by"] jo:=⟨_,_,aH X G J8,qN.kp,qN.binds (λ_ _ _ _ _ _=>Fv λ_ _ _=>rfl),BE qN T⟩
 have fq:fi l.prog w K mg base c8 2 "_law_term_text" ["_law_number","_law_names_by","_law_most"] iT:=⟨_,_,aH X G j8,lE.kp,lE.binds (λ_ _ _ _ _ _=>Fv λ_ _ _=>rfl),xH lE T qF e_ fF⟩
 have km:fi l.prog w K mg base c8 3 "_law_other_text" ["_law_text","_law_number","_law_names_by"] jK:=⟨_,_,aH X G j4,kz.kp,kz.binds (λ_ _ _ _ _ _=>Fv λ_ _ _=>rfl),wj kz T fF fq⟩
 have kQ:fi l.prog w K mg base c8 2 "_law_title" ["_law_k","_law_names_by"] pR:=⟨_,_,aH X G M8,sX.kp,sX.binds (λ_ _ _ _ _ _=>all2 λ_ _=>rfl),Ee sX T e_⟩
 have vd:fi l.prog w K mg base c8 4 "_law_rows" ["_law_cell","_law_k","_law_names_by"] rN:=⟨_,_,aH X G Q7,vk.kp,vk.binds (λ_ _ _ _ _ _=>Fv λ_ _ _=>rfl),Gu vk T fF km fq kQ⟩
 have sI:fi l.prog w K mg base c8 5 "_law_texts" ["_law_cells","_law_names_by"] pT:=⟨_,_,aH X G M9,sY.kp,sY.binds (λ_ _ _ _ _ _=>all2 λ_ _=>rfl),Ef sY T vd⟩
 have sL:fi l.prog w K mg base c8 2 "_law_alone" ["_law_one","_law_other","_law_cell","_law_names_by"] pV:=⟨_,_,aH X G N6,s_.kp,s_.binds (λ_ _ _ _ _ _=>Za8 λ_ _ _ _=>rfl),Eh s_ T e_⟩
 have sJ:fi l.prog w K mg base c8 1 "_law_ready" ["_law_row","_law_names"] pU:=⟨_,_,aH X G N5,sZ.kp,sZ.binds (λ_ _ _ _ _ _=>all2 λ_ _=>rfl),Eg sZ T⟩
 have oG:fi l.prog w K mg base c8 2 "_law_fitting" ["_law_rows_here","_law_number"] mn:=⟨_,_,aH X G p8,oP.kp,oP.binds (λ_ _ _ _ _ _=>all2 λ_ _=>rfl),An oP T sJ⟩
 have qE:fi l.prog w K mg base c8 1 "_law_unlike" ["_law_told","_law_due"] (nQ aS):=⟨_,_,aH X G J7,qM.kp,qM.binds (λ_ _ _ _ _ _=>all2 λ_ _=>rfl),BD qM T⟩
 have mQ:fi l.prog w K mg base c8 24 "_law_shortest" ["_law_one","_law_other"] (k_ aI aD aC ar):=⟨_,_,aH X G n6,mV.kp,mV.binds (λ_ _ _ _ _ _=>all2 λ_ _=>rfl),yM mV T kn (gZ 18)⟩
 have uz:∀n,Sa l.prog w K mg base c8 (0+n+1) "due" ["self","life"] (pY aI aD aC ar n) (λC=>C=aI\/C=aD\/C=aC\/C=ar):=λn=>by
  induction n with
  |zero=>
   refine⟨λC hC=> ?_⟩;rcases hC with hC|hC|hC|hC
   ·cases hC.symm;exact⟨T.Iq,_,_,⟨t7,yv,kR.kp⟩,kR.binds (λ_ _ _ _ _ _=>all2 λ_ _=>rfl),tR wR⟩
   ·cases hC.symm;exact⟨T.kO,_,_,⟨u0,yy,kU.kp⟩,kU.binds (λ_ _ _ _ _ _=>all2 λ_ _=>rfl),tR wR⟩
   ·cases hC.symm;exact⟨T.mO,_,_,⟨t8,yw,kT.kp⟩,kT.binds (λ_ _ _ _ _ _=>all2 λ_ _=>rfl),tR wR⟩
   ·cases hC.symm;exact⟨T.jz,_,_,⟨j9,ux,jv.kp⟩,jv.binds (λ_ _ _ _ _ _=>all2 λ_ _=>rfl),tR wR⟩
  |succ n ih=>
   refine⟨λC hC=> ?_⟩;rcases hC with hC|hC|hC|hC
   ·cases hC.symm;exact⟨T.Iq,_,_,⟨t7,yv,kR.kp⟩,kR.binds (λ_ _ _ _ _ _=>all2 λ_ _=>rfl),Ek kR T n⟩
   ·cases hC.symm;exact⟨T.kO,_,_,⟨u0,yy,kU.kp⟩,kU.binds (λ_ _ _ _ _ _=>all2 λ_ _=>rfl),Em kU T n⟩
   ·cases hC.symm;exact⟨T.mO,_,_,⟨t8,yw,kT.kp⟩,kT.binds (λ_ _ _ _ _ _=>all2 λ_ _=>rfl),El kT T n ih⟩
   ·cases hC.symm;exact⟨T.jz,_,_,⟨j9,ux,jv.kp⟩,jv.binds (λ_ _ _ _ _ _=>all2 λ_ _=>rfl),Aq jv T n ih⟩
 have oF:fi l.prog w K mg base c8 20 "_law_life_so" ["_law_life","_law_one","_law_other","_law_many"] (ml aI aD aC ar):=⟨_,_,aH X G p7,oO.kp,oO.binds (λ_ _ _ _ _ _=>Za8 λ_ _ _ _=>rfl),Am oO T sH (uz 18)⟩
 have wW:fi l.prog w K mg base c8 25 "_law_so" ["_law_found","_law_one","_law_other"] (xp aI aD aC ar):=⟨_,_,aH X G V1,A_.kp,A_.binds (λ_ _ _ _ _ _=>Fv λ_ _ _=>rfl),M_ A_ T oF mQ iB⟩
 exact Xc Zbi T sL iC oG wW sI qE nN sG
end K40
namespace PySem.W.Fast
def tw12427922091819400192:=aQ
def tw6845517978725959680:=aQ
def tw9932832834861558784:=aQ
def tw8008590376070032416:=aQ
def tw267627096497634400:=aQ
def tw6065972847619226752:=aQ
def tw15915924789535832192:=aQ
def tw152401759295333632:=aQ
def tw15490620275394020768:=aQ
def tw1971827575804471712:=aQ
def tw11218602506091664832:=aQ
def tw12765644095394807328:=aQ
def tw11974715376168832608:=aQ
def tw14277197617410452096:=aQ
def tw14829473573994119808:=aQ
def tw13939719206208753344:=aQ
def tw11633978938038434496:=aQ
def tw10189865055446694688:=aQ
def tw1316300820161824576:=aQ
def tw13469564835543784288:=aQ
def tw12758015290220322688:=aQ
def tw11554480900660243424:=aQ
def tw1006119014234687521:=aQ
def tw15078733373017930785:=aQ
def tw13199751982551702593:=aQ
def tw14554844625469608033:=aQ
def tw12206487363221220449:=aQ
def tw8912947758804283521:=aQ
def tw8191559267160595681:=aQ
def tw16264515965956813057:=aQ
def tw5831984034192962817:=aQ
def tw11055941313935755585:=aQ
def tw14423985349690119553:=aQ
def tw8166508893493257665:=aQ
def tw5179928656726914529:=aQ
def tw11796571694069485057:=aQ
def tw10861766004690184801:=aQ
def tw5803556036470315681:=aQ
def tw10339464213929746209:=aQ
def tw15204332371318226753:=aQ
def tw8486548314511132481:=aQ
def tw9802738230444216129:=aQ
def tw11340250809735947105:=aQ
def tw16204420398396476289:=aQ
def tw8208587107642309537:=aQ
def tw13613485389237068834:=aQ
def tw11382839375546442818:=aQ
def tw12829717230890254402:=aQ
def tw13141795325538890946:=aQ
def tw18134309099286951106:=aQ
def tw12843178795815470434:=aQ
def tw10520371400707317090:=aQ
def tw7097653495779122530:=aQ
def tw11889857964768072098:=aQ
def tw1328435491029914050:=aQ
def tw11721195645290762690:=aQ
def tw8592373661076253154:=aQ
def tw3159010931675476514:=aQ
def tw8340915254689405506:=aQ
def tw17196776006737447490:=aQ
def tw5824372933729610370:=aQ
def tw2345109806380509826:=aQ
def tw9770850138425414306:=aQ
def tw2082291819131907842:=aQ
def tw8533188334029368130:=aQ
def tw4899209563808953154:=aQ
def tw11620813118807429986:=aQ
def tw11595062452509693826:=aQ
def tw10621911474350403458:=aQ
def tw16186781187957689250:=aQ
def tw2667784117390355394:=aQ
def tw12380164036250815458:=aQ
def tw13202301845845408738:=aQ
def tw2250308554831226883:=aQ
def tw13650833432461379683:=aQ
def tw7807669735527728291:=aQ
def tw15102736824345237699:=aQ
def tw4485830097171063075:=aQ
def tw5915995929936051555:=aQ
def tw806816441810566531:=aQ
def tw17363754981951477123:=aQ
def tw12422684780313978275:=aQ
def tw15082299840205434275:=aQ
def tw3844469959184678339:=aQ
def tw5165320158012831235:=aQ
def tw14203726725189052963:=aQ
def tw809977876138431043:=aQ
def tw13999040950454110787:=aQ
def tw12434126863212503651:=aQ
def tw14897096004463105667:=aQ
def tw1680351657958287075:=aQ
def tw13642892592454421251:=aQ
def tw9089580155870893827:=aQ
def tw5682580683590340419:=aQ
def tw9579196093765476259:=aQ
def tw11687383778565184451:=aQ
def tw12571984923151444996:=aQ
def tw4416675313177551940:=aQ
def tw12771064326318519396:=aQ
def tw15206778321716741252:=aQ
def tw3946825335722045572:=aQ
def tw15244692435102623876:=aQ
def tw6892219160767534308:=aQ
def tw14702443353937727716:=aQ
def tw6799967249405880580:=aQ
def tw374011590139099524:=aQ
def tw2034330775135882692:=aQ
def tw993597282521390564:=aQ
def tw14506889593264514564:=aQ
def tw10995669057257633284:=aQ
def tw3175900171693260356:=aQ
def tw3029608864172001924:=aQ
def tw15224162992468298404:=aQ
def tw1605424635319829188:=aQ
def tw9791953046008946372:=aQ
def tw17757715412990912324:=aQ
def tw15076026585507990372:=aQ
def tw16689667646894935940:=aQ
def tw17475470581835825092:=aQ
def tw1678341722968673220:=aQ
def tw8084122157483072517:=aQ
def tw17871296487603890181:=aQ
def tw7835701451912423557:=aQ
def tw8904046312602645637:=aQ
def tw18372485122288242821:=aQ
def tw7651767927314630917:=aQ
def tw1309804014169721157:=aQ
def tw17882702927962266949:=aQ
def tw5372221874996391269:=aQ
def tw15791161898296582533:=aQ
def tw10985869608907578821:=aQ
def tw5237523759003099621:=aQ
def tw4041692288955828741:=aQ
def tw11065155568799777285:=aQ
def tw565383998471335461:=aQ
def tw1289978371641722405:=aQ
def tw15308232419973385797:=aQ
def tw17124850655921316549:=aQ
def tw13162703198839224037:=aQ
def tw9781145024568966949:=aQ
def tw14926079333802412869:=aQ
def tw14233281931742788517:=aQ
def tw3604671452257497061:=aQ
def tw2309658557086415845:=aQ
def tw18065624087821647845:=aQ
def tw12630185614879493158:=aQ
def tw7742541952286403654:=aQ
def tw13538373913718096998:=aQ
def tw15794221195559893158:=aQ
def tw2379660850561624454:=aQ
def tw11246018659261525510:=aQ
def tw10865325809677145638:=aQ
def tw14272867904668324390:=aQ
def tw17569580969968219718:=aQ
def tw4628544336730239686:=aQ
def tw8708793488135575238:=aQ
def tw3971027513151533798:=aQ
def tw13501548825675552582:=aQ
def tw17442774783543318342:=aQ
def tw13509790336934444934:=aQ
def tw9738704435033429958:=aQ
def tw14474934301979804614:=aQ
def tw10882152398496452647:=aQ
def tw15248179589754045511:=aQ
def tw11422545223179999303:=aQ
def tw4505519173009209447:=aQ
def tw778315409376349287:=aQ
def tw4381656407133912263:=aQ
def tw18006740860495229159:=aQ
def tw14011976354610801895:=aQ
def tw3214363828975578439:=aQ
def tw18186003869060619591:=aQ
def tw16221081966865355111:=aQ
def tw893598439328199079:=aQ
def tw8657443290727548391:=aQ
def tw7209831558834048487:=aQ
def tw17931951553021009447:=aQ
def tw17184263068158766695:=aQ
def tw7854419155054874311:=aQ
def tw14132981764565615463:=aQ
def tw2255567599342290823:=aQ
def tw15520130528148070343:=aQ
def tw12119199067997171687:=aQ
def tw17105333975387607015:=aQ
def tw1524391177731124232:=aQ
def tw3684227207502842920:=aQ
def tw7946879321040488648:=aQ
def tw6016302721109396680:=aQ
def tw5831366269767719112:=aQ
def tw3838185630908731624:=aQ
def tw12812387000964820296:=aQ
def tw3262641386739562824:=aQ
def tw11544203023448499560:=aQ
def tw2541352885174492584:=aQ
def tw2038996324026058216:=aQ
def tw5622563398169188840:=aQ
def tw16371102843499867624:=aQ
def tw2203102426798525000:=aQ
def tw14939773640219284232:=aQ
def tw6522357641987966792:=aQ
def tw10136959201988121448:=aQ
def tw16337961113752528744:=aQ
def tw2957593691308165064:=aQ
def tw2765317543690000425:=aQ
def tw13299400785633857609:=aQ
def tw11307048063070493769:=aQ
def tw1410528627879043145:=aQ
def tw8527420323485432969:=aQ
def tw10440920036038048937:=aQ
def tw15392715078195605769:=aQ
def tw1128267365530562889:=aQ
def tw16599877715468146057:=aQ
def tw16436388539883917705:=aQ
def tw8847881899977508297:=aQ
def tw3640874337304778281:=aQ
def tw11888639919201939017:=aQ
def tw17866257268605962921:=aQ
def tw5014077870405974761:=aQ
def tw2346942684898037513:=aQ
def tw13072258431957038889:=aQ
def tw8128326699005636393:=aQ
def tw5885644138061392745:=aQ
def tw15573257200969849769:=aQ
def tw16332580900940777417:=aQ
def tw14392816457567834057:=aQ
def tw2396380826173563881:=aQ
def tw14701049692847611978:=aQ
def tw497091123670034506:=aQ
def tw10686883478967080010:=aQ
def tw2754575108809656522:=aQ
def tw3389878624806071498:=aQ
def tw3318430371492184298:=aQ
def tw2148057050005427498:=aQ
def tw16560530528226009386:=aQ
def tw10629537929826123082:=aQ
def tw6246422888992022922:=aQ
def tw91862743982229930:=aQ
def tw17105546930811824554:=aQ
def tw17498078939449588170:=aQ
def tw5438803358551031274:=aQ
def tw18130609160557564426:=aQ
def tw16213311439083543050:=aQ
def tw4981782926391780874:=aQ
def tw1584993083656128010:=aQ
def tw6018988293752975978:=aQ
def tw13018100895774779018:=aQ
def tw2169849929670653610:=aQ
def tw14139620433372180138:=aQ
def tw5133354646462283466:=aQ
def tw885614483192523498:=aQ
def tw9648411863125830378:=aQ
def tw3886295163720381162:=aQ
def tw4532336117582808810:=aQ
def tw12297693363547529002:=aQ
def tw17072556192775238442:=aQ
def tw15853766277790994250:=aQ
def tw6555543709124582218:=aQ
def tw2564977790026082122:=aQ
def tw17780984617242423114:=aQ
def tw8140454680194330570:=aQ
def tw9129777041829315530:=aQ
def tw3248756503764288458:=aQ
def tw10961350639795997674:=aQ
def tw7714289235323201643:=aQ
def tw2960896804048237675:=aQ
def tw10802506455245160587:=aQ
def tw16769356871924217995:=aQ
def tw4434650785631769803:=aQ
def tw17532301868780845291:=aQ
def tw2932602766169842955:=aQ
def tw69637543972543755:=aQ
def tw14956755238870400523:=aQ
def tw5847850880712331819:=aQ
def tw7959590830948523595:=aQ
def tw15027008062674907787:=aQ
def tw17141422181862065835:=aQ
def tw15395144541947516587:=aQ
def tw3532383181801950987:=aQ
def tw2441841979576718091:=aQ
def tw11763339482933991179:=aQ
def tw18098834869715890955:=aQ
def tw14143119303213504331:=aQ
def tw2984699819376473995:=aQ
def tw1430257746687710123:=aQ
def tw13724527579192321963:=aQ
def tw3956883986584046571:=aQ
def tw17359689288388762636:=aQ
def tw4979724257499389004:=aQ
def tw11569129227104332972:=aQ
def tw9996296268119322796:=aQ
def tw9465670623461018860:=aQ
def tw14650505303441728748:=aQ
def tw11305255070895582508:=aQ
def tw3981755372400884012:=aQ
def tw6049958679228015980:=aQ
def tw1482121279927181708:=aQ
def tw4263142612145799628:=aQ
def tw1014846774733961676:=aQ
def tw7450921313996129804:=aQ
def tw10674245846401863244:=aQ
def tw11004460016304786092:=aQ
def tw15828788132498032300:=aQ
def tw7772603210401522412:=aQ
def tw10638160256686447340:=aQ
def tw9792911036134496076:=aQ
def tw34809673391645548:=aQ
def tw8699223432424797036:=aQ
def tw14386112173126465677:=aQ
def tw10211198850867455117:=aQ
def tw13884880000062657741:=aQ
def tw2617552056718137549:=aQ
def tw17903575761674021101:=aQ
def tw11298465060614060269:=aQ
def tw10356899264224787693:=aQ
def tw17428904713554901261:=aQ
def tw903901628895053069:=aQ
def tw13820754255248248077:=aQ
def tw7582796803144476045:=aQ
def tw8684141261594738125:=aQ
def tw16387514198761900525:=aQ
def tw12351479005544868365:=aQ
def tw14775809457608555021:=aQ
def tw2423483077125550701:=aQ
def tw9322494525561880205:=aQ
def tw2318547290230182605:=aQ
def tw4700474171018600141:=aQ
def tw11380202382946666253:=aQ
def tw18090827688054252301:=aQ
def tw2154945892220246829:=aQ
def tw4982567494288240461:=aQ
def tw2144893488517278573:=aQ
def tw17283912395511533485:=aQ
def tw11743358546221574093:=aQ
def tw6402825530699215950:=aQ
def tw3926906745144727726:=aQ
def tw14490558568478002414:=aQ
def tw3939857311471332686:=aQ
def tw9765049139839857006:=aQ
def tw13810502643798356398:=aQ
def tw17465454694633297390:=aQ
def tw6229540270267771374:=aQ
def tw1392978215953148430:=aQ
def tw17222683438158933550:=aQ
def tw16729321051494133614:=aQ
def tw13873621795990737774:=aQ
def tw2265286788172982222:=aQ
def tw14698149116335685614:=aQ
def tw8127276342063085550:=aQ
def tw4674861131252175887:=aQ
def tw5548453919472954383:=aQ
def tw4188117608023472143:=aQ
def tw12488994070416713743:=aQ
def tw15167408953535170607:=aQ
def tw13821277668469038127:=aQ
def tw6306009089874511983:=aQ
def tw10485348405299145839:=aQ
def tw13822256215340029071:=aQ
def tw3025480192123578575:=aQ
def tw5780188386726062287:=aQ
def tw13783009435951901903:=aQ
def tw10809443769894153423:=aQ
def tw3202843739172592879:=aQ
def tw5337712858747287823:=aQ
def tw7202953260198759695:=aQ
def tw12158540165829827087:=aQ
def tw3847003183163525679:=aQ
def tw2563511744129532495:=aQ
def tw15939493863880430223:=aQ
def tw2830989420313324207:=aQ
def tw5294521960972395311:=aQ
def tw1856919442574266191:=aQ
def tw12754978634726409071:=aQ
def tw10012025938604972943:=aQ
def tw12830116024175420303:=aQ
def tw3214723414489808815:=aQ
def tw6555877972451347375:=aQ
def tw6323726674391983023:=aQ
def tw15828850401545744303:=aQ
def tw18150705504036730896:=aQ
def tw12546005923085967408:=aQ
def tw15725982336133845040:=aQ
def tw17001637614208001104:=aQ
def tw15402883620744416400:=aQ
def tw705999179307954352:=aQ
def tw99234077695035632:=aQ
def tw14530760712172456304:=aQ
def tw3045828483626591696:=aQ
def tw14852808383803284016:=aQ
def tw1873552177881056016:=aQ
def tw15315763318130812752:=aQ
def tw7312761457132828496:=aQ
def tw366635309239776112:=aQ
def tw15023931379588013968:=aQ
def tw946372779738904528:=aQ
def tw14009834089006155793:=aQ
def tw16376401135706479633:=aQ
def tw8258503036619761841:=aQ
def tw14383540229349278929:=aQ
def tw16986197246676818225:=aQ
def tw337864126431598929:=aQ
def tw9538952895646990705:=aQ
def tw12097833041605054897:=aQ
def tw669176116890726897:=aQ
def tw605994743935779313:=aQ
def tw13734669099779659409:=aQ
def tw12845227027593732753:=aQ
def tw11849502947390213809:=aQ
def tw4621058418003057393:=aQ
def tw8578598386464527281:=aQ
def tw16205911085132865457:=aQ
def tw2482961638018402322:=aQ
def tw9385655760095654994:=aQ
def tw2103671510137186386:=aQ
def tw7858462458654953586:=aQ
def tw11718870104590433426:=aQ
def tw12161865542974348466:=aQ
def tw11974849300932799666:=aQ
def tw12577532677669121234:=aQ
def tw3970009592816257298:=aQ
def tw1981456358890193202:=aQ
def tw2825591788354206034:=aQ
def tw14851185799058882930:=aQ
def tw872748410737028466:=aQ
def tw8023346898253580690:=aQ
def tw15507422783440925106:=aQ
def tw594195973339514386:=aQ
def tw13695576618571294258:=aQ
def tw15932690143080188562:=aQ
def tw6177356516566302354:=aQ
def tw6177510170463336114:=aQ
def tw5311387047783030482:=aQ
def tw7630724303865669394:=aQ
def tw7460865064894114610:=aQ
def tw16434448054238594994:=aQ
def tw3578800347502198770:=aQ
def tw14899917414106492947:=aQ
def tw6762846188818419763:=aQ
def tw5567640142933546035:=aQ
def tw3831650617322927187:=aQ
def tw16726482693928975443:=aQ
def tw10855125787627777203:=aQ
def tw11026096757784176819:=aQ
def tw14827759688974164211:=aQ
def tw891035679865581843:=aQ
def tw3258094408320236819:=aQ
def tw17980728601757545811:=aQ
def tw5901948848229139859:=aQ
def tw14380435758037471795:=aQ
def tw4547153568091807315:=aQ
def tw6645118565309029971:=aQ
def tw8767864624990305875:=aQ
def tw11305257983426787923:=aQ
def tw11527600952980436595:=aQ
def tw4965074752083126963:=aQ
def tw2574348389889316563:=aQ
def tw18187089621480286963:=aQ
def tw1087854624265930515:=aQ
def tw2407887910555403091:=aQ
def tw6931194934399824723:=aQ
def tw8868613010239943603:=aQ
def tw4831408455666083763:=aQ
def tw6300896000802959315:=aQ
def tw13126724802678958100:=aQ
def tw6770254809317937236:=aQ
def tw8157351292390256852:=aQ
def tw6281140809805537620:=aQ
def tw7475498988037281140:=aQ
def tw12313543973547379092:=aQ
def tw4257956323544774068:=aQ
def tw2400033956236433876:=aQ
def tw4363914811534374356:=aQ
def tw2053306542285410804:=aQ
def tw4800277583765220852:=aQ
def tw9196107381680283156:=aQ
def tw13745483479543250484:=aQ
def tw5992614156295322164:=aQ
def tw10615742990178571892:=aQ
def tw8382109216651634292:=aQ
def tw3777227811883266804:=aQ
def tw14280734218609603316:=aQ
def tw17817709547741448980:=aQ
def tw2392145807727998868:=aQ
def tw12177043782738053044:=aQ
def tw15517681210060470196:=aQ
def tw5754688181053618164:=aQ
def tw11093840913433074676:=aQ
def tw16980744606911728757:=aQ
def tw16981754624291105941:=aQ
def tw1104825592083038389:=aQ
def tw5987031496231188661:=aQ
def tw9863895597662851285:=aQ
def tw6145475654300381557:=aQ
def tw769936441105946005:=aQ
def tw10520049195094075797:=aQ
def tw17808465421108804213:=aQ
def tw7661839810110119669:=aQ
def tw13060062990747108245:=aQ
def tw10250171731732897685:=aQ
def tw5200663509554850741:=aQ
def tw3470437482155609077:=aQ
def tw14511682984478424053:=aQ
def tw6495857398448884758:=aQ
def tw9341594706640055318:=aQ
def tw18316214326051333142:=aQ
def tw9560817135882603574:=aQ
def tw15867417931434586230:=aQ
def tw520832835689706678:=aQ
def tw5040621194243308758:=aQ
def tw14490780832539935990:=aQ
def tw18382062696205151510:=aQ
def tw14112512510708880694:=aQ
def tw3615087579719221590:=aQ
def tw14651169820841240918:=aQ
def tw7557215826864571798:=aQ
def tw1194632960330154454:=aQ
def tw7138633512765910:=aQ
def tw14483407407316617846:=aQ
def tw11702157611334342294:=aQ
def tw5316297389786804886:=aQ
def tw15500360061975086742:=aQ
def tw11948708745049544374:=aQ
def tw15478664567456400086:=aQ
def tw17520177549424296886:=aQ
def tw278966282096935862:=aQ
def tw6703497686166858807:=aQ
def tw4853030858463940695:=aQ
def tw3647819383548181623:=aQ
def tw6476864857799212183:=aQ
def tw923476740541134103:=aQ
def tw1652342467763502423:=aQ
def tw6929843980810113399:=aQ
def tw10327396388205843863:=aQ
def tw3594161178931266999:=aQ
def tw14941405345625984439:=aQ
def tw8913062320111157847:=aQ
def tw12744957827608454775:=aQ
def tw15147853435197299351:=aQ
def tw8495453938526650007:=aQ
def tw5566326233373400759:=aQ
def tw6588805257855441591:=aQ
def tw17133518822170344279:=aQ
def tw12112281592097706839:=aQ
def tw13959669975931070359:=aQ
def tw16459648998505263128:=aQ
def tw17534737061112164408:=aQ
def tw4309968087766936664:=aQ
def tw12636253934333045848:=aQ
def tw3143931327658548344:=aQ
def tw6975072480146608280:=aQ
def tw16966343810831886616:=aQ
def tw10179746697959313720:=aQ
def tw3206051689360815480:=aQ
def tw18241984197263588728:=aQ
def tw8679649727414864312:=aQ
def tw1781246973302083032:=aQ
def tw4560444123212354072:=aQ
def tw13862035110451634744:=aQ
def tw6697702917597527608:=aQ
def tw13963101479233018488:=aQ
def tw9488760880944776888:=aQ
def tw16800075681463489240:=aQ
def tw10950953658150876920:=aQ
def tw5712673407145615192:=aQ
def tw12496414080096841560:=aQ
def tw12582103072384994200:=aQ
def tw3400069763124808632:=aQ
def tw8442950740555427800:=aQ
def tw6271996155161067512:=aQ
def tw7949700976067755000:=aQ
def tw12094053063678526489:=aQ
def tw4848236879199359033:=aQ
def tw997560548777322617:=aQ
def tw7117723104554050713:=aQ
def tw7315183307443721369:=aQ
def tw10833074086144187609:=aQ
def tw5192365913465831705:=aQ
def tw11267943105495754009:=aQ
def tw16972975922733736249:=aQ
def tw7640701200846466393:=aQ
def tw9244319747388540281:=aQ
def tw5500396553171909017:=aQ
def tw14402331213087917465:=aQ
def tw651580597381962265:=aQ
def tw15793444114696326713:=aQ
def tw14201003098528534073:=aQ
def tw12584454024152951417:=aQ
def tw823073678128025241:=aQ
def tw3496234472640684761:=aQ
def tw5838978223384219385:=aQ
def tw1553656675353460601:=aQ
def tw13854286860153492345:=aQ
def tw7011901929314692985:=aQ
def tw14125283268846103449:=aQ
def tw9802148141212631993:=aQ
def tw7346832909116874713:=aQ
def tw2189588189082984538:=aQ
def tw461375256396009658:=aQ
def tw12236389274937133242:=aQ
def tw8268267044124054810:=aQ
def tw10656887077649495386:=aQ
def tw15476155032508491098:=aQ
def tw15415602341510880634:=aQ
def tw204291920312824186:=aQ
def tw8823067714481676698:=aQ
def tw17765194352017200634:=aQ
def tw17083141836201514586:=aQ
def tw8104590072864638554:=aQ
def tw3502476775548389018:=aQ
def tw13521519377874597626:=aQ
def tw6699677548087846650:=aQ
def tw5251577242449151834:=aQ
def tw5907591481195409306:=aQ
def tw6348872221154273178:=aQ
def tw6065956814950518714:=aQ
def tw17791543496598438906:=aQ
def tw6024720883522619386:=aQ
def tw7363389475782772730:=aQ
def tw12535206454104641563:=aQ
def tw10815722155515096123:=aQ
def tw16998659097273779291:=aQ
def tw6812100778836086875:=aQ
def tw9198379274567256219:=aQ
def tw12843536070241335483:=aQ
def tw17271621258134251739:=aQ
def tw9981127059440106715:=aQ
def tw9450563485379416347:=aQ
def tw2986988813340305819:=aQ
def tw15357126723147990459:=aQ
def tw17705043305973054907:=aQ
def tw16835528767950507483:=aQ
def tw9779827400909163067:=aQ
def tw1833936381703936603:=aQ
def tw4733953740616776283:=aQ
def tw13866554726253641339:=aQ
def tw12201194626627081883:=aQ
def tw1871256736041281211:=aQ
def tw10555650700970085115:=aQ
def tw10822708321636327227:=aQ
def tw11237138432597659483:=aQ
def tw5929742505028094875:=aQ
def tw16914199095779718139:=aQ
def tw6318661970186519580:=aQ
def tw3670841434756423740:=aQ
def tw6766074073467514076:=aQ
def tw6323220355719043388:=aQ
def tw7463011847157501276:=aQ
def tw10143334767157403996:=aQ
def tw9994831304456221116:=aQ
def tw713967248244813308:=aQ
def tw16045284179217393180:=aQ
def tw2621412225243817500:=aQ
def tw17783724188430571068:=aQ
def tw11689395017239008860:=aQ
def tw999214286989514492:=aQ
def tw4876345085853457244:=aQ
def tw7354492795366075292:=aQ
def tw1152864899399500764:=aQ
def tw7241863706175144956:=aQ
def tw16068690559433556029:=aQ
def tw8156055035031782525:=aQ
def tw4079788348720442493:=aQ
def tw7895719889985987741:=aQ
def tw881983829740608765:=aQ
def tw5115451513333276925:=aQ
def tw938294101621075197:=aQ
def tw17940180374968490269:=aQ
def tw8943012199820715325:=aQ
def tw15587516748797122909:=aQ
def tw7606529632082628957:=aQ
def tw11108669849078028669:=aQ
def tw8178970192996832669:=aQ
def tw620079989659752861:=aQ
def tw3687972128787853757:=aQ
def tw6087360935571049981:=aQ
def tw11955941208906325565:=aQ
def tw16019160131574104701:=aQ
def tw8808091506055329405:=aQ
def tw11674617094409125501:=aQ
def tw15384611498418302781:=aQ
def tw6512386187520916381:=aQ
def tw8251133494443040669:=aQ
def tw7171011477079292829:=aQ
def tw17604737299630698493:=aQ
def tw10348646714521172989:=aQ
def tw17793481582745385981:=aQ
def tw17337840218940989470:=aQ
def tw13304681213131043902:=aQ
def tw7656779288383797470:=aQ
def tw1096179347272745182:=aQ
def tw8603589473401205982:=aQ
def tw9464641344203281662:=aQ
def tw7935010341029238014:=aQ
def tw7639102551651809534:=aQ
def tw5253882431559016766:=aQ
def tw275130698715012446:=aQ
def tw5900256515483198878:=aQ
def tw2006491141707558302:=aQ
def tw13916121837438562750:=aQ
def tw12224570939573359070:=aQ
def tw1356727500193028638:=aQ
def tw14909974884600749598:=aQ
def tw2759927087659012702:=aQ
def tw11036099738113300062:=aQ
def tw10310573648835830366:=aQ
def tw18021556530405803678:=aQ
def tw6126486404059268798:=aQ
def tw4168393770894480062:=aQ
def tw14304968654337300190:=aQ
def tw6340035326935299806:=aQ
def tw5328272928426246910:=aQ
def tw7267556938207525694:=aQ
def tw783236691728268222:=aQ
def tw474348227709843487:=aQ
def tw10466149796198867007:=aQ
def tw14257213733863424095:=aQ
def tw4858463225856754815:=aQ
def tw11788212774190986367:=aQ
def tw7728223724422535423:=aQ
def tw3408876338833797375:=aQ
def tw15076531174740919615:=aQ
def tw13017367414061087039:=aQ
def tw2505603829060563295:=aQ
def tw16843919347058707807:=aQ
def tw7670489469201788255:=aQ
def tw8463487232784894431:=aQ
def tw14306079617782062559:=aQ
def tw4331036114093545055:=aQ
def tw7763710352615644799:=aQ
def tw82833721974839935:=aQ
def tw13610982668386953887:=aQ
def tw2683088995306474175:=aQ
def tw1823739360138013375:=aQ
def tw5799341914632668863:=aQ
def tw15626428849476819647:=aQ
def tw2491792974257057535:=aQ
def tw15222922240199047967:=aQ
def tw17787126208701606719:=aQ
def tw2146871833377953599:=aQ
def tw13648258876739849055:=aQ
def tw10650240021197167519:=aQ
def tw9286499891437621215:=aQ
def tw6428967387450552287:=aQ
def tw3204479494134066175:=aQ
def tw11062877165115700495:=aQ
end PySem.W.Fast
open PySem PySem.W PyProof.Rows
set_option maxRecDepth 100000 in
set_option maxHeartbeats 0 in
theorem PySem.Challenge.cw_disposehall_k40_books_parted_holds : PySem.Challenge.rw_disposehall_k40_books_parted.Holds := by
 w_on;o_law;k_head;(case hw=>w_witness2)
 k_fill
 refine L3.Zx (l:=PySem.Challenge.rw_disposehall_k40_books_parted) (k:=28) (x:="_law_script") U U ⟨U,by decide,by decide⟩ (λw h Y=>kIn_of Y) ?F
 case F=>
  intro w mg fa h KX G Yb;refine' K40.all_mk KX G Yb ?K5 ?N7 ?j5 ?o8 ?S5 ?Z0 ?Z2 ?Z1 ?S6 ?M6 ?J6 ?n8 ?K4 ?m9 ?Q8 ?Q5 ?W0 ?R5 ?K6 ?V2 ?N8 ?o7 ?o6 ?R6 ?j7 ?R7 ?R8 ?R9 ?V0 ?Q6 ?K3 ?M7 ?t6 ?o9 ?J9 ?J8 ?j8 ?j4 ?M8 ?Q7 ?M9 ?N6 ?N5 ?p8 ?J7 ?n6 ?p7 ?V1 ?Z0L ?Z0J ?Z0M ?Z0K ?Z0B ?Z4 ?Z3 ?U6 ?U5 ?Z0A ?V5 ?Z0g ?W8 ?Z0h ?V3 ?U4 ?V4 ?W9 ?W2 ?Z0z ?Y4 ?Y7 ?X7 ?X4 ?Z0l ?Z0o ?Z0r ?Z0v ?Z0s ?Y6 ?Y9 ?Y0 ?X6 ?Z0n ?Z0q ?z9 ?Q9 ?R0 ?Z0x ?Z0u ?Y5 ?Y8 ?X8 ?X5 ?Z0m ?Z0p ?z8 ?T8 ?Q0 ?Z0w ?Z0t ?T7 ?T9 ?T6 ?T5 ?W4 ?W5 ?m5 ?Q4 ?K8 ?W7 ?W6 ?hn ?htk ?t7 ?u0 ?t8 ?j9 ?M5 ?G4 ?m7 ?m6 ?R4 ?Z0f ?R3 ?Z0e ?G3 ?m8 ?V7 ?V9 ?V8 ?R1 ?S8 ?P0 ?O9 ?S9 ?T4 ?T3 ?W3 ?Z7 ?Z9 ?Z8 ?Z5 ?Z6 ?Z0a ?O4 ?G5 ?O3 ?O8 ?G9 ?O7 ?O6 ?G6 ?O5 ?G8 ?o5 ?G7 ?Z0b ?Z0c ?Z0d ?Z0H ?Z0y ?U3 ?U0 ?u9 ?Z0F ?Z0E ?Z0G ?Z0k ?U8 ?K9 ?Z0D ?b7 ?j6 ?S7 ?Z0j ?U7 ?V6 ?K7 ?Z0C ?u6 ?Z0i ?X3 ?kib ?kii ?kss ?kdd ?ktt ?f9 ?d8 ?b8 ?g8 ?d7 ?c7
  (case Z0L|Z0B|Z4|Z3|U6|U5|Z0A|V5|Z0g|W8|Z0h|V3|U4|V4|W9|W2|Z0z=>k_is)
  (case V7|S8=>k_is)
  (case V9|P0=>k_is)
  (case K5|N7|j5|o8|S5|Z0|Z2|Z1|S6|M6|J6|n8|K4|m9|Q8|Q5|W0|R5|K6|V2|N8|o7|o6|R6|j7|R7|R8|R9|V0|Q6|K3|M7|t6|o9|J9|J8|j8|j4|M8|Q7|M9|N6|N5|p8|J7|n6|p7|V1=>exact⟨_,_,by k_is,L2.EY (by k_is) (by k_is) (by k_is)⟩)
  (case Z0J|Z0M|Z0K|Y4|Y7|X7|X4|Z0l|Z0o|Z0r|Z0v|Z0s|Y6|Y9|Y0|X6|Z0n|Z0q|Q9|R0|Z0x|Z0u|Y5|Y8|X8|X5|Z0m|Z0p|T8|Q0|Z0w|Z0t|T7|T9|T6|T5|W4|W5|Q4|K8|W7|W6|hn|htk|M5|G4|m7|m6|R4|R3|G3|m8|S9|T4|T3|W3|Z9|Z8|Z5|Z6|Z0a|u9|Z0F|Z0E|Z0G|Z0k|U8|K9|Z0D|b7|j6|S7|Z0j|U7|V6|K7|Z0C|u6|Z0i|X3=>k_is)
  (case z9|z8|m5|t7|u0|t8|j9=>exact⟨_,_,by k_is,by k_is,L2.EY (by k_is) (by k_is) (by k_is)⟩)
  (case Z0f|Z0e=>first|rfl|decide+kernel)
  (case V8|O9|Z7|O4|G5|O3|O8|G9|O7|O6|G6|O5|G8|o5|G7|Z0b|Z0c|Z0d|Z0H|Z0y|U3|U0|kib|kii|kss|kdd|ktt=>first|rfl|decide+kernel|k_is)
  (case R1=>exact⟨_,_,_,_,_,by k_is,by k_is,rfl,L2.EY (by k_is) (by k_is) (by k_is)⟩)
  (case f9|d8|b8|g8|d7|c7=>decide)
