import PyProof.Rows.All
import Wide.All
import OpenK.AllK
import Wide.FinOn
import Lean
import PyProof.EqAt
import PyProof.EqKinds
import PyProof.TupleCall
import PySem.Challenge.RW_disposehall_k07_no_terms
set_option Elab.async false
set_option linter.all false
set_option maxRecDepth 100000
namespace L2
open PySem PySem.Spec PyProof.Rows
abbrev Key:=Sum Int Str
def Zj7:Key->Value->Bool
 | .inl k,v=>Value.isInt k v
 | .inr x,v=>Value.isStrOf x v
def ZkL(w:World):Key->Int
 | .inl k=>hashInt k
 | .inr x=>hashStr w x
theorem YB:∀{k:Key} {v:Value},Zj7 k v=true->(∃i t,k=Sum.inl i/\v=Value.int i t)\/(∃x t,k=Sum.inr x/\v=Value.str x t)
 | .inl i,v,h=>by
  obtain⟨t,e⟩:=Value.isInt_shape (k:=i) (v:=v) h;exact .inl ⟨i,t,rfl,e⟩
 | .inr x,v,h=>by
  obtain⟨t,e⟩:=Value.isStrOf_shape (x:=x) (v:=v) h;exact .inr ⟨x,t,rfl,e⟩
theorem Zji(a b:Int):decide ((Sum.inl a:Key)=Sum.inl b)=(a==b):=by
 by_cases e:a=b
 ·subst e;simp
 ·have h:¬(Sum.inl a:Key)=Sum.inl b:=fun q=>e (Sum.inl.inj q);rw[decide_eq_false h];exact(beq_eq_false_iff_ne.mpr e).symm
theorem Zjj(a b:Str):decide ((Sum.inr a:Key)=Sum.inr b)=decide (a=b):=by
 by_cases e:a=b
 ·subst e;simp
 ·have h:¬(Sum.inr a:Key)=Sum.inr b:=fun q=>e (Sum.inr.inj q);rw[decide_eq_false h,decide_eq_false e]
theorem Zjk(a:Int)(b:Str):decide ((Sum.inl a:Key)=Sum.inr b)=false:=decide_eq_false (fun q=>nomatch q)
theorem Zjl(a:Str)(b:Int):decide ((Sum.inr a:Key)=Sum.inl b)=false:=decide_eq_false (fun q=>nomatch q)
def ZbT(prog:Program)(w:World):PySem.KeyKind prog w Key where
 is:=Zj7
 hash:=ZkL w
 inj:=fun v a b ha hb=>by
  rcases YB ha with ⟨i,t,rfl,rfl⟩|⟨x,t,rfl,rfl⟩
  ·rcases YB hb with ⟨j,u,rfl,e⟩|⟨y,u,rfl,e⟩
   ·injection e with e1 _;rw[e1]
   ·exact nomatch e
  ·rcases YB hb with ⟨j,u,rfl,e⟩|⟨y,u,rfl,e⟩
   ·exact nomatch e
   ·injection e with e1 _;rw[e1]
 byValue:=fun k v h=>by
  rcases YB h with ⟨i,t,rfl,rfl⟩|⟨x,t,rfl,rfl⟩<;>rfl
 pyHash:=fun hv h=>by
  rcases YB hv with ⟨i,t,rfl,rfl⟩|⟨x,t,rfl,rfl⟩
  ·exact wpAny_pyHash_int h
  ·exact wpAny_pyHash_str h
 eqBool:=fun hu hv h=>by
  rcases YB hu with ⟨i,t,rfl,rfl⟩|⟨x,t,rfl,rfl⟩
  ·rcases YB hv with ⟨j,u,rfl,rfl⟩|⟨y,u,rfl,rfl⟩
   ·rw[Zji] at h;exact wpAny_eqBool_int h
   ·rw[Zjk] at h;exact SeqAt.EqAt.int_str i t y u _ _ _ _ h
  ·rcases YB hv with ⟨j,u,rfl,rfl⟩|⟨y,u,rfl,rfl⟩
   ·rw[Zjl] at h;exact SeqAt.EqAt.str_int x t j u _ _ _ _ h
   ·rw[Zjj] at h;exact wpAny_eqBool_str h
 «strs»:=fun k x t v h=>by
  rcases YB h with ⟨i,u,rfl,e⟩|⟨y,u,rfl,e⟩
  ·exact nomatch e
  ·injection e with e1 _
   subst e1;cases v<;>rfl
end L2
namespace L2
open PySem PySem.Spec PyProof.Rows
inductive V where
 |non|bl (b:Bool)|int (i:Int)|str (x:Str)|byt (b:Array UInt8)|flt (b:UInt64)|ref (a:Addr)|ty (n:String)
 deriving DecidableEq
def Yr:V->Value->Prop
 | .non,u=>u=Value.none
 | .bl b,u=>u=Value.bool b
 | .int i,u=>∃t,u=Value.int i t
 | .str x,u=>∃t,u=Value.str x t
 | .byt b,u=>∃t,u=Value.bytes b t
 | .flt b,u=>∃t,u=Value.float b t
 | .ref a,u=>u=Value.ref a
 | .ty n,u=>u=Value.type n
abbrev ZZ:List V->List Value->Prop:=Paired Yr
theorem ZZ.length{xs:List V}{us:List Value}(r:ZZ xs us):xs.length=us.length:=Paired.length r
theorem ZZ.get:∀{xs:List V} {us:List Value} {i:Nat} {x:V},ZZ xs us->xs[i]? =some x->∃u,us[i]? =some u/\Yr x u
 |_,_,_,_,.nil,e=>by simp at e
 |_,_,0,_,.cons r _,e=>by simp at e;subst e;exact⟨_,rfl,r⟩
 |_,_,i+1,x,.cons _ t,e=>by
  obtain⟨u,h1,h2⟩:=ZZ.get (i:=i) (x:=x) t (by simpa using e);exact⟨u,by simpa using h1,h2⟩
theorem ZZ.append:∀{xs ys:List V} {us ws:List Value},ZZ xs us->ZZ ys ws->ZZ (xs++ys) (us++ws)
 |_,_,_,_,.nil,s=>s
 |_,_,_,_,.cons r t,s=> .cons r (ZZ.append t s)
theorem ZZ.take:∀{xs:List V} {us:List Value} (n:Nat),ZZ xs us->ZZ (xs.take n) (us.take n)
 |_,_,0,_=> .nil
 |_,_,_+1,.nil=> .nil
 |_,_,n+1,.cons r t=> .cons r (ZZ.take n t)
theorem ZZ.drop:∀{xs:List V} {us:List Value} (n:Nat),ZZ xs us->ZZ (xs.drop n) (us.drop n)
 |_,_,0,r=>r
 |_,_,_+1,.nil=> .nil
 |_,_,n+1,.cons _ t=>ZZ.drop n t
def ZcK:Option V->Option Value->Prop
 |some v,some u=>Yr v u
 |none,none=>True
 |_,_=>False
def KV{κ:Type}:List (κ×V)->List (κ×Value)->Prop:=Paired fun(p:κ×V) (q:κ×Value)=>p.1=q.1/\Yr p.2 q.2
def kV:Key->V
 | .inl i=> .int i
 | .inr x=> .str x
inductive HO where
 |lst (xs:List V)
 |tup (xs:List V)
 |dK (kvs:List (Key×V))|dT (kvs:List (List Key×V))
 |set (S:Int->Bool) (n:Nat)
 |ins (C dx:Addr) (fs:List (Str×V))
 |own (x:Addr)
 |xd (fs:List (Str×V))
 |met (f x:Addr)
 |rng (lo hi:Int)
 |frz (o:Obj) (u:HO)
 |tbl (ps:Array Value)
 |ext (φ:Heap->Prop)
abbrev Hp:=Addr->Option HO
def upd(H:Hp)(a:Addr)(o:HO):Hp:=fun b=>if b=a then some o else H b
theorem Zb{H:Hp}{a:Addr}{o:HO}:upd H a o a=some o:=by unfold upd;rw[if_pos rfl]
theorem Zw{H:Hp}{a b:Addr}{o:HO}(h:b≠a):upd H a o b=H b:=by unfold upd;rw[if_neg h]
theorem YZ{H:Hp}{a:Addr}{o u:HO}:upd (upd H a o) a u=upd H a u:=by
 funext b;unfold upd;split<;>rfl
theorem Ze1{H:Hp}{a b:Addr}{o u:HO}(h:H a=some o)(h':H b=some u)(d:o≠u):a≠b:=by
 intro e;subst e;rw[h] at h';exact d (Option.some.inj h')
theorem ZK{H:Hp}{a b:Addr}{o:HO}(h:H a=some o)(h':H b=none):a≠b:=by
 intro e;subst e;rw[h] at h';cases h'
section
variable (P:Program) (w:World)
def Xn(H:Hp)(h:Heap)(a:Addr):HO->Prop
 | .lst xs=>xs.length<=sizeLine/\∃(its:List Value) (n:Nat),ZZ xs its/\h.get? a=some {cls:=.type "list",data:=.seq its.toArray n}
 | .tup xs=>xs.length<=sizeLine/\∃its:List Value,ZZ xs its/\IsTup h a its.toArray
 | .dK kvs=>kvs.length<=sizeLine/\(a==sysModules)=false/\∃vs,KV kvs vs/\h.DictOf (ZbT P w) a vs
 | .dT kvs=>kvs.length<=sizeLine/\(a==sysModules)=false/\∃xs:List (List Key×Addr×Value),
   Paired (fun(p:List Key×V) (q:List Key×Addr×Value)=>p.1=q.1/\H q.2.1=some (.tup (p.1.map kV))/\Yr p.2 q.2.2) kvs xs/\
   ∃o es ep,h.get? a=some o/\o.ExactDict/\o.data=.dict es ep/\es.toList=xs.map (entryOfKey (tupleKind (ZbT P w)))/\(xs.map (·.1)).Nodup
 | .set S n=>h.SetOf (intKind P w) a S n
 | .ins C dx fs=>H dx=some (.own a)/\fs.length<=1000/\dx≠a/\h.get? a=some (PySem.W.instObj C dx)/\
   ∃mA,h.Ns1 dx mA/\(∀f,ZcK (fs.lookup f) (mA f))/\PySem.Within mA (fs.map (·.1))
 | .own _=>∃o,h.get? a=some o
 | .xd fs=>∃mA,h.Ns1 a mA/\∀f,ZcK (fs.lookup f) (mA f)
 | .rng lo hi=>∃t u v,h.get? a=some {cls:=.type "range",data:=.fields #[.int lo t,.int hi u,.int 1 v]}
 | .frz o u=>h.get? a=some o/\Xn H h a u
 | .tbl ps=>h.get? a=some {cls:=.none,data:=.fields ps}
 | .met f x=>h.get? a=some (PySem.W.methodObj (.ref f) (.ref x))
 | .ext φ=>φ h/\(∃o,h.get? a=some o)/\∀h1 h2:Heap,φ h1->(∀o,h1.get? a=some o->h2.get? a=some o)->φ h2
def HOk(H:Hp)(h:Heap):Prop:=∀a o,H a=some o->Xn P w H h a o
end
section
variable {P:Program} {w:World} {H H':Hp} {h h':Heap} {a:Addr} {o:HO}
theorem Xn.lt(x:Xn P w H h a o):a<h.objs.size:=by
 cases o with
 |lst xs=>obtain⟨_,_,_,_,e⟩:=x;exact Heap.lt_size e
 |tup xs=>obtain⟨_,_,_,p⟩:=x;exact p.lt
 |dK kvs=>obtain⟨_,_,_,_,o,_,_,e,_⟩:=x;exact Heap.lt_size e
 |dT kvs=>obtain⟨_,_,_,_,o,_,_,e,_⟩:=x;exact Heap.lt_size e
 |set S n=>obtain⟨o,_,_,_,e,_⟩:=x;exact Heap.lt_size e
 |ins C dx fs=>obtain⟨_,_,_,e,_⟩:=x;exact Heap.lt_size e
 |own y=>obtain⟨_,e⟩:=x;exact Heap.lt_size e
 |xd fs=>obtain⟨_,⟨_,_,_,e,_⟩,_⟩:=x;exact Heap.lt_size e
 |rng lo hi=>obtain⟨_,_,_,e⟩:=x;exact Heap.lt_size e
 |frz ob u=>obtain⟨e,_⟩:=x;exact Heap.lt_size e
 |tbl ps=>exact Heap.lt_size (show h.get? a=some _ from x)
 |met f y=>exact Heap.lt_size (show h.get? a=some _ from x)
 |ext φ=>obtain⟨_,⟨_,e⟩,_⟩:=x;exact Heap.lt_size e
theorem Paired.mapP{α β:Type}{F G:α->β->Prop}:∀{l₁:List α} {l₂:List β},Paired F l₁ l₂->(∀a b,F a b->G a b)->Paired G l₁ l₂
 |_,_,.nil,_=> .nil
 |_,_,.cons r t,f=> .cons (f _ _ r) (Paired.mapP t f)
theorem Xn.stay(x:Xn P w H h a o)(k:∀b u,(b=a\/H b=some (.own a))->h.get? b=some u->h'.get? b=some u)
  (ho:∀b,H b=some (.own a)->H' b=some (.own a))(ht:∀b xs,H b=some (.tup xs)->H' b=some (.tup xs)):Xn P w H' h' a o:=by
 induction o with
 |lst xs=>obtain⟨z,its,n,r,e⟩:=x;exact⟨z,its,n,r,k _ _ (.inl rfl) e⟩
 |tup xs=>obtain⟨z,its,r,ob,e,c⟩:=x;exact⟨z,its,r,ob,k _ _ (.inl rfl) e,c⟩
 |dK kvs=>obtain⟨z,y,vs,r,ob,es,ep,e,c⟩:=x;exact⟨z,y,vs,r,ob,es,ep,k _ _ (.inl rfl) e,c⟩
 |dT kvs=>
  obtain⟨z,y,xs,r,ob,es,ep,e,c⟩:=x;exact⟨z,y,xs,Paired.mapP r fun p q z=>⟨z.1,ht _ _ z.2.1,z.2.2⟩,ob,es,ep,k _ _ (.inl rfl) e,c⟩
 |set S n=>obtain⟨ob,es,ep,t,e,c⟩:=x;exact⟨ob,es,ep,t,k _ _ (.inl rfl) e,c⟩
 |ins C dx fs=>
  obtain⟨d,z,ne,e,mA,⟨od,es,ep,e2,c⟩,r⟩:=x;exact⟨ho _ d,z,ne,k _ _ (.inl rfl) e,mA,⟨od,es,ep,k _ _ (.inr d) e2,c⟩,r⟩
 |own y=>obtain⟨ob,e⟩:=x;exact⟨ob,k _ _ (.inl rfl) e⟩
 |xd fs=>obtain⟨mA,⟨od,es,ep,e,c⟩,r⟩:=x;exact⟨mA,⟨od,es,ep,k _ _ (.inl rfl) e,c⟩,r⟩
 |rng lo hi=>obtain⟨t,u,v,e⟩:=x;exact⟨t,u,v,k _ _ (.inl rfl) e⟩
 |frz ob u ih=>obtain⟨e,q⟩:=x;exact⟨k _ _ (.inl rfl) e,ih q⟩
 |tbl ps=>
  have e:h.get? a=some {cls:=.none,data:=.fields ps}:=x;show h'.get? a=some {cls:=.none,data:=.fields ps};exact k a _ (.inl rfl) e
 |met f y=>
  have e:h.get? a=some (PySem.W.methodObj (.ref f) (.ref y)):=x;show h'.get? a=some (PySem.W.methodObj (.ref f) (.ref y));exact k a _ (.inl rfl) e
 |ext φ=>obtain⟨p,⟨o,e⟩,st⟩:=x;exact⟨st _ _ p fun o q=>k _ _ (.inl rfl) q,⟨o,k _ _ (.inl rfl) e⟩,st⟩
theorem HOk.lt(x:HOk P w H h)(e:H a=some o):a<h.objs.size:=(x a o e).lt
theorem HOk.fresh(x:HOk P w H h)(e:h.objs.size<=a):H a=none:=by
 cases q:H a with
 |none=>rfl
 |some u=>exact absurd (Nat.lt_of_lt_of_le (x.lt q) e) (Nat.lt_irrefl _)
theorem HOk.kept(x:HOk P w H h)(k:∀b u,h.get? b=some u->h'.get? b=some u):HOk P w H h':=fun a o e=>
 (x a o e).stay (fun b u _ q=>k b u q) (fun _ q=>q) fun _ _ q=>q
theorem HOk.laid(x:HOk P w H h)(k:∀b u,h.get? b=some u->h'.get? b=some u)(hp:h.objs.size<=a)(new:Xn P w (upd H a o) h' a o):HOk P w (upd H a o) h':=fun b u e=>by
 have hn:=x.fresh hp
 by_cases hb:b=a
 ·subst hb;rw[Zb] at e;cases e;exact new
 ·rw[Zw hb] at e
  exact(x b u e).stay (fun c v _ q=>k c v q) (fun c q=>by rw[Zw (ZK q hn)];exact q) fun c xs q=>by rw[Zw (ZK q hn)];exact q
end
def Rd(H:Hp)(a:Addr)(u:HO):Prop:=H a=some u\/∃o,H a=some (.frz o u)
theorem Rd.ok{P:Program}{w:World}{H:Hp}{h:Heap}{a:Addr}{u:HO}(r:Rd H a u)(x:HOk P w H h):Xn P w H h a u:=by
 rcases r with r|⟨o,r⟩
 ·exact x a u r
 ·obtain⟨_,q⟩:=x a _ r;exact q
def Mut:Option HO->Prop
 |some (.lst _)=>True
 |some (.dK _)=>True
 |some (.dT _)=>True
 |some (.set _ _)=>True
 |some (.ins _ _ _)=>True
 |some (.ext _)=>True
 |_=>False
section
variable {P:Program} {w:World} {H:Hp} {h h':Heap} {x e:Addr} {o':HO}
theorem HOk.write(ok:HOk P w H h)(mu:Mut (H x))(he:e=x\/H e=some (.own x))(k:∀b u,b≠e->h.get? b=some u->h'.get? b=some u)(heo:∃u,h'.get? e=some u)
  (new:Xn P w (upd H x o') h' x o'):HOk P w (upd H x o') h':=fun b u q=>by
 have nown:∀c y,H c=some (.own y)->c≠x:=fun c y r z=>by subst z;rw[r] at mu;exact mu
 have ntup:∀c xs,H c=some (.tup xs)->c≠x:=fun c xs r z=>by subst z;rw[r] at mu;exact mu
 by_cases hb:b=x
 ·subst hb;rw[Zb] at q;cases q;exact new
 ·rw[Zw hb] at q
  by_cases hbe:b=e
  ·have q':H b=some (.own x):=by
    rcases he with z|z
    ·exact absurd (hbe.trans z) hb
    ·rw[hbe];exact z
   rw[q] at q';cases q'
   obtain⟨v,hv⟩:=heo;exact⟨v,by rw[hbe];exact hv⟩
  ·refine(ok b u q).stay (fun c v hc r=>k c v ?_ r) (fun c r=>by rw[Zw (nown c b r)];exact r) fun c xs r=>by rw[Zw (ntup c xs r)];exact r
   rcases hc with rfl|hc
   ·exact hbe
   ·rintro rfl;rcases he with z|z
    ·exact nown c b hc z
    ·rw[hc] at z;cases z;exact hb rfl
end
structure Un (fs ex:List Addr) (H H':Hp) (h h':Heap):Prop where
 keep:∀b o,h.get? b=some o->H b=none->b∉fs->b∉ex->h'.get? b=some o
 slot:∀b o,h.get? b=some o->H b=none->b∈fs->b∉ex->∃sl,h'.get? b=some {o with slots:=sl}
 free:∀b o,h.get? b=some o->H b=none->b∉ex->H' b=none
 there:∀b o,h.get? b=some o->b∉ex->∃o',h'.get? b=some o'
 tups:∀b xs,H b=some (.tup xs)->H' b=some (.tup xs)
 frzs:∀b o u,H b=some (.frz o u)->H' b=some (.frz o u)
 tbls:∀b ps,H b=some (.tbl ps)->∃more,H' b=some (.tbl (ps++more))
section
variable {fs fs' ex ex':List Addr} {H H1 H2:Hp} {h h1 h2 h':Heap} {a x e:Addr} {o:HO}
theorem Un.any(u:Un fs ex H H1 h h1){b:Addr}{ob:Obj}(q:h.get? b=some ob)(n:H b=none)(hx:b∉ex):∃sl,h1.get? b=some {ob with slots:=sl}:=by
 by_cases hb:b∈fs
 ·exact u.slot b ob q n hb hx
 ·exact⟨ob.slots,u.keep b ob q n hb hx⟩
theorem Un.kept(k:∀b u,h.get? b=some u->h'.get? b=some u):Un fs ex H H h h':=
 ⟨fun b ob q _ _ _=>k b ob q,fun b ob q _ _ _=>⟨ob.slots,k b ob q⟩,fun _ _ _ n _=>n,fun b ob q _=>⟨ob,k b ob q⟩,fun _ _ q=>q,fun _ _ _ q=>q,fun _ ps q=>⟨#[],by rw[q];simp⟩⟩
theorem Un.refl:Un fs ex H H h h:=Un.kept fun _ _ q=>q
theorem Un.laid(k:∀b u,h.get? b=some u->h'.get? b=some u)(hp:h.objs.size<=a)(hn:H a=none):Un fs ex H (upd H a o) h h' where
 keep:=fun b u q _ _ _=>k b u q
 slot:=fun b u q _ _ _=>⟨u.slots,k b u q⟩
 free:=fun b u q n _=>by rw[Zw (Nat.ne_of_lt (Nat.lt_of_lt_of_le (Heap.lt_size q) hp))];exact n
 there:=fun b u q _=>⟨u,k b u q⟩
 tups:=fun b xs q=>by rw[Zw (ZK q hn)];exact q
 frzs:=fun b u xs q=>by rw[Zw (ZK q hn)];exact q
 tbls:=fun b ps q=>⟨#[],by rw[Zw (ZK q hn),q];simp⟩
theorem Un.write(mu:Mut (H x))(he:e=x\/H e=some (.own x))(k:∀b u,b≠e->h.get? b=some u->h'.get? b=some u)(heo:∃u,h'.get? e=some u):Un fs ex H (upd H x o) h h':=by
 have hx:∀b,H b=none->b≠x:=fun b n z=>by subst z;rw[n] at mu;exact mu
 have hb:∀b,H b=none->b≠e:=fun b n z=>by
  subst z;rcases he with r|r
  ·exact hx b n r
  ·rw[n] at r;cases r
 have hm:∀b u,H b=some u->¬Mut (some u)->b≠x:=fun b u q nm z=>by subst z;rw[q] at mu;exact nm mu
 refine⟨fun b u q n _ _=>k b u (hb b n) q,fun b u q n _ _=>⟨u.slots,k b u (hb b n) q⟩,fun b u q n _=>by rw[Zw (hx b n)];exact n,fun b u q _=> ?_,
  fun b xs q=>by rw[Zw (hm b _ q fun z=>z)];exact q,fun b u xs q=>by rw[Zw (hm b _ q fun z=>z)];exact q,fun b ps q=>⟨#[],by rw[Zw (hm b _ q fun z=>z),q];simp⟩⟩
 by_cases hbe:b=e
 ·subst hbe;exact heo
 ·exact⟨u,k b u hbe q⟩
end
def trk(h:Heap)(H:Hp):List Addr:=(List.range h.objs.size).filter fun a=>(H a).isSome
def Zep(h:Heap)(H:Hp):Heap:=PySem.W.hideAll h (trk h H)
theorem ZgM(h:Heap)(H:Hp):(Zep h H).objs.size=h.objs.size:=PySem.W.hideAll_size _ _
theorem Zhf{h:Heap}{H:Hp}{b:Addr}{o:Obj}(e:h.get? b=some o)(n:H b=none):(Zep h H).get? b=some o:=
 PySem.W.hideAll_get _ e fun hm=>by
  have q:(H b).isSome=true:=(List.mem_filter.mp hm).2;rw[n] at q;simp at q
theorem Zip{h:Heap}{H:Hp}{b:Addr}{o:Obj}(e:(Zep h H).get? b=some o):h.get? b=some o/\H b=none:=by
 have e':h.get? b=some o:=PySem.W.of_hideAll (trk h H) e;refine⟨e', ?_⟩;cases q:H b with
 |none=>rfl
 |some x=>
  have hm:b∈trk h H:=List.mem_filter.mpr ⟨List.mem_range.mpr (Heap.lt_size e'),by simp[q]⟩;have z:(Zep h H).get? b=none:=PySem.W.hideAll_none (trk h H) hm;rw[z] at e;cases e
def ZcS(g h:Heap)(L:Addr):List (Addr×Obj):=(List.range h.objs.size).filterMap fun a=>if a=L\/(g.get? a).isSome=true then none else(h.get? a).map fun o=>(a,o)
theorem ZcD{g h:Heap}{L a:Addr}{o:Obj}(h1:a≠L)(h2:g.get? a=none)(h3:h.get? a=some o):(a,o)∈ZcS g h L:=
 List.mem_filterMap.mpr ⟨a,List.mem_range.mpr (Heap.lt_size h3),by simp[h1,h2,h3]⟩
theorem Zd0{g h:Heap}{L:Addr}{p:Addr×Obj}(hp:p∈ZcS g h L):p.1≠L/\g.get? p.1=none/\h.get? p.1=some p.2:=by
 obtain⟨b,_,e⟩:=List.mem_filterMap.mp hp
 split at e
 ·cases e
 ·rename_i hn
  cases q:h.get? b with
  |none=>rw[q] at e;simp at e
  |some u=>
   rw[q] at e
   simp only [Option.map_some,Option.some.injEq] at e
   subst e;refine⟨fun z=>hn (.inl z), ?_,q⟩;show g.get? b=none;cases r:g.get? b with
   |none=>rfl
   |some v=>exact(hn (.inr (by simp[r]))).elim
theorem Zhg{g h:Heap}{L:Addr}:News g L h (ZcS g h L):=fun p hp=>let ⟨a,b,c⟩:=Zd0 hp;⟨c,a,b⟩
end L2
namespace L2
open PySem PySem.Spec PyProof.Rows
structure Mod (K:PySem.W.Frag) (mg:Str->Option Value) (base:Heap):Prop where
 kin:K.In base
 glob:base.Ns mainGlobals mg
 blt:∃mb,base.Ns builtinsNs mb/\∀x:Str,x≠"__name__"->mb x=bootBuiltins x
 nolimit:base.NoLimit
structure Cx where
 prog:Program
 w:World
 K:PySem.W.Frag
 mg:Str->Option Value
 base:Heap
 A:Around
 N:List Str
 s₀:Shared
 H₀:Hp
 env:Env
 outer:List Env
 stack:List Env
 ex:List Addr
 fn:Str->Bool
 calm:Bool
 pn:List (Addr×Obj)
 xe:Value->Shared->Prop
def frs(l:List Env):List Addr:=l.filterMap (·.frame)
abbrev Cx.fs(X:Cx):List Addr:=frs X.outer
def Vis(sc:Scope)(x:Str):Prop:=sc.names.lookup x=some .local\/sc.names.lookup x=some .cell\/sc.names.lookup x=some .free
def Loc(sc:Scope)(x:Str):Prop:=sc.names.lookup x=some .local\/sc.names.lookup x=some .cell
def ZkM(env:Env)(h:Heap)(m:Str->Option Value)(x:Str)(u:Value):Prop:=
 (env.kindOf x=some .local/\m x=some u)\/((env.kindOf x=some .cell\/env.kindOf x=some .free)/\∃c,env.cells.lookup x=some c/\h.IsCell c (some u))
structure Cx.Ok (X:Cx):Prop where
 mod:Mod X.K X.mg X.base
 kind:X.env.scope.kind=.function
 glob:X.env.globals=mainGlobals
 blt:X.env.builtins=builtinsNs
 above:X.s₀.heap.objs.size<=X.env.locals
 inj:∀x y c,X.env.cells.lookup x=some c->X.env.cells.lookup y=some c->x=y
 has:∀x,(X.env.kindOf x=some .cell\/X.env.kindOf x=some .free)->∃c,X.env.cells.lookup x=some c
 cab:∀x c,X.fn x=true->X.env.cells.lookup x=some c->X.s₀.heap.objs.size<=c
 hd:X.calm=true->X.A.handled=none
 frames:X.A.frames=some X.stack
 stk:X.stack=X.outer\/(X.stack=X.env::X.outer/\X.env.frame=some X.env.locals)
 exf:∀b∈X.ex,b≠X.env.locals/\∀x c,X.env.cells.lookup x=some c->c≠b
 bs:∀b o,X.base.get? b=some o->X.s₀.heap.get? b=some o/\X.H₀ b=none
 bsz:X.base.objs.size<=X.s₀.heap.objs.size
 noex:∀b o,X.base.get? b=some o->b∉X.ex
 exfs:∀b∈X.ex,b∉X.fs
 funs:X.s₀.heap.FunFrames X.base X.outer
 frf:∀b∈X.fs,X.H₀ b=none
structure Inv (X:Cx) (pins:List (Addr×Obj)) (σ:List (Option V)) (H:Hp) (s:Shared):Prop where
 ok:X.Ok
 os:s.os=X.s₀.os
 bare:AllBare s.gens
 base:Un X.fs X.ex X.H₀ H X.s₀.heap s.heap
 loc:∃m,s.heap.Ns X.env.locals m/\∀(i:Nat) (x:Str) (v:V),X.N[i]? =some x->σ[i]? =some (some v)->Vis X.env.scope x->∃u,Yr v u/\ZkM X.env s.heap m x u
 cell:∀x c,X.env.cells.lookup x=some c->∃v,s.heap.IsCell c v
 free:H X.env.locals=none
 freeC:∀x c,X.env.cells.lookup x=some c->H c=none
 pin:∀p∈X.pn++pins,s.heap.get? p.1=some p.2/\H p.1=none/\p.1≠X.env.locals/\p.1∉X.fs/\∀v,p.2.data≠.cell v
 hok:HOk X.prog X.w H s.heap
 len:σ.length=X.N.length
section
variable {X:Cx} {pins:List (Addr×Obj)} {σ:List (Option V)} {H H':Hp} {s:Shared} {h':Heap}
theorem Cx.Ok.nofr(ok:X.Ok){b:Addr}{o:Obj}(e:X.base.get? b=some o):b∉X.fs:=fun hb=>by
 have:=(ok.funs.mem hb).1;rw[e] at this;cases this
theorem Inv.bs(I:Inv X pins σ H s):∀b o,X.base.get? b=some o->s.heap.get? b=some o/\H b=none:=fun b o e=>
 ⟨I.base.keep b o (I.ok.bs b o e).1 (I.ok.bs b o e).2 (I.ok.nofr e) (I.ok.noex b o e),I.base.free b o (I.ok.bs b o e).1 (I.ok.bs b o e).2 (I.ok.noex b o e)⟩
theorem Inv.bk(I:Inv X pins σ H s):∀b o,X.base.get? b=some o->s.heap.get? b=some o:=fun b o e=>(I.bs b o e).1
theorem Inv.mod(I:Inv X pins σ H s):Mod X.K X.mg X.base:=I.ok.mod
theorem Inv.kIn(I:Inv X pins σ H s):X.K.In s.heap:=I.ok.mod.kin.keeps I.bk
theorem Inv.fr(I:Inv X pins σ H s):∃m,Fr X.base X.env.locals s.heap m:=
 let ⟨m,hn,_⟩:=I.loc
 ⟨m,hn,I.bk,Nat.le_trans I.ok.bsz I.ok.above⟩
theorem Inv.lt(I:Inv X pins σ H s):X.env.locals<s.heap.objs.size:=let ⟨_,hn,_⟩:=I.loc;hn.lt
theorem Inv.sz(I:Inv X pins σ H s):X.s₀.heap.objs.size<=s.heap.objs.size:=Nat.le_trans I.ok.above (Nat.le_of_lt I.lt)
theorem Inv.nofs(I:Inv X pins σ H s){a:Addr}(h:s.heap.objs.size<=a):a∉X.fs:=fun hb=>by
 obtain⟨_,o,ho,_⟩:=I.ok.funs.mem hb;exact absurd (Nat.lt_of_lt_of_le (Heap.lt_size ho) (Nat.le_trans I.sz h)) (Nat.lt_irrefl _)
theorem Inv.cne(I:Inv X pins σ H s):∀x c,X.env.cells.lookup x=some c->c≠X.env.locals:=fun x c e z=>by
 obtain⟨v,o,ho,hd⟩:=I.cell x c e;obtain⟨m,⟨o',es,ep,ho',hd',_⟩,_⟩:=I.loc;rw[z,ho'] at ho;cases ho;rw[hd'] at hd;cases hd
theorem Inv.funs(I:Inv X pins σ H s):s.heap.FunFrames X.base X.outer:=by
 have all:∀(l:List Env),(∀b∈frs l,b∈X.fs)->X.s₀.heap.FunFrames X.base l->s.heap.FunFrames X.base l:=by
  intro l
  induction l with
  |nil=>intro _ _;trivial
  |cons env r ih=>
   intro hs hl;obtain⟨hk,⟨L,o,hf,hn,ho,hd⟩,hr⟩:=hl;have hL:L∈X.fs:=hs L (by unfold frs;rw[List.filterMap_cons,hf];exact List.mem_cons_self)
   obtain⟨sl,e⟩:=I.base.slot L o ho (I.ok.frf L hL) hL fun z=>I.ok.exfs L z hL;exact⟨hk,⟨L,_,hf,hn,e,hd⟩,ih (fun b hb=>hs b (by unfold frs;rw[List.filterMap_cons,hf];exact List.mem_cons_of_mem _ hb)) hr⟩
 exact all X.outer (fun _ hb=>hb) I.ok.funs
theorem Inv.stack(I:Inv X pins σ H s):s.heap.FunFrames X.base X.stack:=by
 rcases I.ok.stk with e|⟨e,hf⟩
 ·rw[e];exact I.funs
 ·rw[e];obtain⟨m,hn,_⟩:=I.loc;refine .cons (by rw[I.ok.kind];decide) hf hn ?_ I.funs
  exact Heap.get?_none_of_le (Nat.le_trans I.ok.bsz I.ok.above)
theorem Inv.stkSub(I:Inv X pins σ H s):∀b∈frs X.stack,b∈X.env.locals::X.fs:=fun b hb=>by
 rcases I.ok.stk with e|⟨e,hf⟩
 ·rw[e] at hb;exact List.mem_cons_of_mem _ hb
 ·rw[e] at hb
  unfold frs at hb
  rw[List.filterMap_cons,hf] at hb
  exact hb
theorem Inv.stkFree(I:Inv X pins σ H s):∀b∈frs X.stack,H b=none:=fun b hb=>by
 rcases List.mem_cons.mp (I.stkSub b hb) with e|hb
 ·rw[e];exact I.free
 ·obtain⟨_,o,ho,_⟩:=I.ok.funs.mem hb;exact I.base.free b o ho (I.ok.frf b hb) fun z=>I.ok.exfs b z hb
theorem Inv.step{g':Array GenState}{t':Nat}{d':Drawn}{ch:List Addr}(I:Inv X pins σ H s)
  (hch:∀b∈ch,(b∈X.ex\/X.s₀.heap.objs.size<=b)/\b≠X.env.locals/\(∀x c,X.env.cells.lookup x=some c->c≠b)/\∀p∈X.pn++pins,p.1≠b)
  (keep:∀b o,b≠X.env.locals->b∉X.fs->b∉ch->s.heap.get? b=some o->H b=none->h'.get? b=some o)
  (slot:∀b o,b≠X.env.locals->b∈X.fs->b∉ch->s.heap.get? b=some o->H b=none->∃sl,h'.get? b=some {o with slots:=sl})(free:∀b o,b∉ch->s.heap.get? b=some o->H b=none->H' b=none)
  (there:∀b o,b∉ch->s.heap.get? b=some o->∃o',h'.get? b=some o')
  (tups:∀b xs,H b=some (.tup xs)->H' b=some (.tup xs))(frzs:∀b o u,H b=some (.frz o u)->H' b=some (.frz o u))(tbls:∀b ps,H b=some (.tbl ps)->∃more,H' b=some (.tbl (ps++more)))
  (ns:∀m,s.heap.Ns X.env.locals m->h'.Ns X.env.locals m)(hok:HOk X.prog X.w H' h')(hg:AllBare g'):
  Inv X pins σ H' {s with heap:=h',gens:=g',drawn:=d',toks:=t'}:=by
 have neL:∀b o,X.s₀.heap.get? b=some o->b≠X.env.locals:=fun b o e=>Nat.ne_of_lt (Nat.lt_of_lt_of_le (Heap.lt_size e) I.ok.above);have neC:∀b o,X.s₀.heap.get? b=some o->b∉X.ex->b∉ch:=fun b o e hx hb=>by
  rcases(hch b hb).1 with z|z
  ·exact hx z
  ·exact absurd (Nat.lt_of_lt_of_le (Heap.lt_size e) z) (Nat.lt_irrefl _)
 have cellK:∀x c,X.env.cells.lookup x=some c->∀v,s.heap.IsCell c v->h'.IsCell c v:=fun x c e v ⟨o,ho,hd⟩=>by
  have nch:c∉ch:=fun z=>(hch c z).2.2.1 x c e rfl
  by_cases hc:c∈X.fs
  ·obtain⟨sl,q⟩:=slot c o (I.cne x c e) hc nch ho (I.freeC x c e);exact⟨_,q,hd⟩
  ·exact⟨o,keep c o (I.cne x c e) hc nch ho (I.freeC x c e),hd⟩
 refine⟨I.ok,I.os,hg,⟨fun b o e n hb hx=> ?_,fun b o e n hb hx=> ?_,fun b o e n hx=> ?_,fun b o e hx=> ?_,fun b xs e=>tups b xs (I.base.tups b xs e),fun b o xs e=>frzs b o xs (I.base.frzs b o xs e),fun b ps e=> ?_⟩, ?_,fun x c e=> ?_, ?_,fun x c e=> ?_,fun p hp=> ?_,hok,I.len⟩
 ·exact keep b o (neL b o e) hb (neC b o e hx) (I.base.keep b o e n hb hx) (I.base.free b o e n hx)
 ·obtain⟨sl,e1⟩:=I.base.slot b o e n hb hx;obtain⟨sl',e2⟩:=slot b _ (neL b o e) hb (neC b o e hx) e1 (I.base.free b o e n hx);exact⟨sl',e2⟩
 ·obtain⟨o',e1⟩:=I.base.there b o e hx;exact free b o' (neC b o e hx) e1 (I.base.free b o e n hx)
 ·obtain⟨o',e1⟩:=I.base.there b o e hx;exact there b o' (neC b o e hx) e1
 ·obtain⟨m1,e1⟩:=I.base.tbls b ps e;obtain⟨m2,e2⟩:=tbls b _ e1;exact⟨m1++m2,by rw[e2,Array.append_assoc]⟩
 ·obtain⟨m,hn,hl⟩:=I.loc;refine⟨m,ns m hn,fun i x v e1 e2 e3=> ?_⟩;obtain⟨u,r,l⟩:=hl i x v e1 e2 e3;refine⟨u,r, ?_⟩;rcases l with l|⟨k,c,e,z⟩
  ·exact .inl l
  ·exact .inr ⟨k,c,e,cellK x c e _ z⟩
 ·obtain⟨v,z⟩:=I.cell x c e;exact⟨v,cellK x c e v z⟩
 ·obtain⟨m,⟨o,_,_,ho,_⟩,_⟩:=I.loc;exact free _ o (fun z=>(hch _ z).2.1 rfl) ho I.free
 ·obtain⟨v,o,ho,hd⟩:=I.cell x c e;exact free c o (fun z=>(hch c z).2.2.1 x c e rfl) ho (I.freeC x c e)
 ·obtain⟨e,n,ne,nf,d⟩:=I.pin p hp;have nch:p.1∉ch:=fun z=>(hch p.1 z).2.2.2 p hp rfl;exact⟨keep p.1 p.2 ne nf nch e n,free p.1 p.2 nch e n,ne,nf,d⟩
theorem Inv.un{t':Nat}(I:Inv X pins σ H s)(u:Un X.fs [] H H' s.heap h')(hok:HOk X.prog X.w H' h'):Inv X pins σ H' {s with heap:=h',toks:=t'}:=by
 obtain⟨m,⟨o,es,ep,ho,r⟩,_⟩:=id I.loc;obtain⟨sl,hL⟩:=u.any ho I.free (by simp);exact I.step (g':=s.gens) (d':=s.drawn) (ch:=[]) (fun _ z=>nomatch z) (fun b o _ hb _ e n=>u.keep b o e n hb (by simp)) (fun b o _ hb _ e n=>u.slot b o e n hb (by simp)) (fun b o _ e n=>u.free b o e n (by simp)) (fun b o _ e=>u.there b o e (by simp)) u.tups u.frzs u.tbls (fun m' hm=>by
  obtain⟨o',es',ep',ho',r'⟩:=hm;rw[ho] at ho';cases ho'
  exact⟨_,es',ep',hL,r'⟩) hok I.bare
theorem Inv.call{g':Array GenState}{t':Nat}{d':Drawn}{ch:List Addr}(I:Inv X pins σ H s)(u:Un (frs X.stack) ch H H' s.heap h')(hok:HOk X.prog X.w H' h')(hg:AllBare g')
  (hch:∀b∈ch,(b∈X.ex\/X.s₀.heap.objs.size<=b)/\b≠X.env.locals/\(∀x c,X.env.cells.lookup x=some c->c≠b)/\∀p∈X.pn++pins,p.1≠b):
  Inv X pins σ H' {s with heap:=h',gens:=g',drawn:=d',toks:=t'}:=by
 obtain⟨m,⟨o,es,ep,ho,r⟩,_⟩:=id I.loc;obtain⟨sl,hL⟩:=u.any ho I.free fun z=>(hch _ z).2.1 rfl;exact I.step (ch:=ch) hch (fun b o hL hb hc e n=>u.keep b o e n (fun z=>(List.mem_cons.mp (I.stkSub b z)).elim hL hb) hc) (fun b o _ _ hc e n=>u.any e n hc) (fun b o hc e n=>u.free b o e n hc) (fun b o hc e=>u.there b o e hc) u.tups u.frzs u.tbls (fun m' hm=>by
  obtain⟨o',es',ep',ho',r'⟩:=hm;rw[ho] at ho';cases ho'
  exact⟨_,es',ep',hL,r'⟩) hok hg
theorem Inv.turned{t':Nat}{it:Addr}(I:Inv X pins σ H s)(k:∀b o,b≠it->s.heap.get? b=some o->h'.get? b=some o)(hn:H it=none)(hL:it≠X.env.locals)
  (h1:it∈X.ex\/X.s₀.heap.objs.size<=it)(h2:∀x c,X.env.cells.lookup x=some c->c≠it)(h3:∀p∈X.pn++pins,p.1≠it):Inv X pins σ H {s with heap:=h',toks:=t'}:=by
 have nit:∀b u,H b=some u->b≠it:=fun b u e z=>by rw[z,hn] at e;cases e
 refine I.step (g':=s.gens) (d':=s.drawn) (ch:=[it]) (fun b hb=> ?_) (fun b o _ _ hc e _=>k b o (fun z=>hc (by simp[z])) e) (fun b o _ _ hc e _=>⟨o.slots,k b o (fun z=>hc (by simp[z])) e⟩) (fun _ _ _ _ n=>n)
  (fun b o hc e=>⟨o,k b o (fun z=>hc (by simp[z])) e⟩) (fun _ _ e=>e) (fun _ _ _ e=>e) (fun b ps e=>⟨#[],by rw[e];simp⟩) (fun m hm=> ?_) (fun b u e=> ?_) I.bare
 ·have e:b=it:=by simpa using hb
  subst e;exact⟨h1,hL,h2,h3⟩
 ·obtain⟨o,es,ep,ho,r⟩:=hm;exact⟨o,es,ep,k _ o (Ne.symm hL) ho,r⟩
 ·refine(I.hok b u e).stay (fun c v hc q=>k c v ?_ q) (fun _ q=>q) fun _ _ q=>q;rcases hc with z|z
  ·rw[z];exact nit b u e
  ·exact nit c _ z
theorem Inv.tok(I:Inv X pins σ H s)(t:Nat):Inv X pins σ H {s with toks:=t}:=I.un (h':=s.heap) (t':=t) Un.refl I.hok
theorem Inv.kept{t':Nat}(I:Inv X pins σ H s)(k:∀b u,s.heap.get? b=some u->h'.get? b=some u):Inv X pins σ H {s with heap:=h',toks:=t'}:=I.un (Un.kept k) (I.hok.kept k)
theorem Inv.laid{a:Addr}{o:HO}{t':Nat}(I:Inv X pins σ H s)(k:∀b u,s.heap.get? b=some u->h'.get? b=some u)(hp:s.heap.objs.size<=a)(new:Xn X.prog X.w (upd H a o) h' a o):
  Inv X pins σ (upd H a o) {s with heap:=h',toks:=t'}:=I.un (Un.laid k hp (I.hok.fresh hp)) (I.hok.laid k hp new)
theorem Inv.write{x e:Addr}{o:HO}{t':Nat}(I:Inv X pins σ H s)(mu:Mut (H x))(he:e=x\/H e=some (.own x))(k:∀b u,b≠e->s.heap.get? b=some u->h'.get? b=some u)(heo:∃u,h'.get? e=some u)
  (new:Xn X.prog X.w (upd H x o) h' x o):Inv X pins σ (upd H x o) {s with heap:=h',toks:=t'}:=I.un (Un.write mu he k heo) (I.hok.write mu he k heo new)
theorem Inv.weak{σ':List (Option V)}(I:Inv X pins σ H s)(hl:σ'.length=σ.length)(w:∀(i:Nat) v,σ'[i]? =some (some v)->σ[i]? =some (some v)):Inv X pins σ' H s:=
 ⟨I.ok,I.os,I.bare,I.base,let ⟨m,hn,hl'⟩:=I.loc;⟨m,hn,fun i x v e1 e2 e3=>hl' i x v e1 (w i v e2) e3⟩,I.cell,I.free,I.freeC,I.pin,I.hok,hl.trans I.len⟩
theorem Inv.pins_of{pins':List (Addr×Obj)}(I:Inv X pins σ H s)(h:∀p∈pins',s.heap.get? p.1=some p.2/\H p.1=none/\p.1≠X.env.locals/\p.1∉X.fs/\∀v,p.2.data≠.cell v):Inv X pins' σ H s:=
 ⟨I.ok,I.os,I.bare,I.base,I.loc,I.cell,I.free,I.freeC,fun p hp=>(List.mem_append.mp hp).elim (fun z=>I.pin p (List.mem_append_left _ z)) (h p),I.hok,I.len⟩
theorem Zd1{N:List Str}(hN:N.Nodup){i j:Nat}{x:Str}(a:N[i]? =some x)(b:N[j]? =some x):i=j:=by
 obtain⟨h1,e1⟩:=List.getElem?_eq_some_iff.mp a;obtain⟨h2,e2⟩:=List.getElem?_eq_some_iff.mp b;exact(List.getElem_inj hN).mp (e1.trans e2.symm)
theorem ZgN{M:Model}{A:Around}{E:Value->Shared->Prop}{i:Nat}{x:Str}{v:V}{u:Value}{Q:Unit->Shared->Prop}(I:Inv X pins σ H s)(hN:X.N.Nodup)(hi:X.N[i]? =some x)(hx:Loc X.env.scope x)(r:Yr v u)
  (h:∀s',Inv X pins (σ.set i (some v)) H s'->(∃a,Heap.SameBut a s.heap s'.heap/\(a=X.env.locals\/X.env.cells.lookup x=some a))->Q () s')(hf:X.fn x=true\/X.env.scope.names.lookup x=some .local:=by first|exact .inl rfl|exact .inr rfl|assumption):wpAny M A (storeName X.env x u) Q E s:=by
 obtain⟨m,hn,hl⟩:=id I.loc;have hcls:(X.env.scope.kind==.class||(X.env.scope.kind==.module&&X.env.locals !=X.env.globals))=false:=by rw[I.ok.kind];rfl
 have hiσ:i<σ.length:=by rw[I.len];exact(List.getElem?_eq_some_iff.mp hi).1
 have cne:=I.cne;have tracked:∀{a:Addr} {h':Heap},(∃o,s.heap.get? a=some o/\H a=none)->Heap.SameBut a s.heap h'->HOk X.prog X.w H h':=fun{a h'} ha hs b ob e=>by
  obtain⟨_,_,hfree⟩:=ha;refine(I.hok b ob e).stay (fun c w' hc q=>(hs.2 c ?_).trans q) (fun _ q=>q) fun _ _ q=>q;rintro rfl;rcases hc with rfl|hc
  ·rw[hfree] at e;cases e
  ·rw[hfree] at hc;cases hc
 rcases hx with hk|hk
 ·refine wpAny_storeName_local hk hn (fun h' hn' hs=> ?_) hcls;obtain⟨oL,_,_,hoL,_⟩:=id hn;refine h _ ⟨I.ok,I.os,I.bare,⟨fun b o e n hb hx=> ?_,fun b o e n hb hx=> ?_,I.base.free,fun b o e hx=> ?_,I.base.tups,I.base.frzs,I.base.tbls⟩,⟨_,hn',fun j y v' e1 e2 e3=> ?_⟩,fun y c e=> ?_,I.free,I.freeC,fun p hp=> ?_,tracked ⟨oL,hoL,I.free⟩ hs,by simpa using I.len⟩ ⟨_,hs,.inl rfl⟩
  ·exact(hs.2 b (Nat.ne_of_lt (Nat.lt_of_lt_of_le (Heap.lt_size e) I.ok.above))).trans (I.base.keep b o e n hb hx)
  ·obtain⟨sl,e1⟩:=I.base.slot b o e n hb hx;exact⟨sl,(hs.2 b (Nat.ne_of_lt (Nat.lt_of_lt_of_le (Heap.lt_size e) I.ok.above))).trans e1⟩
  ·obtain⟨o',e1⟩:=I.base.there b o e hx;exact⟨o',(hs.2 b (Nat.ne_of_lt (Nat.lt_of_lt_of_le (Heap.lt_size e) I.ok.above))).trans e1⟩
  ·by_cases hj:j=i
   ·subst hj;rw[hi] at e1;cases e1
    rw[List.getElem?_set_self hiσ] at e2
    cases e2;exact⟨u,r,.inl ⟨hk,by simp⟩⟩
   ·rw[List.getElem?_set_ne (Ne.symm hj)] at e2
    obtain⟨u',r',q⟩:=hl j y v' e1 e2 e3;refine⟨u',r', ?_⟩;rcases q with ⟨k,e⟩|⟨k,c,e,z⟩
    ·refine .inl ⟨k, ?_⟩;have:y≠x:=fun e=>hj (Zd1 hN e1 (e▸hi));simp[this,e]
    ·exact .inr ⟨k,c,e,z.sameBut hs (cne y c e)⟩
  ·obtain⟨w',z⟩:=I.cell y c e;exact⟨w',z.sameBut hs (cne y c e)⟩
  ·obtain⟨e,n,ne,nf,d⟩:=I.pin p hp;exact⟨(hs.2 p.1 ne).trans e,n,ne,nf,d⟩
 ·have hfn:X.fn x=true:=by
   rcases hf with z|z
   ·exact z
   ·rw[z] at hk;cases hk
  obtain⟨c,hc⟩:=I.ok.has x (.inl hk);obtain⟨w',z⟩:=I.cell x c hc;refine wpAny_storeName_cell I.ok.kind hk hc z (fun h' hc' hs=> ?_);obtain⟨oc,hoc,hocd⟩:=id z;refine h {s with heap:=h'} ⟨I.ok,I.os,I.bare,⟨fun b o e n hb hx=> ?_,fun b o e n hb hx=> ?_,I.base.free,fun b o e hx=> ?_,I.base.tups,I.base.frzs,I.base.tbls⟩,⟨m,hn.sameBut hs (Ne.symm (cne x c hc)),fun j y v' e1 e2 e3=> ?_⟩,fun y c' e=> ?_,I.free,I.freeC,fun p hp=> ?_,tracked ⟨oc,hoc,I.freeC x c hc⟩ hs,by simpa using I.len⟩ ⟨c,hs,.inr hc⟩
  ·exact(hs.2 b (Nat.ne_of_lt (Nat.lt_of_lt_of_le (Heap.lt_size e) (I.ok.cab x c hfn hc)))).trans (I.base.keep b o e n hb hx)
  ·obtain⟨sl,e1⟩:=I.base.slot b o e n hb hx;exact⟨sl,(hs.2 b (Nat.ne_of_lt (Nat.lt_of_lt_of_le (Heap.lt_size e) (I.ok.cab x c hfn hc)))).trans e1⟩
  ·obtain⟨o',e1⟩:=I.base.there b o e hx;exact⟨o',(hs.2 b (Nat.ne_of_lt (Nat.lt_of_lt_of_le (Heap.lt_size e) (I.ok.cab x c hfn hc)))).trans e1⟩
  ·by_cases hj:j=i
   ·subst hj;rw[hi] at e1;cases e1
    rw[List.getElem?_set_self hiσ] at e2
    cases e2;exact⟨u,r,.inr ⟨.inl hk,c,hc,hc'⟩⟩
   ·rw[List.getElem?_set_ne (Ne.symm hj)] at e2
    obtain⟨u',r',q⟩:=hl j y v' e1 e2 e3;refine⟨u',r', ?_⟩;rcases q with q|⟨k,c',e,z'⟩
    ·exact .inl q
    ·refine .inr ⟨k,c',e,z'.sameBut hs ?_⟩;rintro rfl;exact hj (Zd1 hN e1 (I.ok.inj _ _ _ e hc▸hi))
  ·by_cases hcc:c'=c
   ·subst hcc;exact⟨_,hc'⟩
   ·obtain⟨w2,z2⟩:=I.cell y c' e;exact⟨w2,z2.sameBut hs hcc⟩
  ·obtain⟨e,n,ne,nf,d⟩:=I.pin p hp;refine⟨(hs.2 p.1 ?_).trans e,n,ne,nf,d⟩;intro q;rw[q,hoc] at e
   have q':oc=p.2:=Option.some.inj e;exact d w' (by rw[<-q'];exact hocd)
theorem ZbU{M:Model}{A:Around}{E:Value->Shared->Prop}{i:Nat}{x:Str}{v:V}{u:Value}{Q:Unit->Shared->Prop}(I:Inv X pins σ H s)(hN:X.N.Nodup)(hi:X.N[i]? =some x)(hx:Loc X.env.scope x)(r:Yr v u)
  (h:∀s',Inv X pins (σ.set i (some v)) H s'->Q () s')(hf:X.fn x=true\/X.env.scope.names.lookup x=some .local:=by first|exact .inl rfl|exact .inr rfl|assumption):wpAny M A (storeName X.env x u) Q E s:=
 ZgN I hN hi hx r (fun s' I' _=>h s' I') hf
theorem Inv.call'{s':Shared}{ch:List Addr}(I:Inv X pins σ H s)(ho:s'.os=s.os)(u:Un (frs X.stack) ch H H' s.heap s'.heap)(hok:HOk X.prog X.w H' s'.heap)(hg:AllBare s'.gens)
  (hch:∀b∈ch,(b∈X.ex\/X.s₀.heap.objs.size<=b)/\b≠X.env.locals/\(∀x c,X.env.cells.lookup x=some c->c≠b)/\∀p∈X.pn++pins,p.1≠b):Inv X pins σ H' s':=by
 obtain⟨h',g',d',t',o'⟩:=s';have e:o'=s.os:=ho;subst e;exact I.call (g':=g') (t':=t') (d':=d') u hok hg hch
end
abbrev XK:=Value->Option Addr->Hp->Prop
abbrev St:=List (Option V)
abbrev VK:=V->Hp->Prop
abbrev TE:=St->Hp->VK->Prop
abbrev TT:=St->Hp->(Bool->Hp->Prop)->Prop
abbrev TA:=St->Hp->(List V->Hp->Prop)->Prop
structure ZbV where
 nx:St->Hp->Prop
 rt:VK
 bk:St->Hp->Prop:=fun _ _=>False
 ct:St->Hp->Prop:=fun _ _=>False
abbrev TS:=ZbV->St->Hp->Prop
def EP(X:Cx)(pins:List (Addr×Obj))(σ:St)(Q:VK)(u:Value)(s':Shared):Prop:=∃v H',Inv X pins σ H' s'/\Yr v u/\Q v H'
def TP(X:Cx)(pins:List (Addr×Obj))(σ:St)(Q:Bool->Hp->Prop)(b:Bool)(s':Shared):Prop:=∃H',Inv X pins σ H' s'/\Q b H'
def AP(X:Cx)(pins:List (Addr×Obj))(σ:St)(Q:List V->Hp->Prop)(us:List Value)(s':Shared):Prop:=∃vs H',Inv X pins σ H' s'/\ZZ vs us/\Q vs H'
def SP(X:Cx)(pins:List (Addr×Obj))(D:ZbV)(f:Flow)(s':Shared):Prop:=
 match f with
 | .next=>∃σ' H',Inv X pins σ' H' s'/\D.nx σ' H'
 | .brk=>∃σ' H',Inv X pins σ' H' s'/\D.bk σ' H'
 | .cont=>∃σ' H',Inv X pins σ' H' s'/\D.ct σ' H'
 | .ret u=>∃v σ' H',Inv X pins σ' H' s'/\Yr v u/\D.rt v H'
def PE(X:Cx)(e:Expr)(t:TE):Prop:=
 ∀(pins:List (Addr×Obj)) (s:Shared) (σ:St) (H:Hp) (Q:VK),Inv X pins σ H s->t σ H Q->wpAny (model X.prog X.w) X.A (eval e X.env) (EP X pins σ Q) X.xe s
def PT(X:Cx)(e:Expr)(t:TT):Prop:=
 ∀(pins:List (Addr×Obj)) (s:Shared) (σ:St) (H:Hp) (Q:Bool->Hp->Prop),Inv X pins σ H s->t σ H Q->wpAny (model X.prog X.w) X.A (isTrue e X.env (eval e X.env)) (TP X pins σ Q) X.xe s
def PW(X:Cx)(e:Expr)(t:TT):Prop:=
 ∀(whole:Sem Value) (pins:List (Addr×Obj)) (s:Shared) (σ:St) (H:Hp) (Q:Bool->Hp->Prop),Inv X pins σ H s->t σ H Q->wpAny (model X.prog X.w) X.A (isTrue e X.env whole) (TP X pins σ Q) X.xe s
theorem PW.pt{X:Cx}{e:Expr}{t:TT}(h:PW X e t):PT X e t:=h _
def PA(X:Cx)(es:List Expr)(t:TA):Prop:=
 ∀(pos:Pos) (pins:List (Addr×Obj)) (s:Shared) (σ:St) (H:Hp) (Q:List V->Hp->Prop),Inv X pins σ H s->t σ H Q->wpAny (model X.prog X.w) X.A (spliced (backTo pos (starEach es X.env))) (AP X pins σ Q) X.xe s
def PS(X:Cx)(st:Stmt)(t:TS):Prop:=
 ∀(pins:List (Addr×Obj)) (s:Shared) (σ:St) (H:Hp) (D:ZbV),Inv X pins σ H s->t D σ H->wpAny (model X.prog X.w) X.A (exec st X.env) (SP X pins D) X.xe s
def PSs(X:Cx)(st:List Stmt)(t:TS):Prop:=
 ∀(pins:List (Addr×Obj)) (s:Shared) (σ:St) (H:Hp) (D:ZbV),Inv X pins σ H s->t D σ H->wpAny (model X.prog X.w) X.A (execs st X.env) (SP X pins D) X.xe s
theorem thn{α:Type}{t:Sem α}{Q Q':α->Shared->Prop}{M:Model}{A:Around}{E:Value->Shared->Prop}{s:Shared}(h:wpAny M A t Q E s)(hQ:∀a s,Q a s->Q' a s):wpAny M A t Q' E s:=wpAny_mono h hQ fun _ _ x=>x
end L2
namespace L2
open PySem PySem.Spec PyProof.Rows
section
variable {X:Cx}
def ZgO(i:Nat):TE:=fun σ H Q=>∃v,σ[i]? =some (some v)/\Q v H
def tC(v:V):TE:=fun _ H Q=>Q v H
theorem Zjm{i:Nat}{x:Str}{pos:Pos}(hN:X.N[i]? =some x)(hv:Vis X.env.scope x)(hd:(x==("__debug__":Str))=false:=by decide)(hcd:(x==("__classdict__":Str))=false:=by decide):PE X (.Name x pos) (ZgO i):=by
 intro pins s σ H Q I h;obtain⟨v,e,h⟩:=h;obtain⟨m,hn,hl⟩:=I.loc;obtain⟨u,r,l⟩:=hl i x v hN e hv;have fin:EP X pins σ Q u s:=⟨v,H,I,r,h⟩
 rcases l with ⟨hk,hm⟩|⟨hk,c,hc,hcell⟩
 ·exact wpAny_Name (wpAny_loadName_local I.ok.kind hk hn hm fin) hd
 ·rcases hk with hk|hk
  ·exact wpAny_Name (wpAny_loadName_cell I.ok.kind hk hc hcell fin) hd
  ·exact wpAny_Name (wpAny_loadName_free I.ok.kind hk hc hcell fin hcd) hd
theorem Zm{i j pos}:PE X (.Constant (.int i) j pos) (tC (.int i)):=fun _ _ _ H _ I h=>wpAny_Constant_int ⟨.int i,H,I.tok _,⟨_,rfl⟩,h⟩
theorem Zar{b j pos}:PE X (.Constant (.bool b) j pos) (tC (.bl b)):=fun _ _ _ H _ I h=>Constant_bool ⟨.bl b,H,I,rfl,h⟩
theorem Zd2{j pos}:PE X (.Constant .none j pos) (tC .non):=fun _ _ _ H _ I h=>Constant_none ⟨.non,H,I,rfl,h⟩
theorem Zx{x j pos}:PE X (.Constant (.str x) j pos) (tC (.str x)):=fun _ _ _ H _ I h=>Calls.Constant_str ⟨.str x,H,I.tok _,⟨_,rfl⟩,h⟩
def Gl(X:Cx)(x:Str):Prop:=X.env.kindOf x=some .globalImplicit
theorem XC{E:Value->Shared->Prop}{pins:List (Addr×Obj)}{s:Shared}{σ:St}{H:Hp}{x:Str}{u:Value}{pos:Pos}{Q:Value->Shared->Prop}(I:Inv X pins σ H s)(hg:Gl X x)(hm:X.mg x=some u)(h:Q u s)
  (hd:(x==("__debug__":Str))=false:=by decide):wpAny (model X.prog X.w) X.A (eval (.Name x pos) X.env) Q E s:=
 Calls.Name_function_global I.ok.kind hg (Calls.loadGlobal_global (by rw[I.ok.glob];exact I.mod.glob.keeps I.bk) hm h) hd
theorem Zci{E:Value->Shared->Prop}{pins:List (Addr×Obj)}{s:Shared}{σ:St}{H:Hp}{x:Str}{u:Value}{pos:Pos}{Q:Value->Shared->Prop}(I:Inv X pins σ H s)(hg:Gl X x)(hm:X.mg x=none)(hv:bootBuiltins x=some u)(h:Q u s)
  (hn:x≠"__name__":=by decide)(hd:(x==("__debug__":Str))=false:=by decide):wpAny (model X.prog X.w) X.A (eval (.Name x pos) X.env) Q E s:=by
 obtain⟨mb,h1,h2⟩:=I.mod.blt;exact Calls.Name_function_global I.ok.kind hg (Calls.loadGlobal_builtin (by rw[I.ok.glob];exact I.mod.glob.keeps I.bk) hm (by rw[I.ok.blt];exact h1.keeps I.bk) ((h2 x hn).trans hv) h) hd
theorem Ye{x:Str}{v:V}{u:Value}{pos:Pos}(hg:Gl X x)(hm:X.mg x=some u)(r:Yr v u)(hd:(x==("__debug__":Str))=false:=by decide):PE X (.Name x pos) (tC v):=
 fun _ _ _ H _ I h=>XC I hg hm ⟨v,H,I,r,h⟩ hd
theorem Ziq{x:Str}{v:V}{u:Value}{pos:Pos}(hg:Gl X x)(hm:X.mg x=none)(hv:bootBuiltins x=some u)(r:Yr v u)(hn:x≠"__name__":=by decide)(hd:(x==("__debug__":Str))=false:=by decide):PE X (.Name x pos) (tC v):=
 fun _ _ _ H _ I h=>Zci I hg hm hv ⟨v,H,I,r,h⟩ hn hd
variable {a b:Expr} {ta tb:TE} {pos:Pos}
def tB(t:TE):TT:=fun σ H Q=>t σ H fun x H1=>∃c,x=.bl c/\Q c H1
theorem XD{e:Expr}{t:TE}(h:PE X e t)(he:∀whole,isTrue e X.env whole=(do let v<-whole;standAt e.pos;holding [v] (truthy v)):=by intro _;rfl):PT X e (tB t):=by
 intro pins s σ H Q I hw;refine isTrue_plain (thn (h pins s σ H _ I hw) fun v s1 ⟨x,H1,I1,r1,q1⟩=> ?_) (he _);obtain⟨d,rfl,q⟩:=q1;cases r1;exact wpAny_truthy_bool ⟨H1,I1,q⟩
variable {tA tB':TT} {rest:List Expr}
def ZkN(t u:TT):TT:=fun σ H Q=>t σ H fun c H1=>if c=true then u σ H1 Q else Q false H1
def tOr(t u:TT):TT:=fun σ H Q=>t σ H fun c H1=>if c=true then Q true H1 else u σ H1 Q
def ZkO(t:TT):TT:=fun σ H Q=>t σ H fun c H1=>Q (!c) H1
theorem ZcT(ha:PT X a tA):PW X (.BoolOp .And [a] pos) tA:=by
 intro wh pins s σ H Q I h;refine isTrue_and (thn (ha pins s σ H Q I h) fun c s1 e=> ?_);cases c with
 |true=>exact isTrue_and_nil e
 |false=>exact e
theorem Zcj(ha:PT X a tA):PW X (.BoolOp .Or [a] pos) tA:=by
 intro wh pins s σ H Q I h;refine isTrue_or (thn (ha pins s σ H Q I h) fun c s1 e=> ?_);cases c with
 |false=>exact isTrue_or_nil e
 |true=>exact e
theorem Zeq(ha:PT X a tA)(hb:PW X (.BoolOp .And (b::rest) pos) tB'):PW X (.BoolOp .And (a::b::rest) pos) (ZkN tA tB'):=by
 intro wh pins s σ H Q I h;refine isTrue_and (thn (ha pins s σ H _ I h) fun c s1 ⟨H1,I1,q1⟩=> ?_);cases c with
 |true=>exact hb wh pins s1 σ H1 Q I1 q1
 |false=>exact⟨H1,I1,q1⟩
theorem ZbW(ha:PT X a tA)(hb:PW X (.BoolOp .Or (b::rest) pos) tB'):PW X (.BoolOp .Or (a::b::rest) pos) (tOr tA tB'):=by
 intro wh pins s σ H Q I h;refine isTrue_or (thn (ha pins s σ H _ I h) fun c s1 ⟨H1,I1,q1⟩=> ?_);cases c with
 |true=>exact⟨H1,I1,q1⟩
 |false=>exact hb wh pins s1 σ H1 Q I1 q1
theorem XF(ha:PT X a tA):PT X (.UnaryOp .Not a pos) (ZkO tA):=by
 intro pins s σ H Q I h;exact isTrue_not (ha pins s σ H (fun c H1=>Q (!c) H1) I h)
def Zk1(ta tb:TE):TE:=fun σ H Q=>ta σ H fun x H1=>∃c,x=.bl c/\if c=true then tb σ H1 Q else Q (.bl false) H1
def ZkP(ta tb:TE):TE:=fun σ H Q=>ta σ H fun x H1=>∃c,x=.bl c/\if c=true then Q (.bl true) H1 else tb σ H1 Q
def Zk2(ta:TE):TE:=fun σ H Q=>ta σ H fun x H1=>∃c,x=.bl c/\Q (.bl (!c)) H1
theorem Zd3{op}{t:TE}(h:PE X a t):PE X (.BoolOp op [a] pos) t:=fun pins s σ H Q I hw=>BoolOp_one (h pins s σ H Q I hw)
theorem ZaZ(ha:PE X a ta)(hb:PE X (.BoolOp .And (b::rest) pos) tb):PE X (.BoolOp .And (a::b::rest) pos) (Zk1 ta tb):=by
 intro pins s σ H Q I h;refine BoolOp_and (thn (ha pins s σ H _ I h) fun v s1 ⟨x,H1,I1,r1,q1⟩=> ?_);obtain⟨c,rfl,q1⟩:=q1;cases r1;refine wpAny_truthy_bool ?_;cases c with
 |true=>exact hb pins s1 σ H1 Q I1 q1
 |false=>exact⟨.bl false,H1,I1,rfl,q1⟩
theorem Zk3(ha:PE X a ta)(hb:PE X (.BoolOp .Or (b::rest) pos) tb):PE X (.BoolOp .Or (a::b::rest) pos) (ZkP ta tb):=by
 intro pins s σ H Q I h;refine BoolOp_or (thn (ha pins s σ H _ I h) fun v s1 ⟨x,H1,I1,r1,q1⟩=> ?_);obtain⟨c,rfl,q1⟩:=q1;cases r1;refine wpAny_truthy_bool ?_;cases c with
 |false=>exact hb pins s1 σ H1 Q I1 q1
 |true=>exact⟨.bl true,H1,I1,rfl,q1⟩
theorem Zjn(ha:PE X a ta):PE X (.UnaryOp .Not a pos) (Zk2 ta):=by
 intro pins s σ H Q I h;refine UnaryOp_ (thn (ha pins s σ H _ I h) fun v s1 ⟨x,H1,I1,r1,q1⟩=> ?_);obtain⟨c,rfl,q1⟩:=q1;cases r1;exact not_of (wpAny_truthy_bool ⟨.bl (!c),H1,I1,rfl,q1⟩)
end
end L2
namespace L2
open PySem PySem.Spec PyProof.Rows
def SqL(K:PySem.W.Frag)(H:Hp)(a:Addr)(xs:List V):Prop:=
 Rd H a (.lst xs)\/
  ∃(o:Obj) (its:Array Value) (n:Nat),K.lookup a=some o/\o.cls=.type "list"/\o.dict=none/\o.data=.seq its n/\its.size<=sizeLine/\ZZ xs its.toList
def SqT(K:PySem.W.Frag)(H:Hp)(a:Addr)(xs:List V):Prop:=
 Rd H a (.tup xs)\/
  ∃(o:Obj) (its:Array Value) (n:Nat),K.lookup a=some o/\o.cls=.type "tuple"/\o.data=.seq its n/\its.size<=sizeLine/\ZZ xs its.toList
def ZkQ:Value->Option V
 | .none=>some .non
 | .bool b=>some (.bl b)
 | .int i _=>some (.int i)
 | .str x _=>some (.str x)
 | .bytes b _=>some (.byt b)
 | .float b _=>some (.flt b)
 | .ref a=>some (.ref a)
 | .type n=>some (.ty n)
 |_=>none
theorem Yr.abs{x:V}{u:Value}(r:Yr x u):ZkQ u=some x:=by
 cases x with
 |non=>cases r;rfl
 |bl _=>cases r;rfl
 |int _=>obtain⟨t,rfl⟩:=r;rfl
 |str _=>obtain⟨t,rfl⟩:=r;rfl
 |byt _=>obtain⟨t,rfl⟩:=r;rfl
 |flt _=>obtain⟨t,rfl⟩:=r;rfl
 |ref _=>cases r;rfl
 |ty _=>cases r;rfl
theorem Yr.inj{x y:V}{u:Value}(r:Yr x u)(q:Yr y u):x=y:=Option.some.inj (r.abs.symm.trans q.abs)
theorem ZZ.inj:∀{xs ys:List V} {us:List Value},ZZ xs us->ZZ ys us->xs=ys
 |_,_,_,.nil,.nil=>rfl
 |_,_,_,.cons r t,.cons r' t'=>by rw[r.inj r',ZZ.inj t t']
section
variable {X:Cx} {pins:List (Addr×Obj)} {σ:St} {H:Hp} {s:Shared} {a:Addr} {xs ys:List V}
theorem SqL.of{K:PySem.W.Frag}(h:H a=some (.lst xs)):SqL K H a xs:=.inl (.inl h)
theorem SqT.of{K:PySem.W.Frag}(h:H a=some (.tup xs)):SqT K H a xs:=.inl (.inl h)
theorem Inv.list(I:Inv X pins σ H s)(h:SqL X.K H a xs):∃its:List Value,ZZ xs its/\PlainL s.heap a its.toArray/\xs.length<=sizeLine:=by
 rcases h with h|⟨o,its,n,hk,hc,hd,hs,hz,r⟩
 ·obtain⟨z,its,n,r,e⟩:=h.ok I.hok;exact⟨its,r,⟨_,n,e,rfl,rfl,rfl⟩,z⟩
 ·refine⟨its.toList,r,⟨o,n,I.kIn a o hk,hc,hd,by simpa using hs⟩, ?_⟩;have e:=r.length;simp only [Array.length_toList] at e
  omega
theorem Inv.tuple(I:Inv X pins σ H s)(h:SqT X.K H a xs):∃its:List Value,ZZ xs its/\IsTup s.heap a its.toArray/\xs.length<=sizeLine:=by
 rcases h with h|⟨o,its,n,hk,hc,hs,hz,r⟩
 ·obtain⟨z,its,r,p⟩:=h.ok I.hok;exact⟨its,r,p,z⟩
 ·refine⟨its.toList,r,⟨o,I.kIn a o hk,hc,n,by simpa using hs⟩, ?_⟩;have e:=r.length;simp only [Array.length_toList] at e
  omega
theorem Inv.list_inj(I:Inv X pins σ H s)(h:SqL X.K H a xs)(h':SqL X.K H a ys):xs=ys:=by
 obtain⟨its,r,⟨o,n,e,_,_,d⟩,_⟩:=I.list h;obtain⟨its',r',⟨o',n',e',_,_,d'⟩,_⟩:=I.list h';rw[e] at e';cases e'
 rw[d] at d'
 injection d' with d1 _
 have:its=its':=by simpa using congrArg Array.toList d1
 subst this;exact r.inj r'
theorem Inv.tuple_inj(I:Inv X pins σ H s)(h:SqT X.K H a xs)(h':SqT X.K H a ys):xs=ys:=by
 obtain⟨its,r,⟨o,e,_,n,d⟩,_⟩:=I.tuple h;obtain⟨its',r',⟨o',e',_,n',d'⟩,_⟩:=I.tuple h';rw[e] at e';cases e'
 rw[d] at d'
 injection d' with d1 _
 have:its=its':=by simpa using congrArg Array.toList d1
 subst this;exact r.inj r'
end
abbrev Cx.wish(X:Cx)(E:Value->Shared->Prop):Cx:={X with xe:=E}
abbrev Cx.nox(X:Cx):Cx:=X.wish fun _ _=>False
theorem Cx.Ok.wish{X:Cx}(ok:X.Ok)(E:Value->Shared->Prop):(X.wish E).Ok:=
 ⟨ok.mod,ok.kind,ok.glob,ok.blt,ok.above,ok.inj,ok.has,ok.cab,ok.hd,ok.frames,ok.stk,ok.exf,ok.bs,ok.bsz,ok.noex,ok.exfs,ok.funs,ok.frf⟩
theorem Cx.Ok.unwish{X:Cx}{E:Value->Shared->Prop}(ok:(X.wish E).Ok):X.Ok:=
 ⟨ok.mod,ok.kind,ok.glob,ok.blt,ok.above,ok.inj,ok.has,ok.cab,ok.hd,ok.frames,ok.stk,ok.exf,ok.bs,ok.bsz,ok.noex,ok.exfs,ok.funs,ok.frf⟩
section
variable {X:Cx} {pins:List (Addr×Obj)} {σ:St} {H:Hp} {s:Shared} {E:Value->Shared->Prop}
theorem Inv.wish(I:Inv X pins σ H s)(E:Value->Shared->Prop):Inv (X.wish E) pins σ H s:=⟨I.ok.wish E,I.os,I.bare,I.base,I.loc,I.cell,I.free,I.freeC,I.pin,I.hok,I.len⟩
theorem Inv.unwish(I:Inv (X.wish E) pins σ H s):Inv X pins σ H s:=⟨I.ok.unwish,I.os,I.bare,I.base,I.loc,I.cell,I.free,I.freeC,I.pin,I.hok,I.len⟩
theorem SP.unwish{D:ZbV}{f:Flow}{s':Shared}(h:SP (X.wish E) pins D f s'):SP X pins D f s':=by
 cases f with
 |next=>obtain⟨σ',H',I,q⟩:=h;exact⟨σ',H',I.unwish,q⟩
 |brk=>obtain⟨σ',H',I,q⟩:=h;exact⟨σ',H',I.unwish,q⟩
 |cont=>obtain⟨σ',H',I,q⟩:=h;exact⟨σ',H',I.unwish,q⟩
 |ret u=>obtain⟨v,σ',H',I,r,q⟩:=h;exact⟨v,σ',H',I.unwish,r,q⟩
theorem PSs.nox{st:List Stmt}{t:TS}(h:PSs X.nox st t):PSs X st t:=fun pins s σ H D I hw=>
 wpAny_mono (h pins s σ H D (I.wish _) hw) (fun _ _ q=>q.unwish) fun _ _ z=>False.elim z
end
section
variable {X:Cx} {st:Stmt} {rest:List Stmt} {t u:TS} {e:Expr} {te:TE} {pos:Pos}
def Zk4:TS:=fun D σ H=>D.nx σ H
def Zjo(t u:TS):TS:=fun D σ H=>t {D with nx:=u D} σ H
theorem ZM:PSs X [] Zk4:=fun _ _ σ H _ I h=>wpAny_execs_nil ⟨σ,H,I,h⟩
theorem Zg(h1:PS X st t)(h2:PSs X rest u):PSs X (st::rest) (Zjo t u):=by
 intro pins s σ H D I h;refine wpAny_execs_cons (thn (h1 pins s σ H {D with nx:=u D} I h) fun f s1 q=> ?_);cases f with
 |next=>
  obtain⟨σ',H',I',q⟩:=q;exact h2 pins s1 σ' H' D I' q
 |ret v=>exact q
 |brk=>exact q
 |cont=>exact q
theorem Zk(h1:PS X st t):PSs X [st] t:=by
 intro pins s σ H D I h;refine wpAny_execs_cons (thn (h1 pins s σ H D I h) fun f s1 q=> ?_);cases f with
 |next=>exact wpAny_execs_nil q
 |ret v=>exact q
 |brk=>exact q
 |cont=>exact q
theorem Inv.quiet{pins:List (Addr×Obj)}{σ:St}{H:Hp}{s:Shared}(I:Inv X pins σ H s):interactive X.env=false:=by simp[interactive,I.ok.kind]
def Zk5(te:TE):TS:=fun D σ H=>te σ H fun _ H1=>D.nx σ H1
theorem ZcU(he:PE X e te)(hs:swapsWith e none pos.line X.env=pure false:=by rfl):PS X (.Expr e pos) (Zk5 te):=by
 intro pins s σ H D I h;exact wpAny_Expr_any (thn (he pins s σ H _ I h) fun v s1 ⟨x,H1,I1,r1,q1⟩=>⟨σ,H1,I1,q1⟩) I.quiet hs
def Zk6(te:TE):TS:=fun D σ H=>te σ H D.rt
theorem ZC(he:PE X e te):PS X (.Return (some e) pos) (Zk6 te):=by
 intro pins s σ H D I h;exact wpAny_Return_some (thn (he pins s σ H _ I h) fun v s1 ⟨x,H1,I1,r1,q1⟩=>⟨x,σ,H1,I1,r1,q1⟩)
def ZkR(c:TT)(t u:TS):TS:=fun D σ H=>c σ H fun b H1=>if b=true then t D σ H1 else u D σ H1
theorem Yc{c:Expr}{a b:List Stmt}{tc:TT}(hc:PT X c tc)(ha:PSs X a t)(hb:PSs X b u):PS X (.If c a b pos) (ZkR tc t u):=by
 intro pins s σ H D I h;refine wpAny_If (thn (hc pins s σ H _ I h) fun d s1 ⟨H1,I1,q1⟩=> ?_);cases d with
 |true=>exact ha pins s1 σ H1 D I1 q1
 |false=>exact hb pins s1 σ H1 D I1 q1
end
abbrev TG:=V->St->Hp->(St->Hp->Prop)->Prop
def PG(X:Cx)(target:Expr)(t:TG):Prop:=
 ∀(pins:List (Addr×Obj)) (s:Shared) (σ:St) (H:Hp) (v:V) (u:Value) (Q:St->Hp->Prop),Inv X pins σ H s->Yr v u->t v σ H Q->
  wpAny (model X.prog X.w) X.A (assign target X.env u) (fun _ s'=>∃σ' H',Inv X pins σ' H' s'/\Q σ' H') X.xe s
section
variable {X:Cx} {pos:Pos}
def Zgm(i:Nat):TG:=fun v σ H Q=>Q (σ.set i (some v)) H
theorem XH{i:Nat}{x:Str}(hN:X.N.Nodup)(hi:X.N[i]? =some x)(hx:Loc X.env.scope x)(hf:X.fn x=true\/X.env.scope.names.lookup x=some .local:=by first|exact .inl rfl|exact .inr rfl|assumption):PG X (.Name x pos) (Zgm i):=by
 intro pins s σ H v u Q I r h;exact wpAny_assign_Name (ZbU I hN hi hx r (fun s' I'=>⟨_,H,I',h⟩) hf)
def Zk7(te:TE)(g:TG):TS:=fun D σ H=>te σ H fun x H1=>g x σ H1 D.nx
theorem ZR{i:Nat}{x:Str}{e:Expr}{te:TE}{pos':Pos}(hN:X.N.Nodup)(hi:X.N[i]? =some x)(hx:Loc X.env.scope x)(he:PE X e te)(hs:swapsWith e (some (.Name x pos')) pos.line X.env=pure false:=by rfl)(hf:X.fn x=true\/X.env.scope.names.lookup x=some .local:=by first|exact .inl rfl|exact .inr rfl|assumption):
  PS X (.Assign [.Name x pos'] e pos) (Zk7 te (Zgm i)):=by
 intro pins s σ H D I h;refine wpAny_Assign_Name (thn (he pins s σ H _ I h) fun v s1 ⟨y,H1,I1,r1,q1⟩=> ?_) hs;exact ZbU I1 hN hi hx r1 (fun s2 I2=>⟨_,H1,I2,q1⟩) hf
end
section
variable {X:Cx} {pos:Pos}
def Zjp(c:TT)(tb:TS):TS:=fun D σ H=>∃W:Nat->St->Hp->Prop,(∃m,W m σ H)/\∀m σ H,W m σ H->
 c σ H fun b H1=>if b=true then∃N:St->Hp->Prop,(∀σ' H',N σ' H'->∃m',m'<m/\W m' σ' H')/\tb {D with nx:=N,ct:=N,bk:=D.nx} σ H1 else D.nx σ H1
theorem Zfa{c:Expr}{body:List Stmt}{tc:TT}{tb:TS}(hp:PassesOwn (model X.prog X.w) X.A X.env X.xe)(hc:PT X c tc)(hb:PSs X body tb):PS X (.While c body [] pos) (Zjp tc tb):=by
 intro pins s σ H D I h;obtain⟨W,⟨m0,w0⟩,turn⟩:=h;refine wpAny_While (codeAny_whileLoop (fun n s'=>∃σ' H',Inv X pins σ' H' s'/\W n σ' H') ?_ m0 ⟨σ,H,I,w0⟩);rintro n s1 ⟨σ1,H1,I1,w1⟩;refine wpAny_passesOwn hp (thn (hc pins s1 σ1 H1 _ I1 (turn n σ1 H1 w1)) fun b s2 ⟨H2,I2,q2⟩=> ?_);cases b with
 |true=>
  obtain⟨N,hN,q2⟩:=q2;rw[if_pos rfl];refine wpAny_passesOwn hp (thn (hb pins s2 σ1 H2 _ I2 q2) fun f s3 q3=> ?_);cases f with
  |next=>
   obtain⟨σ3,H3,I3,n3⟩:=q3;obtain⟨m',hm,w3⟩:=hN σ3 H3 n3;exact⟨m',hm,σ3,H3,I3,w3⟩
  |cont=>
   obtain⟨σ3,H3,I3,n3⟩:=q3;obtain⟨m',hm,w3⟩:=hN σ3 H3 n3;exact⟨m',hm,σ3,H3,I3,w3⟩
  |brk=>exact q3
  |ret v=>exact q3
 |false=>
  rw[if_neg Bool.false_ne_true];exact wpAny_execs_nil ⟨σ1,H2,I2,q2⟩
end
structure It where
 go:Nat->Hp->Prop
 yld:Nat->Hp->V->Hp->Prop
 stop:Nat->Hp->Prop
def ZdM(X:Cx)(pins:List (Addr×Obj))(H:Hp)(b:Addr):Prop:=
 H b=none/\b≠X.env.locals/\b∉X.fs/\(b∈X.ex\/X.s₀.heap.objs.size<=b)/\(∀x c,X.env.cells.lookup x=some c->c≠b)/\∀p∈X.pn++pins,p.1≠b
theorem Inv.fpOk{X:Cx}{pins:List (Addr×Obj)}{σ:St}{H H':Hp}{s:Shared}{b:Addr}(I:Inv X pins σ H s)(hb:s.heap.objs.size<=b)(hn:H' b=none):ZdM X pins H' b:=by
 refine⟨hn,Nat.ne_of_gt (Nat.lt_of_lt_of_le I.lt hb),I.nofs hb,.inr (Nat.le_trans I.sz hb),fun x c e z=> ?_,fun p hp z=> ?_⟩
 ·obtain⟨v,q⟩:=I.cell x c e;exact absurd (Nat.lt_of_lt_of_le q.lt (by rw[z];exact hb)) (Nat.lt_irrefl _)
 ·exact absurd (Nat.lt_of_lt_of_le (Heap.lt_size (I.pin p hp).1) (by rw[z];exact hb)) (Nat.lt_irrefl _)
structure Zhh (P:Program) (w:World) (K:PySem.W.Frag) (tg:Expr) (J:It) (fp:List Addr) (it:Addr) (tn:Nat->Heap->Prop):Prop where
 mem:it∈fp
 obj:∀i h,tn i h->∀b∈fp,∃o,h.get? b=some o/\∀v,o.data≠.cell v
 keep:∀i h h',tn i h->(∀b∈fp,∀o,h.get? b=some o->h'.get? b=some o)->tn i h'
 item:∀(X:Cx),X.prog=P->X.w=w->X.K=K->X.calm=true->∀(i:Nat) (pins:List (Addr×Obj)) (s:Shared) (σ:St) (H:Hp) (E:Value->Shared->Prop),Inv X pins σ H s->(∀b∈fp,ZdM X pins H b)->tn i s.heap->J.go i H->
  wpAny (model P w) X.A (pyNext (.ref it)) (fun r s1=>∃u,r=some u/\
   wpAny (model P w) X.A (letOwnedTupleGo tg (.ref it) u) (fun _ s2=>∃x H',Inv X pins σ H' s2/\Yr x u/\J.yld i H x H'/\tn (i+1) s2.heap/\∀b∈fp,H' b=none) E s1) E s
 done:∀(X:Cx),X.prog=P->X.w=w->X.K=K->X.calm=true->∀(i:Nat) (pins:List (Addr×Obj)) (s:Shared) (σ:St) (H:Hp) (E:Value->Shared->Prop),Inv X pins σ H s->(∀b∈fp,ZdM X pins H b)->tn i s.heap->J.stop i H->
  wpAny (model P w) X.A (pyNext (.ref it)) (fun r s1=>r=none/\Inv X pins σ H s1) E s
 self:∀(A:Around) (i:Nat) (s:Shared) (Q:Value->Shared->Prop) (E:Value->Shared->Prop),tn i s.heap->Q (.ref it) s->wpAny (model P w) A (pyIter (.ref it)) Q E s
abbrev TI:=St->Hp->(It->Hp->Prop)->Prop
def PIE(X:Cx)(pins:List (Addr×Obj))(σ:St)(tg:Expr)(R:It->Hp->Prop)(itv:Value)(s2:Shared):Prop:=
 ∃(it:Addr) (fp:List Addr) (tn:Nat->Heap->Prop) (J:It) (H':Hp),itv=.ref it/\Inv X pins σ H' s2/\Zhh X.prog X.w X.K tg J fp it tn/\tn 0 s2.heap/\(∀b∈fp,ZdM X pins H' b)/\R J H'
def PI(X:Cx)(tg iter:Expr)(wi:TI):Prop:=
 ∀(pins:List (Addr×Obj)) (s:Shared) (σ:St) (H:Hp) (R:It->Hp->Prop),Inv X pins σ H s->wi σ H R->
  wpAny (model X.prog X.w) X.A (eval iter X.env) (fun v s1=>wpAny (model X.prog X.w) X.A (pyIter v) (PIE X pins σ tg R) X.xe s1) X.xe s
theorem Zgn{M:Model}{A:Around}{E:Value->Shared->Prop}{s:Shared}{tg:Expr}{it:Addr}{u:Value}{o:Obj}{n:String}{vs:Array Value}{Q:Unit->Shared->Prop}(ho:s.heap.get? it=some o)(hc:o.cls=.type n)(hd:o.data=.fields vs)
  (hn:["enumerate","zip","dict_itemiterator","dict_reverseitemiterator","odict_iterator","itertools.zip_longest","itertools.pairwise"].contains n=false)(hQ:Q () s):wpAny M A (letOwnedTupleGo tg (.ref it) u) Q E s:=by
 unfold letOwnedTupleGo;cases tg<;>first
  |exact wpAny_pure hQ
  |(cases u<;>first
    |exact wpAny_pure hQ
    |(refine wpAny_bind (wpAny_load ho ?_)
      rw[hc,hd];show wpAny M A (if(["enumerate","zip","dict_itemiterator","dict_reverseitemiterator","odict_iterator","itertools.zip_longest","itertools.pairwise"].contains n&&vs[0]? ==some (rawInt _))=true then _ else _) Q E s;rw[if_neg (by intro h;rw[hn,Bool.false_and] at h;cases h)]
      exact wpAny_pure hQ))
def Itl(K:PySem.W.Frag)(a:Addr):It:=
 ⟨fun i H=>∃xs x,SqL K H a xs/\xs[i]? =some x,fun i H x H'=>H'=H/\∀xs,SqL K H a xs->xs[i]? =some x,fun i H=>∃xs,SqL K H a xs/\xs.length<=i⟩
def Itr(lo:Int)(n:Nat):It:=⟨fun i _=>i<n,fun i H x H'=>H'=H/\x=.int (lo+i),fun i _=>n<=i⟩
theorem ZgP{P:Program}{w:World}{K:PySem.W.Frag}{tg:Expr}(a it:Addr):Zhh P w K tg (Itl K a) [it] it (fun i h=>h.IsListIter it a i) where
 mem:=by simp
 obj:=fun i h st b hb=>by
  have e:b=it:=by simpa using hb
  subst e;obtain⟨o,e,c,d⟩:=st;exact⟨o,e,fun v z=>by rw[d] at z;cases z⟩
 keep:=fun i h h' st k=>st.at fun o e=>k it (by simp) o e
 item:=by
  intro X hP hw hK hc i pins s σ H E I hf st hg;subst hP hw hK;obtain⟨xs,x,hq,hx⟩:=hg;obtain⟨its,rv,p,hz⟩:=I.list hq;obtain⟨u,hu,ru⟩:=rv.get hx;obtain⟨f0,f1,f2,f3,f4,f5⟩:=hf it (by simp);refine wpAny_pyNext_list_item st p.isList (x:=u) (by simpa using hu) fun h' st' sb=> ?_;have I1:Inv X pins σ H {s with heap:=h'}:=I.turned (t':=s.toks) (fun b o hb e=>(sb.2 b hb).trans e) f0 f1 f3 f4 f5;obtain⟨o,e,c,d⟩:=id st'
  exact⟨u,rfl,Zgn (s:={s with heap:=h'}) e c d (by decide) ⟨x,H,I1,ru,⟨rfl,fun ys hy=>by rw[I.list_inj hy hq];exact hx⟩,st',fun b hb=>(hf b hb).1⟩⟩
 done:=by
  intro X hP hw hK hc i pins s σ H E I hf st hg;subst hP hw hK;obtain⟨xs,hq,hx⟩:=hg;obtain⟨its,rv,p,hz⟩:=I.list hq;obtain⟨f0,f1,f2,f3,f4,f5⟩:=hf it (by simp);have hl:=rv.length;exact wpAny_pyNext_list_end (I.ok.hd hc) st p.isList (by simp;omega) fun h' eb=>⟨rfl,I.turned (t':=s.toks) (fun b o hb e=>eb b o hb e) f0 f1 f3 f4 f5⟩
 self:=fun _ _ _ _ _ st h=>wpAny_pyIter_listiter st h
theorem ZfF{P:Program}{w:World}{K:PySem.W.Frag}{tg:Expr}(it:Addr)(lo:Int)(n:Nat):Zhh P w K tg (Itr lo n) [it] it (fun i h=>IsRangeIter h it (lo+(i:Nat)*1) ((n:Int)-(i:Nat)) 1) where
 mem:=by simp
 obj:=fun i h st b hb=>by
  have e:b=it:=by simpa using hb
  subst e;exact⟨_,st,fun v z=>by
   have z':Data.fields _=Data.cell v:=z;cases z'⟩
 keep:=fun i h h' st k=>k it (by simp) _ st
 item:=by
  intro X hP hw hK hc i pins s σ H E I hf st hg;subst hP hw hK;obtain⟨f0,f1,f2,f3,f4,f5⟩:=hf it (by simp);have W:=Walks.range (prog:=X.prog) (w:=X.w) (I.ok.hd hc) it lo 1 n;refine W.item i s _ _ hg st fun v h' tk hv st' kk=> ?_;obtain⟨t,rfl⟩:=hv;have I1:Inv X pins σ H {s with heap:=h',toks:=tk}:=I.turned (fun b o hb e=>kk b o (by simpa using hb) e) f0 f1 f3 f4 f5;refine⟨_,rfl,Zgn (s:={s with heap:=h',toks:=tk}) (n:="range_iterator") st' rfl rfl (by decide) ⟨.int (lo+i),H,I1,⟨t, ?_⟩,⟨rfl,rfl⟩,st',fun b hb=>(hf b hb).1⟩⟩
  rw[Int.mul_one]
 done:=by
  intro X hP hw hK hc i pins s σ H E I hf st hg;subst hP hw hK;obtain⟨f0,f1,f2,f3,f4,f5⟩:=hf it (by simp);exact wpAny_pyNext_range_end (I.ok.hd hc) st (by have:n<=i:=hg;omega) fun h' eb=>⟨rfl,I.turned (t':=s.toks) (fun b o hb e=>eb b o hb e) f0 f1 f3 f4 f5⟩
 self:=fun _ _ _ _ _ st h=>wpAny_pyIter_rangeiter st h
end L2
namespace L2
open PySem PySem.Spec PyProof.Rows
section
variable {X:Cx} {tg:Expr}
def Zk8(K:PySem.W.Frag)(tl:TE):TI:=fun σ H R=>tl σ H fun x H1=>∃a,x=.ref a/\(∃xs,SqL K H1 a xs)/\R (Itl K a) H1
theorem ZbX{l:Expr}{tl:TE}(hl:PE X l tl):PI X tg l (Zk8 X.K tl):=by
 intro pins s σ H R I h;refine thn (hl pins s σ H _ I h) fun v s1 ⟨x,H1,I1,r1,q1⟩=> ?_;obtain⟨a,e,⟨xs,hq⟩,q⟩:=q1;subst e;cases r1;obtain⟨its,rv,p,hz⟩:=I1.list hq;refine wpAny_pyIter_list p.isList ?_;refine⟨s1.heap.objs.size,[s1.heap.objs.size],_,_,H1,rfl,I1.kept (t':=s1.toks) fun b o e=>Heap.get?_push_of_some _ e,ZgP a _,⟨_,Heap.get?_push_size _ rfl,rfl,rfl⟩,fun b hb=> ?_,q⟩;have e:b=s1.heap.objs.size:=by simpa using hb
 subst e;exact I1.fpOk (Nat.le_refl _) (I1.hok.fresh (Nat.le_refl _))
theorem Zhi{pins:List (Addr×Obj)}{σ:St}{H:Hp}{s:Shared}{R:It->Hp->Prop}{E:Value->Shared->Prop}{lo hi:Int}{t u v:Tok}{tk:Nat}(I:Inv X pins σ H s)(h1: -(2^62)<=lo)(h2:lo<2^62)(h3: -(2^62)<=hi)(h4:hi<2^62)
  (q:R (Itr lo (hi-lo).toNat) H):wpAny (model X.prog X.w) X.A (pyIter (.ref s.heap.objs.size)) (PIE X pins σ tg R) E {s with heap:=s.heap.push {cls:=.type "range",data:=.fields #[.int lo t,.int hi u,.int 1 v]},toks:=tk}:=by
 refine wpAny_pyIter_range (IsRange.new ..) (small_one h1 h2 h3 h4) ?_;have I1:Inv X pins σ H {s with heap:=s.heap.push {cls:=.type "range",data:=.fields #[.int lo t,.int hi u,.int 1 v]},toks:=tk}:=I.kept fun b o e=>Heap.get?_push_of_some _ e;refine⟨(s.heap.push {cls:=.type "range",data:=.fields #[.int lo t,.int hi u,.int 1 v]}).objs.size,[(s.heap.push {cls:=.type "range",data:=.fields #[.int lo t,.int hi u,.int 1 v]}).objs.size],_,_,H,rfl,
  I1.kept (t':=tk) fun b o e=>Heap.get?_push_of_some _ e,ZfF _ lo (hi-lo).toNat, ?_,fun b hb=> ?_,q⟩
 ·have e1:lo+((0:Nat):Int)*1=lo:=by simp
  have e2:(((hi-lo).toNat:Nat):Int)-((0:Nat):Int)=Builtin.Range.rangeSize lo hi 1:=by rw[rangeSize_one];split<;>omega
  show IsRangeIter _ _ (lo+((0:Nat):Int)*1) ((((hi-lo).toNat:Nat):Int)-((0:Nat):Int)) 1;rw[e1,e2];exact Heap.get?_push_size _ rfl
 ·have e:b=(s.heap.push {cls:=.type "range",data:=.fields #[.int lo t,.int hi u,.int 1 v]}).objs.size:=by simpa using hb
  subst e;exact I1.fpOk (Nat.le_refl _) (I1.hok.fresh (Nat.le_refl _))
def Zk9(ta:TA):TI:=fun σ H R=>ta σ H fun vs H1=>∃j:Int,vs=[.int j]/\-(2^62)<=j/\j<2^62/\R (Itr 0 j.toNat) H1
theorem Ze2{a:Expr}{ta:TA}{p pos:Pos}(hg:Gl X "range")(hm:X.mg "range"=none)(ha:PA X [a] ta)(hs:starEach [a] X.env=[(false,eval a X.env)]:=by rfl):PI X tg (.Call (.Name "range" p) [a] [] pos) (Zk9 ta):=by
 intro pins s σ H R I h;refine Call_ (Zci I hg hm boot_range (PyProof.Rows.callWith_type1 (thn (ha pos pins s σ H _ I h) fun us s1 ⟨vs,H1,I1,r1,q1⟩=> ?_) hs rfl));obtain⟨j,e,q1,q2,q⟩:=q1;subst e;cases r1 with
 |cons r rr=>
  cases rr;obtain⟨t,rfl⟩:=r;exact call_range_1 (Zhi I1 (by omega) (by omega) q1 q2 (by simpa using q))
def ZkS(wi:TI)(g:TG)(tb:TS):TS:=fun D σ H=>wi σ H fun J H1=>∃W:Nat->Nat->St->Hp->Prop,(∃m,W 0 m σ H1)/\∀i m σ H,W i m σ H->
 (J.stop i H/\D.nx σ H)\/(J.go i H/\∃N:St->Hp->Prop,(∀σ' H',N σ' H'->∃m',m'<m/\W (i+1) m' σ' H')/\∀x H',J.yld i H x H'->g x σ H' fun σ2 H2=>tb {D with nx:=N,ct:=N,bk:=D.nx} σ2 H2)
def Zd4(fp:List Addr)(h:Heap):List (Addr×Obj):=fp.filterMap fun b=>(h.get? b).map fun o=>(b,o)
theorem ZaA{fp:List Addr}{h:Heap}{b:Addr}{o:Obj}(hb:b∈fp)(e:h.get? b=some o):(b,o)∈Zd4 fp h:=List.mem_filterMap.mpr ⟨b,hb,by rw[e];rfl⟩
theorem ZgQ{fp:List Addr}{h:Heap}{p:Addr×Obj}(hp:p∈Zd4 fp h):p.1∈fp/\h.get? p.1=some p.2:=by
 obtain⟨b,hb,e⟩:=List.mem_filterMap.mp hp;cases q:h.get? b with
 |none=>rw[q] at e;cases e
 |some o=>
  rw[q] at e
  have e':(b,o)=p:=Option.some.inj e;subst e';exact⟨hb,q⟩
theorem Inv.pinned{pins:List (Addr×Obj)}{σ:St}{H:Hp}{s:Shared}{fp:List Addr}(I:Inv X pins σ H s)(hf:∀b∈fp,ZdM X pins H b)(ho:∀b∈fp,∃o,s.heap.get? b=some o/\∀v,o.data≠.cell v):Inv X (pins++Zd4 fp s.heap) σ H s:=
 I.pins_of fun p hp=>(List.mem_append.mp hp).elim (fun z=>I.pin p (List.mem_append_right _ z)) fun z=>by
  obtain⟨hb,e⟩:=ZgQ z;obtain⟨f0,f1,f2,_⟩:=hf p.1 hb;obtain⟨o,e',d⟩:=ho p.1 hb;rw[e] at e';cases e'
  exact⟨e,f0,f1,f2,d⟩
theorem Inv.unpinned{pins pl:List (Addr×Obj)}{σ:St}{H:Hp}{s:Shared}(I:Inv X (pins++pl) σ H s):Inv X pins σ H s:=I.pins_of fun p hp=>I.pin p (List.mem_append_right _ (List.mem_append_left _ hp))
theorem Zck{iter:Expr}{body:List Stmt}{wi:TI}{g:TG}{tb:TS}{pos:Pos}(hp:PassesOwn (model X.prog X.w) X.A X.env X.xe)(hc:X.calm=true)(hi:PI X tg iter wi)(hg:PG X tg g)(hb:PSs X body tb)
  (hs:∀x,foldedSetIterable iter X.env x=pure x:=by intro _;rfl):PS X (.For tg iter body [] pos) (ZkS wi g tb):=by
 intro pins s σ H D I h;refine wpAny_For (thn (hi pins s σ H _ I h) fun v s1 h1=>thn h1 fun itv s2 h2=> ?_) hs;obtain⟨it,fp,tn,J,H2,e,I2,T,st2,f2,W,⟨m0,w0⟩,turn⟩:=h2;subst e;have stat:∀{H':Hp},(∀b∈fp,H' b=none)->∀b∈fp,ZdM X pins H' b:=fun hn b hb=>⟨hn b hb,(f2 b hb).2⟩
 refine codeAny_forLoop_any (fun n s'=>∃i σ' H',Inv X pins σ' H' s'/\tn i s'.heap/\(∀b∈fp,H' b=none)/\W i n σ' H') ?_ m0 ⟨0,σ,H2,I2,st2,fun b hb=>(f2 b hb).1,w0⟩;rintro n s3 ⟨i,σ3,H3,I3,st3,fr3,w3⟩;rcases turn i n σ3 H3 w3 with ⟨stop,qn⟩|⟨go,N,hN,step⟩
 ·refine wpAny_passesOwn hp (thn (T.done X rfl rfl rfl hc i pins s3 σ3 H3 X.xe I3 (stat fr3) st3 stop) fun r s4 ⟨hr,I4⟩=> ?_);subst hr;exact wpAny_execs_nil ⟨σ3,H3,I4,qn⟩
 ·refine wpAny_passesOwn hp (thn (T.item X rfl rfl rfl hc i pins s3 σ3 H3 X.xe I3 (stat fr3) st3 go) fun r s4 ⟨u,hr,h4⟩=> ?_);subst hr;refine wpAny_passesOwn hp (thn h4 fun _ s5 ⟨x,H5,I5,r5,y5,st5,fr5⟩=> ?_);have I5':=I5.pinned (stat fr5) (T.obj _ _ st5);refine wpAny_passesOwn hp (thn (hg _ s5 σ3 H5 x u _ I5' r5 (step x H5 y5)) fun _ s6 ⟨σ6,H6,I6,q6⟩=> ?_);refine wpAny_passesOwn hp (thn (hb _ s6 σ6 H6 _ I6 q6) fun f s7 q7=> ?_)
  have again:∀{σ7:St} {H7:Hp},Inv X (pins++Zd4 fp s5.heap) σ7 H7 s7->N σ7 H7->∃m,m<n/\∃i σ' H',Inv X pins σ' H' s7/\tn i s7.heap/\(∀b∈fp,H' b=none)/\W i m σ' H':=fun{σ7 H7} I7 n7=>by
   obtain⟨m',hm,w7⟩:=hN σ7 H7 n7;refine⟨m',hm,i+1,σ7,H7,I7.unpinned,T.keep _ _ _ st5 fun b hb o e=>(I7.pin (b,o) (List.mem_append_right _ (List.mem_append_right _ (ZaA hb e)))).1,fun b hb=> ?_,w7⟩;obtain⟨o,e,d⟩:=T.obj _ _ st5 b hb;exact(I7.pin (b,o) (List.mem_append_right _ (List.mem_append_right _ (ZaA hb e)))).2.1
  cases f with
  |next=>obtain⟨σ7,H7,I7,n7⟩:=q7;exact again I7 n7
  |cont=>obtain⟨σ7,H7,I7,n7⟩:=q7;exact again I7 n7
  |brk=>obtain⟨σ7,H7,I7,q7⟩:=q7;exact⟨σ7,H7,I7.unpinned,q7⟩
  |ret v=>obtain⟨x7,σ7,H7,I7,r7,q7⟩:=q7;exact⟨x7,σ7,H7,I7.unpinned,r7,q7⟩
end
theorem Zd5{K:PySem.W.Frag}{a:Addr}{xs:List V}{g:TG}{tb:TS}{D:ZbV}{σ:St}{H:Hp}(Pv:Nat->St->Hp->Prop)(h0:Pv 0 σ H)(hl:∀i σ H,i<=xs.length->Pv i σ H->SqL K H a xs)
  (hs:∀i x σ H,xs[i]? =some x->Pv i σ H->g x σ H fun σ2 H2=>tb {D with nx:=Pv (i+1),ct:=Pv (i+1),bk:=D.nx} σ2 H2)(hd:∀σ H,Pv xs.length σ H->D.nx σ H):
  ∃W:Nat->Nat->St->Hp->Prop,(∃m,W 0 m σ H)/\∀i m σ H,W i m σ H->
   ((Itl K a).stop i H/\D.nx σ H)\/((Itl K a).go i H/\∃N:St->Hp->Prop,(∀σ' H',N σ' H'->∃m',m'<m/\W (i+1) m' σ' H')/\∀x H',(Itl K a).yld i H x H'->g x σ H' fun σ2 H2=>tb {D with nx:=N,ct:=N,bk:=D.nx} σ2 H2):=by
 refine⟨fun i m σ H=>m=xs.length-i/\i<=xs.length/\Pv i σ H,⟨xs.length,by simp,Nat.zero_le _,h0⟩, ?_⟩;rintro i m σ H ⟨rfl,hi,p⟩;have q:=hl i σ H hi p
 by_cases hlt:i<xs.length
 ·refine .inr ⟨⟨xs,xs[i],q,by simp[hlt]⟩,Pv (i+1),fun σ' H' p'=>⟨xs.length-(i+1),by omega,rfl,hlt,p'⟩,fun x H' y=> ?_⟩;obtain⟨e,y⟩:=y;subst e;exact hs i x σ _ (y xs q) p
 ·have e:i=xs.length:=by omega
  subst e;exact .inl ⟨⟨xs,q,Nat.le_refl _⟩,hd σ H p⟩
theorem ZgR{lo:Int}{n:Nat}{g:TG}{tb:TS}{D:ZbV}{σ:St}{H:Hp}(Pv:Nat->St->Hp->Prop)(h0:Pv 0 σ H)
  (hs:∀i σ H,i<n->Pv i σ H->g (.int (lo+i)) σ H fun σ2 H2=>tb {D with nx:=Pv (i+1),ct:=Pv (i+1),bk:=D.nx} σ2 H2)(hd:∀σ H,Pv n σ H->D.nx σ H):
  ∃W:Nat->Nat->St->Hp->Prop,(∃m,W 0 m σ H)/\∀i m σ H,W i m σ H->
   ((Itr lo n).stop i H/\D.nx σ H)\/((Itr lo n).go i H/\∃N:St->Hp->Prop,(∀σ' H',N σ' H'->∃m',m'<m/\W (i+1) m' σ' H')/\∀x H',(Itr lo n).yld i H x H'->g x σ H' fun σ2 H2=>tb {D with nx:=N,ct:=N,bk:=D.nx} σ2 H2):=by
 refine⟨fun i m σ H=>m=n-i/\i<=n/\Pv i σ H,⟨n,by simp,Nat.zero_le _,h0⟩, ?_⟩;rintro i m σ H ⟨rfl,hi,p⟩
 by_cases hlt:i<n
 ·refine .inr ⟨hlt,Pv (i+1),fun σ' H' p'=>⟨n-(i+1),by omega,rfl,hlt,p'⟩,fun x H' y=> ?_⟩;obtain⟨e,y⟩:=y;subst e y;exact hs i σ _ hlt p
 ·have e:i=n:=by omega
  subst e;exact .inl ⟨Nat.le_refl _,hd σ H p⟩
end L2
namespace L2
open PySem PySem.Spec PyProof.Rows
abbrev R2:=V->V->Hp->VK->Prop
def OpR(X:Cx)(f:Value->Value->Sem Value)(r:R2):Prop:=
 ∀(pins:List (Addr×Obj)) (s:Shared) (σ:St) (H:Hp) (x y:V) (v u:Value) (Q:VK),Inv X pins σ H s->Yr x v->Yr y u->r x y H Q->
  wpAny (model X.prog X.w) X.A (f v u) (EP X pins σ Q) X.xe s
def UnR(X:Cx)(f:Value->Sem Value)(r:V->Hp->VK->Prop):Prop:=
 ∀(pins:List (Addr×Obj)) (s:Shared) (σ:St) (H:Hp) (x:V) (v:Value) (Q:VK),Inv X pins σ H s->Yr x v->r x H Q->
  wpAny (model X.prog X.w) X.A (f v) (EP X pins σ Q) X.xe s
def ZbY(X:Cx)(f:Value)(r:List V->Hp->VK->Prop):Prop:=
 ∀(pins:List (Addr×Obj)) (s:Shared) (σ:St) (H:Hp) (xs:List V) (us:List Value) (Q:VK),Inv X pins σ H s->ZZ xs us->r xs H Q->
  wpAny (model X.prog X.w) X.A (call f us) (EP X pins σ Q) X.xe s
def tOp(r:R2)(ta tb:TE):TE:=fun σ H Q=>ta σ H fun x H1=>tb σ H1 fun y H2=>r x y H2 Q
def tUn(r:V->Hp->VK->Prop)(ta:TE):TE:=fun σ H Q=>ta σ H fun x H1=>r x H1 Q
def rI(C:Int->Int->Prop)(g:Int->Int->V):R2:=fun x y H Q=>∃i j,x=.int i/\y=.int j/\C i j/\Q (g i j) H
def rI0(g:Int->Int->V):R2:=fun x y H Q=>∃i j,x=.int i/\y=.int j/\Q (g i j) H
def rU(g:Int->V):V->Hp->VK->Prop:=fun x H Q=>∃i,x=.int i/\Q (g i) H
section
variable {X:Cx} {a b c:Expr} {ta tb tc:TE} {pos:Pos}
theorem Zjq(ha:PE X a ta)(hb:PE X b tb){pins:List (Addr×Obj)}{s:Shared}{σ:St}{H:Hp}{R:V->V->Hp->Prop}(I:Inv X pins σ H s)
  (h:ta σ H fun x H1=>tb σ H1 fun y H2=>R x y H2){Q:Value->Shared->Prop}{f:Value->Value->Sem Value}
  (hf:∀v u s2 x y H2,Inv X pins σ H2 s2->Yr x v->Yr y u->R x y H2->wpAny (model X.prog X.w) X.A (f v u) Q X.xe s2):
  wpAny (model X.prog X.w) X.A (eval a X.env) (fun v s₁=>wpAny (model X.prog X.w) X.A (eval b X.env) (fun u s₂=>wpAny (model X.prog X.w) X.A (f v u) Q X.xe s₂) X.xe s₁) X.xe s:=by
 refine thn (ha pins s σ H _ I h) fun v s1 ⟨x,H1,I1,r1,q1⟩=> ?_;refine thn (hb pins s1 σ H1 _ I1 q1) fun u s2 ⟨y,H2,I2,r2,q2⟩=> ?_;exact hf v u s2 x y H2 I2 r1 r2 q2
theorem Zy{op:Operator}{r:R2}(ho:OpR X (binaryOp op) r)(ha:PE X a ta)(hb:PE X b tb):PE X (.BinOp a op b pos) (tOp r ta tb):=by
 intro pins s σ H Q I h;exact wpAny_BinOp (Zjq ha hb I h fun v u s2 x y H2 I2 rx ry q=>ho pins s2 σ H2 x y v u Q I2 rx ry q)
theorem Zgo{op:UnaryOp}{r:V->Hp->VK->Prop}(ho:UnR X (unaryOp op) r)(ha:PE X a ta):PE X (.UnaryOp op a pos) (tUn r ta):=by
 intro pins s σ H Q I h;exact UnaryOp_ (thn (ha pins s σ H _ I h) fun v s1 ⟨x,H1,I1,r1,q1⟩=>ho pins s1 σ H1 x v Q I1 r1 q1)
theorem opI{f:Value->Value->Sem Value}{C:Int->Int->Prop}{g:Int->Int->Int}
  (rule:∀(i j:Int) (t u:Tok) (s:Shared) (Q:Value->Shared->Prop) (E:Value->Shared->Prop),C i j->Q (.int (g i j) s.toks) {s with toks:=s.toks+1}->wpAny (model X.prog X.w) X.A (f (.int i t) (.int j u)) Q E s):
  OpR X f (rI C fun i j=> .int (g i j)):=by
 intro pins s σ H x y v u Q I rx ry h;obtain⟨i,j,rfl,rfl,hc,q⟩:=h;obtain⟨t,rfl⟩:=rx;obtain⟨t',rfl⟩:=ry;exact rule i j t t' s _ _ hc ⟨.int (g i j),H,I.tok _,⟨_,rfl⟩,q⟩
theorem Zka{f:Value->Value->Sem Value}{g:Int->Int->Int}
  (rule:∀(i j:Int) (t u:Tok) (s:Shared) (Q:Value->Shared->Prop) (E:Value->Shared->Prop),Q (.int (g i j) s.toks) {s with toks:=s.toks+1}->wpAny (model X.prog X.w) X.A (f (.int i t) (.int j u)) Q E s):
  OpR X f (rI0 fun i j=> .int (g i j)):=by
 intro pins s σ H x y v u Q I rx ry h;obtain⟨i,j,rfl,rfl,q⟩:=h;obtain⟨t,rfl⟩:=rx;obtain⟨t',rfl⟩:=ry;exact rule i j t t' s _ _ ⟨.int (g i j),H,I.tok _,⟨_,rfl⟩,q⟩
theorem Zir{f:Value->Value->Sem Value}{g:Int->Int->Bool}
  (rule:∀(i j:Int) (t u:Tok) (s:Shared) (Q:Value->Shared->Prop) (E:Value->Shared->Prop),Q (.bool (g i j)) s->wpAny (model X.prog X.w) X.A (f (.int i t) (.int j u)) Q E s):
  OpR X f (rI0 fun i j=> .bl (g i j)):=by
 intro pins s σ H x y v u Q I rx ry h;obtain⟨i,j,rfl,rfl,q⟩:=h;obtain⟨t,rfl⟩:=rx;obtain⟨t',rfl⟩:=ry;exact rule i j t t' s _ _ ⟨.bl (g i j),H,I,rfl,q⟩
def ZkT(i j:Int):Prop:=0<j/\j<1073741824
def Zkb(i j:Int):Prop:=0<=j/\j<=1000000/\i.natAbs<2^64
theorem Xf:OpR X (binaryOp .Add) (rI0 fun i j=> .int (i+j)):=Zka fun _ _ _ _ _ _ _ q=>add_int q
theorem Zhj:OpR X (binaryOp .Sub) (rI0 fun i j=> .int (i-j)):=Zka fun _ _ _ _ _ _ _ q=>sub_int q
theorem YC:OpR X (binaryOp .FloorDiv) (rI ZkT fun i j=> .int (i/j)):=opI fun i j _ _ _ _ _ hc q=>by
 have h1:(0:Int)<j:=hc.1;have h2:j<1073741824:=hc.2;exact floordiv_int (by omega) (by rw[Int.fdiv_eq_ediv_of_nonneg i (by omega)];exact q) (.inl (PyProof.noPylong_small (by omega)))
theorem Yt:OpR X (binaryOp .Mod) (rI (fun _ j=>0<j) fun i j=> .int (i%j)):=opI fun i j _ _ _ _ _ hc q=>by
 have h1:(0:Int)<j:=hc;exact mod_int' (by omega) (by rw[Int.fmod_eq_emod_of_nonneg i (by omega)];exact q)
theorem Zhk:OpR X (binaryOp .Pow) (rI Zkb fun i j=> .int (i^j.toNat)):=opI fun _ _ _ _ _ _ _ hc q=>pow_int_small hc.1 hc.2.1 hc.2.2 q
theorem unI{f:Value->Sem Value}{g:Int->Int}
  (rule:∀(i:Int) (t:Tok) (s:Shared) (Q:Value->Shared->Prop) (E:Value->Shared->Prop),Q (.int (g i) s.toks) {s with toks:=s.toks+1}->wpAny (model X.prog X.w) X.A (f (.int i t)) Q E s):
  UnR X f (rU fun i=> .int (g i)):=by
 intro pins s σ H x v Q I rx h;obtain⟨i,rfl,q⟩:=h;obtain⟨t,rfl⟩:=rx;exact rule i t s _ _ ⟨.int (g i),H,I.tok _,⟨_,rfl⟩,q⟩
theorem Zer:UnR X (unaryOp .USub) (rU fun i=> .int (-i)):=unI fun _ _ _ _ _ q=>neg_int q
end
def Zjr:V->V->Bool
 | .non,.non=>true| .non,.int _=>true| .int _,.non=>true| .non,.bl _=>true| .bl _,.non=>true| .non,.str _=>true| .str _,.non=>true
 | .int _,.int _=>true| .bl _,.bl _=>true| .str _,.str _=>true| .byt _,.byt _=>true
 | .int _,.str _=>true| .str _,.int _=>true| .bl _,.str _=>true| .str _,.bl _=>true
 |_,_=>false
def rEq:R2:=fun x y H Q=>Zjr x y=true/\Q (.bl (decide (x=y))) H
def rNe:R2:=fun x y H Q=>Zjr x y=true/\Q (.bl (!decide (x=y))) H
theorem Zgp{i j:Int}:decide (V.int i=V.int j)=(i==j):=by
 rw[Bool.eq_iff_iff];simp
theorem Zhl{i j:Bool}:decide (V.bl i=V.bl j)=(i==j):=by
 rw[Bool.eq_iff_iff];simp
theorem Zgq{i j:Str}:decide (V.str i=V.str j)=(i==j):=by
 rw[Bool.eq_iff_iff];simp
theorem Zgr{i j:Array UInt8}:decide (V.byt i=V.byt j)=(i.toList==j.toList):=by
 rw[Bool.eq_iff_iff];cases i;cases j;simp
section
variable {X:Cx} {a b c:Expr} {ta tb tc:TE} {pos:Pos}
theorem Yd{pins:List (Addr×Obj)}{σ:St}{H:Hp}{s:Shared}{Q:VK}{k k':Bool}(I:Inv X pins σ H s)(q:Q (.bl k) H)(e:k=k'):EP X pins σ Q (.bool k') s:=by
 subst e;exact⟨.bl k,H,I,rfl,q⟩
theorem Yn:OpR X (compareOp .Eq) rEq:=by
 intro pins s σ H x y v u Q I rx ry h;obtain⟨hs,q⟩:=h;cases x with
 |non=>
  cases rx;cases y with
  |non=>cases ry;exact PySem.EqNone.eq_none_none (Yd I q (by simp))
  |bl j=>cases ry;exact PySem.EqNone.eq_none_bool (Yd I q (by simp))
  |int j=>obtain⟨t',rfl⟩:=ry;exact PySem.EqNone.eq_none_int (Yd I q (by simp))
  |str j=>obtain⟨t',rfl⟩:=ry;exact PySem.EqNone.eq_none_str (Yd I q (by simp))
  |_=>exact absurd (show false=true from hs) Bool.false_ne_true
 |bl i=>
  cases rx;cases y with
  |non=>cases ry;exact PySem.EqNone.eq_bool_none (Yd I q (by simp))
  |bl j=>cases ry;exact eq_bool (Yd I q Zhl)
  |str j=>obtain⟨t',rfl⟩:=ry;exact PySem.EqMixed.eq_bool_str (Yd I q (by simp))
  |_=>exact absurd (show false=true from hs) Bool.false_ne_true
 |int i=>
  obtain⟨t,rfl⟩:=rx;cases y with
  |non=>cases ry;exact PySem.EqNone.eq_int_none (Yd I q (by simp))
  |int j=>obtain⟨t',rfl⟩:=ry;exact eq_int (Yd I q Zgp)
  |str j=>obtain⟨t',rfl⟩:=ry;exact PySem.EqMixed.eq_int_str (Yd I q (by simp))
  |_=>exact absurd (show false=true from hs) Bool.false_ne_true
 |str i=>
  obtain⟨t,rfl⟩:=rx;cases y with
  |non=>cases ry;exact PySem.EqNone.eq_str_none (Yd I q (by simp))
  |bl j=>cases ry;exact PySem.EqMixed.eq_str_bool (Yd I q (by simp))
  |int j=>obtain⟨t',rfl⟩:=ry;exact PySem.EqMixed.eq_str_int (Yd I q (by simp))
  |str j=>obtain⟨t',rfl⟩:=ry;exact eq_str (Yd I q Zgq)
  |_=>exact absurd (show false=true from hs) Bool.false_ne_true
 |byt i=>
  obtain⟨t,rfl⟩:=rx;cases y with
  |byt j=>obtain⟨t',rfl⟩:=ry;exact PySem.W.eq_bytes (Yd I q Zgr)
  |_=>exact absurd (show false=true from hs) Bool.false_ne_true
 |_=>cases y<;>exact absurd (show false=true from hs) Bool.false_ne_true
theorem Zj8:OpR X (compareOp .NotEq) rNe:=by
 intro pins s σ H x y v u Q I rx ry h;obtain⟨hs,q⟩:=h;cases x with
 |non=>
  cases rx;cases y with
  |non=>cases ry;exact PySem.EqNone.ne_none_none (Yd I q (by simp))
  |bl j=>cases ry;exact PySem.EqNone.ne_none_bool (Yd I q (by simp))
  |int j=>obtain⟨t',rfl⟩:=ry;exact PySem.EqNone.ne_none_int (Yd I q (by simp))
  |str j=>obtain⟨t',rfl⟩:=ry;exact PySem.EqNone.ne_none_str (Yd I q (by simp))
  |_=>exact absurd (show false=true from hs) Bool.false_ne_true
 |bl i=>
  cases rx;cases y with
  |non=>cases ry;exact PySem.EqNone.ne_bool_none (Yd I q (by simp))
  |bl j=>cases ry;exact ne_bool (Yd I q (congrArg not Zhl))
  |str j=>obtain⟨t',rfl⟩:=ry;exact PySem.EqMixed.ne_bool_str (Yd I q (by simp))
  |_=>exact absurd (show false=true from hs) Bool.false_ne_true
 |int i=>
  obtain⟨t,rfl⟩:=rx;cases y with
  |non=>cases ry;exact PySem.EqNone.ne_int_none (Yd I q (by simp))
  |int j=>obtain⟨t',rfl⟩:=ry;exact ne_int (Yd I q (congrArg not Zgp))
  |str j=>obtain⟨t',rfl⟩:=ry;exact PySem.EqMixed.ne_int_str (Yd I q (by simp))
  |_=>exact absurd (show false=true from hs) Bool.false_ne_true
 |str i=>
  obtain⟨t,rfl⟩:=rx;cases y with
  |non=>cases ry;exact PySem.EqNone.ne_str_none (Yd I q (by simp))
  |bl j=>cases ry;exact PySem.EqMixed.ne_str_bool (Yd I q (by simp))
  |int j=>obtain⟨t',rfl⟩:=ry;exact PySem.EqMixed.ne_str_int (Yd I q (by simp))
  |str j=>obtain⟨t',rfl⟩:=ry;exact ne_str (Yd I q (congrArg not Zgq))
  |_=>exact absurd (show false=true from hs) Bool.false_ne_true
 |byt i=>
  obtain⟨t,rfl⟩:=rx;cases y with
  |byt j=>obtain⟨t',rfl⟩:=ry;exact PySem.W.ne_bytes (Yd I q (congrArg not Zgr))
  |_=>exact absurd (show false=true from hs) Bool.false_ne_true
 |_=>cases y<;>exact absurd (show false=true from hs) Bool.false_ne_true
theorem Zgs:OpR X (compareOp .Lt) (rI0 fun i j=> .bl (decide (i<j))):=Zir fun _ _ _ _ _ _ _ q=>lt_int q
theorem Zfb:OpR X (compareOp .LtE) (rI0 fun i j=> .bl (decide (i<=j))):=Zir fun _ _ _ _ _ _ _ q=>le_int q
theorem Zd6:OpR X (compareOp .Gt) (rI0 fun i j=> .bl (decide (j<i))):=Zir fun _ _ _ _ _ _ _ q=>gt_int q
theorem Zkc:OpR X (compareOp .GtE) (rI0 fun i j=> .bl (decide (j<=i))):=Zir fun _ _ _ _ _ _ _ q=>ge_int q
theorem ZgS:OpR X (compareOp .In) (fun x y H Q=>∃i j,x=.str i/\y=.str j/\Q (.bl (!(Builtin.Str.occurrences j i 0 j.length 1).isEmpty)) H):=by
 intro pins s σ H x y v u Q I rx ry h;obtain⟨i,j,rfl,rfl,q⟩:=h;obtain⟨t,rfl⟩:=rx;obtain⟨t',rfl⟩:=ry;exact in_str (Yd I q rfl)
theorem Zjs:OpR X (compareOp .Is) (fun x y H Q=>y=.non/\Q (.bl (decide (x=.non))) H):=by
 intro pins s σ H x y v u Q I rx ry h;obtain⟨rfl,q⟩:=h;cases ry;refine is_none_gen (Yd I q ?_);cases x<;>first
  |(cases rx;rfl)
  |(obtain⟨t,rfl⟩:=rx;rfl)
theorem Zis:OpR X (compareOp .IsNot) (fun x y H Q=>y=.non/\Q (.bl (!decide (x=.non))) H):=by
 intro pins s σ H x y v u Q I rx ry h;obtain⟨rfl,q⟩:=h;cases ry;refine isnot_none_gen (Yd I q ?_);cases x<;>first
  |(cases rx;rfl)
  |(obtain⟨t,rfl⟩:=rx;rfl)
theorem ZbZ:OpR X (compareOp .NotIn) (fun x y H Q=>∃i j,x=.str i/\y=.str j/\Q (.bl (!(!(Builtin.Str.occurrences j i 0 j.length 1).isEmpty))) H):=by
 intro pins s σ H x y v u Q I rx ry h;obtain⟨i,j,rfl,rfl,q⟩:=h;obtain⟨t,rfl⟩:=rx;obtain⟨t',rfl⟩:=ry;exact notIn_str (Yd I q rfl)
theorem ZJ(b:Expr){op:CmpOp}(h:op≠.In:=by decide)(h2:op≠.NotIn:=by decide):behindInMarks op b=false:=by
 have e1:(op==CmpOp.In)=false:=by cases op<;>first|rfl|exact absurd rfl h
 have e2:(op==CmpOp.NotIn)=false:=by cases op<;>first|rfl|exact absurd rfl h2
 cases b<;>simp[behindInMarks,e1,e2]
theorem XJ{op:CmpOp}{r:R2}(ho:OpR X (compareOp op) r)(ha:PE X a ta)(hb:PE X b tb)(hm:behindInMarks op b=false):PE X (.Compare a [op] [b] pos) (tOp r ta tb):=by
 intro pins s σ H Q I h;exact wpAny_Compare1 (Zjq ha hb I h fun v u s2 x y H2 I2 rx ry q=>ho pins s2 σ H2 x y v u Q I2 rx ry q) hm
def Zj9(t:TE):TT:=fun σ H Q=>t σ H fun x H'=>∃k,x=.bl k/\Q k H'
theorem ZG{op:CmpOp}{r:R2}(ho:OpR X (compareOp op) r)(ha:PE X a ta)(hb:PE X b tb)(hm:behindInMarks op b=false):PT X (.Compare a [op] [b] pos) (Zj9 (tOp r ta tb)):=by
 intro pins s σ H Q I h;refine wpAny_isTrue_Compare1 (thn (ha pins s σ H _ I h) fun v s1 ⟨x,H1,I1,r1,q1⟩=>thn (hb pins s1 σ H1 _ I1 q1) fun u s2 ⟨y,H2,I2,r2,q2⟩=>
  thn (ho pins s2 σ H2 x y v u _ I2 r1 r2 q2) fun c s3 ⟨z,H3,I3,r3,k,e,q3⟩=> ?_) hm
 subst e;cases r3;exact wpAny_truthy_bool ⟨H3,I3,q3⟩
def Zjt(r r':R2)(ta tb tc:TE):TE:=fun σ H Q=>ta σ H fun x H1=>tb σ H1 fun y H2=>r x y H2 fun z H3=>∃k,z=.bl k/\
 (if k=true then tc σ H3 fun w' H4=>r' y w' H4 Q else Q (.bl false) H3)
theorem Zfc{op op':CmpOp}{r r':R2}(ho:OpR X (compareOp op) r)(ho':OpR X (compareOp op') r')(ha:PE X a ta)(hb:PE X b tb)(hc:PE X c tc)
  (hm:lastMarks [op,op'] [b,c]=false:=by with_unfolding_all rfl):PE X (.Compare a [op,op'] [b,c] pos) (Zjt r r' ta tb tc):=by
 intro pins s σ H Q I h;refine Compare_chain (thn (ha pins s σ H _ I h) fun v s1 ⟨x,H1,I1,r1,q1⟩=>chain_link (thn (hb pins s1 σ H1 _ I1 q1) fun u s2 ⟨y,H2,I2,r2,q2⟩=>
  thn (ho pins s2 σ H2 x y v u _ I2 r1 r2 q2) fun d s3 ⟨z,H3,I3,r3,k,e,q3⟩=> ?_)) hm
 subst e;cases r3;refine wpAny_truthy_bool ?_;cases k with
 |false=>exact ite_ff ⟨.bl false,H3,I3,rfl,q3⟩
 |true=>exact ite_tt (chain_last (thn (hc pins s3 σ H3 _ I3 q3) fun w' s4 ⟨z',H4,I4,r4,q4⟩=>ho' pins s4 σ H4 y z' u w' Q I4 r2 r4 q4))
theorem Zes:(sizeLine:Nat)<2^63:=by rw[sizeLine_eq];decide
theorem Jc:OpR X (binaryOp .Add) (fun x y H Q=>∃i j,x=.str i/\y=.str j/\i.length+j.length<=sizeLine/\Q (.str (i++j)) H):=by
 intro pins s σ H x y v u Q I rx ry h;obtain⟨i,j,rfl,rfl,hz,q⟩:=h;obtain⟨t,rfl⟩:=rx;obtain⟨t',rfl⟩:=ry;exact add_str (fun t' tk=>⟨.str (i++j),H,I.tok _,⟨_,rfl⟩,q⟩) hz
theorem Zc0{x:V}{us:List Value}(r:ZZ [x] us):∃u,us=[u]/\Yr x u:=by
 cases r with
 |cons r1 r2=>cases r2;exact⟨_,rfl,r1⟩
theorem Zkd{x y:V}{us:List Value}(r:ZZ [x,y] us):∃u w',us=[u,w']/\Yr x u/\Yr y w':=by
 cases r with
 |cons r1 r2=>
  cases r2 with
  |cons r3 r4=>cases r4;exact⟨_,_,rfl,r1,r3⟩
theorem Zfd:ZbY X (.builtin "abs") (fun xs H Q=>∃i,xs=[.int i]/\Q (.int (if i<0 then-i else i)) H):=by
 intro pins s σ H xs us Q I r h;obtain⟨i,rfl,q⟩:=h;obtain⟨u,rfl,t,rfl⟩:=Zc0 r;exact call_abs_int fun u tk=>⟨.int (if i<0 then-i else i),H,I.tok _,⟨_,rfl⟩,q⟩
theorem Ze3:ZbY X (.type "int") (fun xs H Q=>(∃i,xs=[.int i]/\Q (.int i) H)\/∃k,xs=[.bl k]/\Q (.int (if k then 1 else 0)) H):=by
 intro pins s σ H xs us Q I r h;rcases h with ⟨i,rfl,q⟩|⟨k,rfl,q⟩
 ·obtain⟨u,rfl,t,rfl⟩:=Zc0 r;exact call_int_int ⟨.int i,H,I,⟨_,rfl⟩,q⟩
 ·obtain⟨u,rfl,r1⟩:=Zc0 r;cases r1;exact call_int_bool ⟨.int (if k then 1 else 0),H,I.tok _,⟨_,rfl⟩,q⟩
theorem XM:ZbY X (.type "str") (fun xs H Q=>∃i,xs=[.int i]/\i.natAbs.log2<1920/\Q (.str (toString i)) H):=by
 intro pins s σ H xs us Q I r h;obtain⟨i,rfl,hz,q⟩:=h;obtain⟨u,rfl,t,rfl⟩:=Zc0 r;exact PySem.P.str_of_int hz ⟨.str _,H,I.tok _,⟨_,rfl⟩,q⟩
def ZkU(K:PySem.W.Frag)(x:V)(H:Hp)(n:Nat):Prop:=
 match x with
 | .str y=>y.length<=sizeLine/\n=y.length
 | .byt y=>y.size<=sizeLine/\n=y.size
 | .ref p=>(∃xs,SqL K H p xs/\n=xs.length)\/∃xs,SqT K H p xs/\n=xs.length
 |_=>False
theorem Ym:ZbY X (.builtin "len") (fun xs H Q=>∃x n,xs=[x]/\ZkU X.K x H n/\Q (.int n) H):=by
 intro pins s σ H xs us Q I r h;obtain⟨x,n,rfl,e,q⟩:=h;obtain⟨u,rfl,rx⟩:=Zc0 r;have hl:=Zes;have hs:sizeLine=16777216:=sizeLine_eq;cases x with
 |str y=>
  obtain⟨t,rfl⟩:=rx;obtain⟨hy,e'⟩:y.length<=sizeLine/\n=y.length:=e;subst e';exact len_str (by omega) ⟨.int _,H,I.tok _,⟨_,rfl⟩,q⟩
 |byt y=>
  obtain⟨t,rfl⟩:=rx;obtain⟨hy,e'⟩:y.size<=sizeLine/\n=y.size:=e;subst e';exact PySem.W.len_bytes (by omega) ⟨.int _,H,I.tok _,⟨_,rfl⟩,q⟩
 |ref p=>
  cases rx;have e':(∃xs,SqL X.K H p xs/\n=xs.length)\/∃xs,SqT X.K H p xs/\n=xs.length:=e;rcases e' with ⟨xs,hx,e'⟩|⟨xs,hx,e'⟩
  ·subst e';obtain⟨its,r',pl,hz⟩:=I.list hx;have hlen:=r'.length;exact Calls.call_len_list pl.isList (by simp only [List.size_toArray];omega) ⟨.int xs.length,H,I.tok _,⟨_,by simp only [List.size_toArray];rw[hlen]⟩,q⟩
  ·subst e';obtain⟨its,r',pl,hz⟩:=I.tuple hx;have hlen:=r'.length;exact len_tuple pl (by simp only [List.size_toArray];omega) ⟨.int xs.length,H,I.tok _,⟨_,by simp only [List.size_toArray];rw[hlen]⟩,q⟩
 |_=>exact(show False from e).elim
end
end L2
namespace L2
open PySem PySem.Spec PyProof.Rows
structure ZfG (h:Heap) (x dx C:Addr) (mA:Str->Option Value):Prop where
 obj:h.get? x=some (PySem.W.instObj C dx)
 ns:h.Ns1 dx mA
 ne:dx≠x
theorem ZgT{h:Heap}{dx:Addr}{mA:Str->Option Value}(n:h.Ns1 dx mA):∃od,h.get? dx=some od/\∀name,PySem.W.lookIn name od=some (mA name):=by
 obtain⟨o,es,ep,ho,hd,hk,_,hm⟩:=n;refine⟨o,ho,fun name=> ?_⟩;have e:=hm name;unfold nsFind findBy at e
 rw[<-Array.find?_toList] at e
 unfold PySem.W.lookIn;rw[hd]
 dsimp only
 split
 ·rename_i y q
  rw[q] at e
  exact congrArg some e
 ·rename_i q
  rw[q] at e
  have a:es.toList.any (·.refKey)=false:=by
   rw[List.any_eq_false];intro y hy;obtain⟨z,t,hkey⟩:=hk y (Array.mem_toList_iff.mp hy);simp[DictEntry.refKey,hkey]
  have a':¬es.toList.any (·.refKey)=true:=by rw[a];exact Bool.false_ne_true
  rw[if_neg a'];exact congrArg some e
theorem ZfG.look{h:Heap}{x dx C:Addr}{mA:Str->Option Value}(I:ZfG h x dx C mA):∃od,PySem.W.InstAt h x (PySem.W.instObj C dx) C (some od)/\∀name,PySem.W.lookIn name od=some (mA name):=
 let ⟨od,ho,hl⟩:=ZgT I.ns
 ⟨od,⟨I.obj,rfl,rfl,ho⟩,hl⟩
section
variable {prog:Program} {w:World} {A:Around} {E:Value->Shared->Prop} {s:Shared} {K:PySem.W.Frag} {x dx C f:Addr} {mA:Str->Option Value} {name:Str} {v:Value}
theorem Zit{expr:Bool}{Q:Value->Shared->Prop}(X:K.In s.heap)(I:ZfG s.heap x dx C mA)(hg:PySem.W.plainGet K C name=true)(hh:PySem.W.hasDictIn K C=true)
  (ha:PySem.W.findIn K (.ref C) name=some none)(hv:mA name=some v)(hv':PySem.W.handedIn v=true)(h:Q v {s with toks:=s.toks+1}):
  wpAny (model prog w) A (getAttr (.ref x) name expr) Q E s:=by
 obtain⟨od,J,hl⟩:=I.look;exact PySem.W.get_value X J (PySem.W.plainGet_of hg).1 (PySem.W.findObj_own hh ha rfl (by rw[hl,hv])) hv' h
theorem Zhm{pl:Sem Bool}{Q:Value×List Value->Shared->Prop}(X:K.In s.heap)(I:ZfG s.heap x dx C mA)(hg:PySem.W.plainGet K C name=true)
  (hf:PySem.W.findIn K (.ref C) name=some (some (.ref f)))(ht:PySem.W.isFn K (.ref f)=true)(hv:mA name=none)(h:Q (.ref f,[.ref x]) s):
  wpAny (model prog w) A (getMethod (.ref x) name pl) Q E s:=by
 obtain⟨od,J,hl⟩:=I.look;exact PySem.W.method_fn X J (PySem.W.plainGet_of hg).1 (PySem.W.plainGet_of hg).2 hf (beq_iff_eq.mp ht) (by show(PySem.W.lookIn name od).map (·.isSome)=some false;rw[hl,hv];rfl) h
theorem Ziu{ns:List Str}{Q:Unit->Shared->Prop}(X:K.In s.heap)(I:ZfG s.heap x dx C mA)
  (hs:PySem.W.findIn K (.ref C) "__setattr__"=some (some (.builtin "object.__setattr__")))(hp:PySem.W.plainOver K C=true)(ht:PySem.W.takerIn K C name=some none)(hh:PySem.W.hasDictIn K C=true)
  (hw:PySem.Within mA ns)(hsz:ns.length<=sizeLine)
  (h:∀h',ZfG h' x dx C (fun y=>if y=name then some v else mA y)->Heap.SameBut dx s.heap h'->Q () {s with heap:=h',toks:=s.toks+2}):
  wpAny (model prog w) A (setAttr (.ref x) name v) Q E s:=by
 obtain⟨od,J,hl⟩:=I.look;refine PySem.W.set_plain X J hs (PySem.W.osa_open (s:={s with toks:=s.toks+1}) (r:=none) X J hp ht fun b=> ?_);obtain⟨cd,hc,hd'⟩:=PySem.W.any_some hh;have hx:s.heap.get? x=some ⟨.ref C,some dx,.plain, #[]⟩:=I.obj;refine wpAny_bind (wpAny_pure (wpAny_bind (wpAny_bind (wpAny_loadPart hx (wpAny_bind (PySem.W.Looks.here (s:={s with toks:=s.toks+1}) (PySem.W.looks_clsIn X hc) ?_))))))
 rw[hd'];refine wpAny_pure (a:=some dx) (wpAny_bind (wpAny_pure (wpAny_bind ?_)));refine wpAny_nsSet1 (s:={s with toks:=s.toks+1}) I.ns fun h' hn2 hs2=> ?_;obtain⟨oD,esD,epD,hoD,hdD,hcD⟩:=hn2.count (PySem.Within.cons name v hw);refine wpAny_bind (wpAny_lookBehind hoD (by rw[hdD];exact pastItsLine_dict (Nat.le_trans hcD (by rw[List.length_cons];omega))) ?_)
 exact wpAny_pure (h _ ⟨(hs2.2 _ (Ne.symm I.ne)).trans I.obj,hn2,I.ne⟩ hs2)
theorem Zhn{R:Result->Shared->Prop}{vs:List Value}{kw:List (Str×Value)}(X:K.In s.heap)(hm:PySem.W.makesIn K C=true)
  (hi:PySem.W.findIn K (.ref C) "__init__"=some (some (.ref f)))(hf:PySem.W.typeIn K (.ref f)=some (.type "function"))
  (h:codeAny (model prog w) (A.under (.builtin "type.__call__" ⟨.ref C::vs,kw⟩)) (.call (.ref f) ⟨.ref (s.heap.objs.size+1)::vs,kw⟩) (PySem.W.InitBack (s.heap.objs.size+1) R)
   {s with heap:=(s.heap.push PySem.W.emptyDict).push (PySem.W.instObj C s.heap.objs.size)}):
  codeAny (model prog w) A (.call (.ref C) ⟨vs,kw⟩) R s:=by
 obtain⟨hh,g,d,t,os⟩:=s;exact PySem.W.make_core (PySem.W.makes_of X hm) (PySem.W.looks_findIn X hi) (fun self=>PySem.W.bind_fn X self hf) (.inl rfl) h
end
def Zas(f:Str)(v:V):List (Str×V)->List (Str×V)
 |[]=>[(f,v)]
 |(g,x)::r=>if g=f then(g,v)::r else(g,x)::Zas f v r
theorem Yl(f g:Str)(v:V):∀fs:List (Str×V),(Zas f v fs).lookup g=if g=f then some v else fs.lookup g
 |[]=>by
  show List.lookup g [(f,v)]=_
  by_cases h:g=f
  ·have hb:(g==f)=true:=beq_iff_eq.mpr h;simp only [List.lookup,hb,if_pos h]
  ·have hb:(g==f)=false:=beq_eq_false_iff_ne.mpr h;simp only [List.lookup,hb,if_neg h]
 |(k,x)::r=>by
  have ih:=Yl f g v r;rw[show Zas f v ((k,x)::r)=(if k=f then(k,v)::r else(k,x)::Zas f v r) from rfl]
  by_cases hk:k=f
  ·rw[if_pos hk]
   by_cases h:g=k
   ·have hb:(g==k)=true:=beq_iff_eq.mpr h;simp only [List.lookup,hb,if_pos (h.trans hk)]
   ·have hb:(g==k)=false:=beq_eq_false_iff_ne.mpr h;simp only [List.lookup,hb,if_neg (fun e:g=f=>h (e.trans hk.symm))]
  ·rw[if_neg hk]
   by_cases h:g=k
   ·have hb:(g==k)=true:=beq_iff_eq.mpr h;simp only [List.lookup,hb,if_neg (fun e:g=f=>hk (h.symm.trans e))]
   ·have hb:(g==k)=false:=beq_eq_false_iff_ne.mpr h;simp only [List.lookup,hb];exact ih
theorem Zcl(f:Str)(v:V):∀fs:List (Str×V),f∈(Zas f v fs).map (·.1)/\∀g,g∈fs.map (·.1)->g∈(Zas f v fs).map (·.1)
 |[]=>⟨by simp[Zas],fun g h=>by simp at h⟩
 |(k,x)::r=>by
  obtain⟨i1,i2⟩:=Zcl f v r;rw[show Zas f v ((k,x)::r)=(if k=f then(k,v)::r else(k,x)::Zas f v r) from rfl]
  by_cases hk:k=f
  ·rw[if_pos hk];subst hk;exact⟨by simp,fun g h=>by simpa using h⟩
  ·rw[if_neg hk];refine⟨?_,fun g h=> ?_⟩
   ·rw[List.map_cons];exact List.mem_cons_of_mem _ i1
   ·rw[List.map_cons] at h⊢
    rcases List.mem_cons.mp h with e|e
    ·exact List.mem_cons.mpr (.inl e)
    ·exact List.mem_cons_of_mem _ (i2 g e)
theorem ZcE(f:Str)(v:V):∀fs:List (Str×V),(Zas f v fs).length<=fs.length+1
 |[]=>by simp[Zas]
 |(k,x)::r=>by
  have ih:=ZcE f v r;rw[show Zas f v ((k,x)::r)=(if k=f then(k,v)::r else(k,x)::Zas f v r) from rfl]
  by_cases hk:k=f
  ·rw[if_pos hk,List.length_cons,List.length_cons];omega
  ·rw[if_neg hk,List.length_cons,List.length_cons];omega
theorem ZcK.some_of{v:V}{o:Option Value}(r:ZcK (some v) o):∃u,o=some u/\Yr v u:=by
 cases o with
 |none=>exact(show False from r).elim
 |some u=>exact⟨u,rfl,r⟩
theorem ZcK.none_of{o:Option Value}(r:ZcK none o):o=none:=by
 cases o with
 |none=>rfl
 |some u=>exact(show False from r).elim
theorem ZgU{v:V}{u:Value}(r:Yr v u):PySem.W.handedIn u=true:=by
 cases v with
 |non=>cases(show u=Value.none from r);rfl
 |bl b=>cases(show u=Value.bool b from r);rfl
 |int i=>obtain⟨t,e⟩:=(show∃t,u=Value.int i t from r);cases e;rfl
 |str x=>obtain⟨t,e⟩:=(show∃t,u=Value.str x t from r);cases e;rfl
 |byt b=>obtain⟨t,e⟩:=(show∃t,u=Value.bytes b t from r);cases e;rfl
 |flt b=>obtain⟨t,e⟩:=(show∃t,u=Value.float b t from r);cases e;rfl
 |ref a=>cases(show u=Value.ref a from r);rfl
 |ty n=>cases(show u=Value.type n from r);rfl
section
variable {P:Program} {w:World} {H H':Hp} {h h':Heap} {a C dx:Addr} {fs fs':List (Str×V)}
theorem Zet(hok:HOk P w H h)(e:H a=some (.ins C dx fs)):∃mA,ZfG h a dx C mA/\(∀f,ZcK (fs.lookup f) (mA f))/\PySem.Within mA (fs.map (·.1))/\fs.length<=1000/\H dx=some (.own a):=by
 obtain⟨d,z,ne,ob,mA,n,r,q⟩:=(show Xn P w H h a (.ins C dx fs) from hok a _ e)
 exact⟨mA,⟨ob,n,ne⟩,r,q,z,d⟩
end
structure Cls (K:PySem.W.Frag) (C:Addr):Prop where
 pg:PySem.W.plainGet K C Str.empty=true
 hd:PySem.W.hasDictIn K C=true
 po:PySem.W.plainOver K C=true
 sa:PySem.W.findIn K (.ref C) "__setattr__"=some (some (.builtin "object.__setattr__"))
theorem Cls.get{K:PySem.W.Frag}{C:Addr}(c:Cls K C)(f:Str):PySem.W.plainGet K C f=true:=c.pg
def Xk(K:PySem.W.Frag)(C:Addr)(f:Str):Prop:=PySem.W.findIn K (.ref C) f=some none
theorem Xk.taker{K:PySem.W.Frag}{C:Addr}{f:Str}(n:Xk K C f):PySem.W.takerIn K C f=some none:=by
 unfold PySem.W.takerIn;rw[show PySem.W.findIn K (.ref C) f=some none from n]
 rfl
structure Zke (K:PySem.W.Frag) (C:Addr) (m:Str) (f:Addr):Prop where
 at_:PySem.W.findIn K (.ref C) m=some (some (.ref f))
 fn:PySem.W.isFn K (.ref f)=true
 kp:PySem.W.keepIn K (.ref f)=true
section
variable {X:Cx} {pins:List (Addr×Obj)} {σ:St} {H:Hp} {s:Shared} {a C dx:Addr} {fs:List (Str×V)} {f:Str} {v:V} {A:Around} {E:Value->Shared->Prop}
theorem ZfH{b:Bool}{Q:Value->Shared->Prop}(I:Inv X pins σ H s)(e:H a=some (.ins C dx fs))(c:Cls X.K C)(n:Xk X.K C f)(l:fs.lookup f=some v)
  (h:∀u s',Inv X pins σ H s'->Yr v u->Q u s'):wpAny (model X.prog X.w) A (getAttr (.ref a) f b) Q E s:=by
 obtain⟨mA,O,r,_,_,_⟩:=Zet I.hok e;obtain⟨u,hu,ru⟩:=ZcK.some_of (v:=v) (o:=mA f) (by rw[<-l];exact r f)
 exact Zit I.kIn O (c.get f) c.hd n hu (ZgU ru) (h u _ (I.tok _) ru)
theorem ZfI{m:Str}{g:Addr}{pl:Sem Bool}{Q:Value×List Value->Shared->Prop}(I:Inv X pins σ H s)(e:H a=some (.ins C dx fs))(c:Cls X.K C)(k:Zke X.K C m g)(l:fs.lookup m=none)
  (h:Q (.ref g,[.ref a]) s):wpAny (model X.prog X.w) A (getMethod (.ref a) m pl) Q E s:=by
 obtain⟨mA,O,r,_,_,_⟩:=Zet I.hok e;have hn:mA m=none:=ZcK.none_of (by rw[<-l];exact r m)
 exact Zhm I.kIn O (c.get m) k.at_ k.fn hn h
theorem ZfJ{y:V}{u:Value}{Q:Unit->Shared->Prop}(I:Inv X pins σ H s)(e:H a=some (.ins C dx fs))(c:Cls X.K C)(n:Xk X.K C f)(hl:fs.length<1000)(ry:Yr y u)
  (h:∀s',Inv X pins σ (upd H a (.ins C dx (Zas f y fs))) s'->Q () s'):wpAny (model X.prog X.w) A (setAttr (.ref a) f u) Q E s:=by
 obtain⟨mA,O,r,wi,_,ho⟩:=Zet I.hok e;have hz:(fs.map (·.1)).length<=sizeLine:=by rw[List.length_map,sizeLine_eq];omega
 refine Ziu I.kIn O c.sa c.po n.taker c.hd wi hz fun h' O' sb=>h _ ?_;have hd:∃o,h'.get? dx=some o:=let ⟨o,_,_,e',_⟩:=O'.ns;⟨o,e'⟩;refine I.write (x:=a) (e:=dx) (by rw[e];exact True.intro) (.inr ho) (fun b q hb z=>(sb.2 b hb).trans z) hd ?_
 refine⟨by rw[Zw O.ne];exact ho, ?_,O.ne,O'.obj,_,O'.ns,fun g=> ?_,fun g hg=> ?_⟩
 ·have:=ZcE f y fs;omega
 ·show ZcK ((Zas f y fs).lookup g) (if g=f then some u else mA g);rw[Yl]
  by_cases q:g=f
  ·rw[if_pos q,if_pos q];exact ry
  ·rw[if_neg q,if_neg q];exact r g
 ·by_cases q:g=f
  ·rw[q];exact(Zcl f y fs).1
  ·refine(Zcl f y fs).2 g (wi g fun z=>hg ?_);show(if g=f then some u else mA g)=none;rw[if_neg q];exact z
theorem Inv.made(I:Inv X pins σ H s):Inv X pins σ (upd (upd H s.heap.objs.size (.own (s.heap.objs.size+1))) (s.heap.objs.size+1) (.ins C s.heap.objs.size []))
  {s with heap:=(s.heap.push PySem.W.emptyDict).push (PySem.W.instObj C s.heap.objs.size)}:=by
 have e1:(s.heap.push PySem.W.emptyDict).get? s.heap.objs.size=some PySem.W.emptyDict:=Heap.get?_push_size s.heap rfl;have e2:((s.heap.push PySem.W.emptyDict).push (PySem.W.instObj C s.heap.objs.size)).get? (s.heap.objs.size+1)=some (PySem.W.instObj C s.heap.objs.size):=by
  have:=Heap.get?_push_size (s.heap.push PySem.W.emptyDict) (o:=PySem.W.instObj C s.heap.objs.size) rfl
  rwa [Heap.size_push] at this
 have e3:(s.heap.push PySem.W.emptyDict).Ns s.heap.objs.size (fun _=>none):=⟨PySem.W.emptyDict, #[],_,e1,rfl,(fun e he=>absurd he (by simp)),fun _=>rfl⟩
 have I1:=I.laid (a:=s.heap.objs.size) (o:=.own (s.heap.objs.size+1)) (h':=s.heap.push PySem.W.emptyDict) (t':=s.toks) (fun b u q=>Heap.get?_push_of_some _ q) (Nat.le_refl _) ⟨_,e1⟩;refine I1.laid (a:=s.heap.objs.size+1) (o:=.ins C s.heap.objs.size []) (t':=s.toks) (fun b u q=>Heap.get?_push_of_some _ q) (Nat.le_of_eq (Heap.size_push _ _)) ?_;have ne:s.heap.objs.size≠s.heap.objs.size+1:=Nat.ne_of_lt (Nat.lt_succ_self _)
 refine⟨by rw[Zw ne,Zb],Nat.zero_le _,ne,e2,fun _=>none,(Heap.Ns1.of_empty e3).at fun o q=>Heap.get?_push_of_some _ q,fun _=>True.intro,fun y hy=>absurd rfl hy⟩
theorem Ziv{prog:Program}{w:World}{env:Env}{e:Expr}{f:Str}{pos:Pos}{s:Shared}{Q:Value->Shared->Prop}(hb:attributeBase e f env (eval e env)=eval e env)
  (h:wpAny (model prog w) A (eval e env) (fun o s₁=>wpAny (model prog w) A (getAttr o f true) Q E s₁) E s):wpAny (model prog w) A (eval (.Attribute e f pos) env) Q E s:=
 Attribute_any_ h (by rw[arm_eval_Attribute,hb])
end
def ZkV(K:PySem.W.Frag)(ta:TE)(f:Str):TE:=fun σ H Q=>ta σ H fun x H1=>∃a C dx fs v,x=.ref a/\H1 a=some (.ins C dx fs)/\Cls K C/\Xk K C f/\fs.lookup f=some v/\Q v H1
def ZkW(K:PySem.W.Frag)(ta tv:TE)(f:Str):TS:=fun D σ H=>tv σ H fun y H1=>ta σ H1 fun x H2=>∃a C dx fs,x=.ref a/\H2 a=some (.ins C dx fs)/\Cls K C/\Xk K C f/\fs.length<1000/\
 D.nx σ (upd H2 a (.ins C dx (Zas f y fs)))
section
variable {X:Cx} {o e value:Expr} {f:Str} {pos pos' tpos:Pos} {ta tv:TE}
theorem Zcm(he:PE X e ta)(hb:attributeBase e f X.env (eval e X.env)=eval e X.env):PE X (.Attribute e f pos) (ZkV X.K ta f):=by
 intro pins s σ H Q I h;refine Ziv hb (thn (he pins s σ H _ I h) fun u s1 ⟨x,H1,I1,rx,a,C,dx,fs,v,ex,ea,c,n,l,q⟩=> ?_);subst ex;obtain rfl:u=Value.ref a:=rx;exact ZfH I1 ea c n l fun u' s2 I2 ru=>⟨v,H1,I2,ru,q⟩
theorem Zeu(ha:PE X o ta)(hv:PE X value tv)(hs:swapsWith value (some (.Attribute o f pos')) pos.line X.env=pure false):PS X (.Assign [.Attribute o f pos'] value pos) (ZkW X.K ta tv f):=by
 intro pins s σ H D I h;refine plainObj_wpAny_Assign_Attribute (thn (hv pins s σ H _ I h) fun u s1 ⟨y,H1,I1,ry,q⟩=>thn (ha pins s1 σ H1 _ I1 q) fun ov s2 ⟨x,H2,I2,rx,a,C,dx,fs,ex,ea,c,n,l,q2⟩=> ?_) hs;subst ex;obtain rfl:ov=Value.ref a:=rx;exact ZfJ I2 ea c n l ry fun s3 I3=>⟨σ,_,I3,q2⟩
end
section
variable {X:Cx} {pins:List (Addr×Obj)} {σ:St} {H:Hp} {s:Shared} {A:Around} {E:Value->Shared->Prop} {Q:Value->Shared->Prop} {c:Value} {b:Bool}
end
end L2
namespace L2
open PySem PySem.Spec PyProof.Rows
structure Xl (k:Nat) (A:Around):Prop where
 hd:A.handled=none
 dp:A.depth+3*k+5<recursionLimit
 un:A.units+16*k+200<cLine
theorem Xl.mono{j k:Nat}{A:Around}(r:Xl k A)(h:j<=k):Xl j A:=⟨r.hd,by have:=r.dp;omega,by have:=r.un;omega⟩
theorem Xl.deeper{k:Nat}{A:Around}(r:Xl (k+1) A)(env:Env):Xl k (A.deeper env):=
 ⟨r.hd,by have:=r.dp;show A.depth+1+3*k+5<_;omega,by have:=r.un;show A.units+3+16*k+200<_;omega⟩
theorem ZfK{A:Around}{C:Addr}{us:List Value}{kw:List (Str×Value)}:(A.under (.builtin "type.__call__" ⟨.ref C::us,kw⟩)).depth=A.depth+1:=by
 first|rfl|simp[Around.under,Code.weight,Code.isCreation,Code.isGuard,Code.isCaller,Code.frames,Code.isFrame,guardIds]
theorem ZfL{A:Around}{C:Addr}{us:List Value}{kw:List (Str×Value)}:(A.under (.builtin "type.__call__" ⟨.ref C::us,kw⟩)).units=A.units+1:=by
 first|rfl|simp[Around.under,Code.cUnits,Code.frames,Code.isFrame]
theorem Xl.make{k:Nat}{A:Around}(r:Xl (k+1) A)(C:Addr)(us:List Value)(kw:List (Str×Value)):Xl k (A.under (.builtin "type.__call__" ⟨.ref C::us,kw⟩)):=
 ⟨r.hd,by have:=r.dp;rw[ZfK];omega,by have:=r.un;rw[ZfL];omega⟩
theorem Xl.depth{k:Nat}{A:Around}(r:Xl k A):A.depth<recursionLimit:=by have:=r.dp;omega
theorem Xl.units{k:Nat}{A:Around}(r:Xl k A):A.units+64<cLine:=by have:=r.un;omega
def ZgV:TA:=fun _ H Q=>Q [] H
def Zja(ta:TE)(tr:TA):TA:=fun σ H Q=>ta σ H fun x H1=>tr σ H1 fun xs H2=>Q (x::xs) H2
section
variable {X:Cx} {e:Expr} {es:List Expr} {te:TE} {t:TA} {pos:Pos}
theorem Zf:PA X [] ZgV:=fun _ _ _ _ H Q I h=>Calls.spliced_nil ⟨[],H,I,.nil,h⟩
theorem Za(ha:PE X e te)(hr:PA X es t)(hs:starEach (e::es) X.env=(false,eval e X.env)::starEach es X.env:=by rfl):PA X (e::es) (Zja te t):=by
 intro pos pins s σ H Q I h;rw[hs];show wpAny _ _ (spliced ((false,eval e X.env)::backTo pos (starEach es X.env))) _ _ s;refine Calls.spliced_cons (thn (ha pins s σ H _ I h) fun u s1 ⟨x,H1,I1,r1,q1⟩=> ?_);exact thn (hr pos pins s1 σ H1 _ I1 q1) fun us s2 ⟨xs,H2,I2,r2,q2⟩=>⟨x::xs,H2,I2,.cons r1 r2,q2⟩
def ZkX(t:TA):TE:=fun σ H Q=>t σ H fun xs H1=>xs.length<=sizeLine/\∀p,H1 p=none->Q (.ref p) (upd H1 p (.tup xs))
def Zkf(t:TA):TE:=fun σ H Q=>t σ H fun xs H1=>xs.length<=sizeLine/\∀p,H1 p=none->Q (.ref p) (upd H1 p (.lst xs))
theorem Zd7{x1}(h:PA X es t):PE X (.Tuple es x1 pos) (ZkX t):=by
 intro pins s σ H Q I hq;refine wpAny_Tuple_spliced (thn (h pos pins s σ H _ I hq) fun us s1 ⟨xs,H1,I1,r,z,q⟩=>⟨by rw[<-r.length];exact z, ?_⟩)
 have hf:H1 s1.heap.objs.size=none:=I1.hok.fresh (Nat.le_refl _);refine⟨.ref s1.heap.objs.size,upd H1 s1.heap.objs.size (.tup xs),I1.laid (t':=s1.toks) (fun b u e=>Heap.get?_push_of_some _ e) (Nat.le_refl _) ?_,rfl,q _ hf⟩;exact⟨z,us,r,⟨_,Heap.get?_push_size _ rfl,rfl,_,rfl⟩⟩
theorem Yg(h:PA X es t):PE X (.List es pos) (Zkf t):=by
 intro pins s σ H Q I hq;refine wpAny_List_spliced (thn (h pos pins s σ H _ I hq) fun us s1 ⟨xs,H1,I1,r,z,q⟩=>⟨by rw[<-r.length];exact z, ?_⟩)
 have hf:H1 s1.heap.objs.size=none:=I1.hok.fresh (Nat.le_refl _);refine⟨.ref s1.heap.objs.size,upd H1 s1.heap.objs.size (.lst xs),I1.laid (t':=s1.toks) (fun b u e=>Heap.get?_push_of_some _ e) (Nat.le_refl _) ?_,rfl,q _ hf⟩;exact⟨z,us,0,r,Heap.get?_push_size _ rfl⟩
end
abbrev Sp:=List V->Hp->VK->XK->Prop
abbrev CXT:=List Env->Hp->Shared->XK->Value->Shared->Prop
structure ZfM (P:Program) (w:World) (K:PySem.W.Frag) (mg:Str->Option Value) (base:Heap) (A:Around) (outer:List Env) (s:Shared) (H:Hp):Prop where
 frames:A.frames=some outer
 mod:Mod K mg base
 bs:∀b o,base.get? b=some o->s.heap.get? b=some o/\H b=none
 bsz:base.objs.size<=s.heap.objs.size
 funs:s.heap.FunFrames base outer
 frf:∀b∈frs outer,H b=none
 hok:HOk P w H s.heap
 bare:AllBare s.gens
def CE(outer:List Env)(P:Program)(w:World)(H:Hp)(s:Shared)(Q:VK)(u:Value)(s':Shared):Prop:=
 ∃v H',s'.os=s.os/\AllBare s'.gens/\Un (frs outer) [] H H' s.heap s'.heap/\HOk P w H' s'.heap/\Yr v u/\Q v H'
def CR(CX:CXT)(outer:List Env)(P:Program)(w:World)(H:Hp)(s:Shared)(Q:VK)(E:XK)(r:Result)(s':Shared):Prop:=
 match r with
 | .ok (.ret u)=>CE outer P w H s Q u s'
 | .ok _=>False
 | .error e=>CX outer H s E e s'
structure Yx (P:Program) (w:World) (K:PySem.W.Frag) (mg:Str->Option Value) (base:Heap) (CX:CXT) (k:Nat) (f:Addr) (fd:FuncData) (ps:List Str) (sp:Sp):Prop where
 len:∀vs H Q E,sp vs H Q E->vs.length=ps.length
 run:∀(A:Around) (outer:List Env) (s:Shared) (H:Hp) (args:Args) (us:List Value) (vs:List V) (Q:VK) (E:XK),Xl k A->ZfM P w K mg base A outer s H->BindsTo s fd args (ps.zip us)->ZZ vs us->sp vs H Q E->
  codeAny (model P w) A (.call (.ref f) args) (CR CX outer P w H s Q E) s
theorem ZfM.make{P:Program}{w:World}{K:PySem.W.Frag}{mg:Str->Option Value}{base:Heap}{A:Around}{outer:List Env}{s:Shared}{H:Hp}(e:ZfM P w K mg base A outer s H)(C:Addr)(us:List Value)(kw:List (Str×Value)):
  ZfM P w K mg base (A.under (.builtin "type.__call__" ⟨.ref C::us,kw⟩)) outer s H:=⟨by first|exact e.frames|(simpa [Around.under,Code.envs,Code.isFrame,pushEnvs] using e.frames),e.mod,e.bs,e.bsz,e.funs,e.frf,e.hok,e.bare⟩
section
variable {X:Cx} {pins:List (Addr×Obj)} {σ:St} {H:Hp} {s s':Shared}
theorem Inv.env0(I:Inv X pins σ H s):ZfM X.prog X.w X.K X.mg X.base X.A X.stack s H:=
 ⟨I.ok.frames,I.ok.mod,I.bs,Nat.le_trans I.ok.bsz I.sz,I.stack,I.stkFree,I.hok,I.bare⟩
theorem Inv.after{Q:VK}{u:Value}(I:Inv X pins σ H s)(h:CE X.stack X.prog X.w H s Q u s'):EP X pins σ Q u s':=by
 obtain⟨v,H',os,bare,un,hok,r,q⟩:=h;obtain⟨hh,g,d,t,os'⟩:=s';obtain rfl:os'=s.os:=os;exact⟨v,H',I.call (h':=hh) (g':=g) (d':=d) (t':=t) (ch:=[]) un hok bare (fun b z=>absurd z (by simp)),r,q⟩
end
def Zgt(sp:Sp)(dvs:List V)(E:XK)(t:TA):TE:=fun σ H Q=>t σ H fun vs H1=>sp (vs++dvs) H1 Q E
def Zjb(C:Addr)(sp:Sp)(dvs:List V)(E:XK)(t:TA):TE:=fun σ H Q=>t σ H fun vs H1=>∀x dx,H1 x=none->H1 dx=none->dx≠x->
 sp (.ref x::(vs++dvs)) (upd (upd H1 dx (.own x)) x (.ins C dx [])) (fun v H2=>v=.non/\Q (.ref x) H2) E
def Zb0(K:PySem.W.Frag)(fd:FuncData)(ps:List Str)(ds:List Value):Prop:=
 ∀(s:Shared) (us:List Value),K.In s.heap->(us++ds).length=ps.length->BindsTo s fd ⟨us,[]⟩ (ps.zip (us++ds))
theorem Zb0.all{K:PySem.W.Frag}{fd:FuncData}{ps:List Str}(h:∀us:List Value,us.length=ps.length->bindArgs fd ⟨us,[]⟩=pure (ps.zip us)):Zb0 K fd ps []:=fun s us _ hl=>by
 rw[List.append_nil] at hl⊢
 exact .of_eq (h us hl)
def JK(CX:CXT)(X:Cx)(E:XK):Prop:=∀(pins:List (Addr×Obj)) (σ:St) (H:Hp) (s:Shared) (e:Value) (s':Shared),Inv X pins σ H s->CX X.stack H s E e s'->X.xe e s'
section
variable {X:Cx} {CX:CXT} {k:Nat} {f C:Addr} {fd:FuncData} {ps:List Str} {sp:Sp} {dvs:List V} {ds:List Value} {E:XK} {x m:Str} {p pos apos:Pos} {e o:Expr} {es:List Expr} {ta:TE} {t:TA}
theorem ZfN{pins:List (Addr×Obj)}{σ:St}{H:Hp}{s:Shared}{Q:VK}{us:List Value}{vs:List V}(F:Yx X.prog X.w X.K X.mg X.base CX k f fd ps sp)(hr:Xl k X.A)(hb:Zb0 X.K fd ps ds)(hd:ZZ dvs ds)(hx:JK CX X E)
  (I:Inv X pins σ H s)(r:ZZ vs us)(h:sp (vs++dvs) H Q E):wpAny (model X.prog X.w) X.A (call (.ref f) us) (EP X pins σ Q) X.xe s:=by
 have r2:ZZ (vs++dvs) (us++ds):=r.append hd;have hl:(us++ds).length=ps.length:=by rw[<-r2.length];exact F.len _ _ _ _ h
 refine wpAny_call (codeAny_mono (F.run X.A X.stack s H ⟨us,[]⟩ (us++ds) (vs++dvs) Q E hr I.env0 (hb s us I.kIn hl) r2 h) fun r s' hq=> ?_);cases r with
 |error e=>exact hx pins σ H s e s' I hq
 |ok fl=>
  cases fl with
  |ret u=>exact I.after hq
  |next=>exact False.elim hq
  |brk=>exact False.elim hq
  |cont=>exact False.elim hq
theorem Ziw(F:Yx X.prog X.w X.K X.mg X.base CX k f fd ps sp)(hr:Xl k X.A)(hg:Gl X x)(hm:X.mg x=some (.ref f))(hk:PySem.W.keepIn X.K (.ref f)=true)(hb:Zb0 X.K fd ps ds)(hd:ZZ dvs ds)(hx:JK CX X E)
  (ha:PA X (e::es) t)(hdb:(x==("__debug__":Str))=false:=by decide)(he:starEach (e::es) X.env=(false,eval e X.env)::starEach es X.env:=by rfl)(hpl:(backTo pos (starEach es X.env)).any (·.1)=false:=by rfl):
  PE X (.Call (.Name x p) (e::es) [] pos) (Zgt sp dvs E t):=by
 intro pins s σ H Q I h;refine wpAny_Call_Name_kw (XC I hg hm ?_ hdb);refine PySem.W.callWith_K (h₀:=X.base) I.ok.mod.kin hk (thn (ha pos pins s σ H _ I h) fun us s1 ⟨vs,H1,I1,r,q⟩=>⟨I1.kIn, ?_⟩) he hpl;exact ZfN F hr hb hd hx I1 r q
theorem Zho(F:Yx X.prog X.w X.K X.mg X.base CX k f fd ps sp)(hr:Xl k X.A)(hg:Gl X x)(hm:X.mg x=some (.ref f))(hk:PySem.W.keepIn X.K (.ref f)=true)(hb:Zb0 X.K fd ps ds)(hd:ZZ dvs ds)(hx:JK CX X E)
  (hdb:(x==("__debug__":Str))=false:=by decide):PE X (.Call (.Name x p) [] [] pos) (Zgt sp dvs E ZgV):=by
 intro pins s σ H Q I h;refine wpAny_Call_Name_kw (XC I hg hm ?_ hdb);exact PySem.W.callWith_K0 I.kIn hk (ZfN (us:=[]) F hr hb hd hx I .nil h)
structure Mk (K:PySem.W.Frag) (C f:Addr):Prop where
 makes:PySem.W.makesIn K C=true
 init:PySem.W.findIn K (.ref C) "__init__"=some (some (.ref f))
 fn:PySem.W.isFn K (.ref f)=true
 kp:PySem.W.keepIn K (.ref C)=true
theorem Zhp{pins:List (Addr×Obj)}{σ:St}{H:Hp}{s:Shared}{Q:VK}{us:List Value}{vs:List V}(M:Mk X.K C f)(F:Yx X.prog X.w X.K X.mg X.base CX k f fd ps sp)(hr:Xl (k+1) X.A)(hb:Zb0 X.K fd ps ds)(hd:ZZ dvs ds)
  (hx:JK CX X E)(I:Inv X pins σ H s)(r:ZZ vs us)
  (h:∀x dx,H x=none->H dx=none->dx≠x->sp (.ref x::(vs++dvs)) (upd (upd H dx (.own x)) x (.ins C dx [])) (fun v H2=>v=.non/\Q (.ref x) H2) E):
  wpAny (model X.prog X.w) X.A (call (.ref C) us) (EP X pins σ Q) X.xe s:=by
 have hq:=h (s.heap.objs.size+1) s.heap.objs.size (I.hok.fresh (Nat.le_succ _)) (I.hok.fresh (Nat.le_refl _)) (Nat.ne_of_lt (Nat.lt_succ_self _));have I2:=Inv.made (C:=C) I;have r2:ZZ (V.ref (s.heap.objs.size+1)::(vs++dvs)) (Value.ref (s.heap.objs.size+1)::(us++ds)):=.cons rfl (r.append hd);have hl:(Value.ref (s.heap.objs.size+1)::us++ds).length=ps.length:=by
  have e:=r2.length;rw[F.len _ _ _ _ hq] at e
  exact e.symm
 refine wpAny_call (Zhn (f:=f) I.kIn M.makes M.init (beq_iff_eq.mp M.fn) (codeAny_mono (F.run _ X.stack _ _ ⟨Value.ref (s.heap.objs.size+1)::us,[]⟩ (Value.ref (s.heap.objs.size+1)::(us++ds)) _ _ E (hr.make C us [])
  (I2.env0.make C us []) (hb _ (Value.ref (s.heap.objs.size+1)::us) I2.kIn hl) r2 hq) fun r s' hq'=> ?_))
 cases r with
 |error e=>exact hx pins σ _ _ e s' I2 hq'
 |ok fl=>
  cases fl with
  |ret u=>
   obtain⟨v,H',I3,rv,ev,q3⟩:=I2.after hq';subst ev;exact⟨rv,⟨V.ref (s.heap.objs.size+1),H',I3,rfl,q3⟩⟩
  |next=>exact False.elim hq'
  |brk=>exact False.elim hq'
  |cont=>exact False.elim hq'
theorem Zix(M:Mk X.K C f)(F:Yx X.prog X.w X.K X.mg X.base CX k f fd ps sp)(hr:Xl (k+1) X.A)(hg:Gl X x)(hm:X.mg x=some (.ref C))(hb:Zb0 X.K fd ps ds)(hd:ZZ dvs ds)(hx:JK CX X E)
  (ha:PA X (e::es) t)(hdb:(x==("__debug__":Str))=false:=by decide)(he:starEach (e::es) X.env=(false,eval e X.env)::starEach es X.env:=by rfl)(hpl:(backTo pos (starEach es X.env)).any (·.1)=false:=by rfl):
  PE X (.Call (.Name x p) (e::es) [] pos) (Zjb C sp dvs E t):=by
 intro pins s σ H Q I h;refine wpAny_Call_Name_kw (XC I hg hm ?_ hdb);refine PySem.W.callWith_K (h₀:=X.base) I.ok.mod.kin M.kp (thn (ha pos pins s σ H _ I h) fun us s1 ⟨vs,H1,I1,r,q⟩=>⟨I1.kIn, ?_⟩) he hpl;exact Zhp M F hr hb hd hx I1 r q
end
section
variable {X:Cx} {CX:CXT} {k:Nat} {f C:Addr} {fd:FuncData} {ps ks:List Str} {sp:Sp} {E:XK} {x m:Str} {p pos apos kpos:Pos} {e o:Expr} {es:List Expr} {kws:List Keyword} {te ta:TE} {t tk:TA} {nm:Option Str}
variable {g:List Value->List Value->List Value} {gV:List V->List V->List V}
end
structure ZV (N P:List Str) (sc:Scope):Prop where
 kind:sc.kind=.function
 co:sc.isCoroutine=false
 gen:sc.isGenerator=false
 nd:N.Nodup
 pre:N.take P.length=P
 par:∀x∈P,sc.names.lookup x=some .local\/sc.names.lookup x=some .cell
 nofree:∀y∈sc.names,y.2≠.free
theorem Ze4{kindOf:Str->Option NameKind}{x:Str}:∀{binds:List (Str×Value)} {m:Str->Option Value},(∀v,(x,v)∉binds)->bindL kindOf binds m x=m x
 |[],_,_=>rfl
 |(n,v)::r,m,h=>by
  unfold bindL;rw[Ze4 fun w hw=>h w (List.mem_cons_of_mem _ hw)]
  split
  ·have:x≠n:=by rintro rfl;exact h v List.mem_cons_self
   simp[this]
  ·rfl
theorem Ze5{kindOf:Str->Option NameKind}{x:Str}:∀{binds:List (Str×Value)} {m:Str->Option Value},(∀v,(x,v)∉binds)->bindC kindOf binds m x=m x
 |[],_,_=>rfl
 |(n,v)::r,m,h=>by
  unfold bindC;rw[Ze5 fun w hw=>h w (List.mem_cons_of_mem _ hw)]
  split
  ·rfl
  ·have:x≠n:=by rintro rfl;exact h v List.mem_cons_self
   simp[this]
theorem Ze6{kindOf:Str->Option NameKind}{x:Str}{v:Value}:∀{P:List Str} {vs:List Value} {i:Nat} {m:Str->Option Value},P.Nodup->P[i]? =some x->vs[i]? =some v->kindOf x=some .local->
  bindL kindOf (P.zip vs) m x=some v
 |[],_,_,_,_,h,_,_=>by simp at h
 |_::_,[],_,_,_,_,h,_=>by simp at h
 |p::P,w::vs,0,m,nd,h1,h2,hk=>by
  simp at h1 h2;subst h1;subst h2
  show bindL kindOf ((p,w)::P.zip vs) m p=_;unfold bindL;rw[Ze4 fun v hv=>(List.nodup_cons.mp nd).1 (List.of_mem_zip hv).1,if_pos hk];simp
 |p::P,w::vs,i+1,m,nd,h1,h2,hk=>by
  show bindL kindOf ((p,w)::P.zip vs) m x=_;unfold bindL;exact Ze6 (i:=i) (List.nodup_cons.mp nd).2 (by simpa using h1) (by simpa using h2) hk
theorem Ze7{kindOf:Str->Option NameKind}{x:Str}{v:Value}:∀{P:List Str} {vs:List Value} {i:Nat} {m:Str->Option Value},P.Nodup->P[i]? =some x->vs[i]? =some v->kindOf x≠some .local->
  bindC kindOf (P.zip vs) m x=some v
 |[],_,_,_,_,h,_,_=>by simp at h
 |_::_,[],_,_,_,_,h,_=>by simp at h
 |p::P,w::vs,0,m,nd,h1,h2,hk=>by
  simp at h1 h2;subst h1;subst h2
  show bindC kindOf ((p,w)::P.zip vs) m p=_;unfold bindC;rw[Ze5 fun v hv=>(List.nodup_cons.mp nd).1 (List.of_mem_zip hv).1,if_neg hk];simp
 |p::P,w::vs,i+1,m,nd,h1,h2,hk=>by
  show bindC kindOf ((p,w)::P.zip vs) m x=_;unfold bindC;exact Ze7 (i:=i) (List.nodup_cons.mp nd).2 (by simpa using h1) (by simpa using h2) hk
def Zb1(N:List Str)(vs:List V):St:=vs.map some++List.replicate (N.length-vs.length) none
def Yh(CX:CXT)(P:Program)(w:World)(K:PySem.W.Frag)(mg:Str->Option Value)(base:Heap)(N:List Str)(qual:Str)(scope:Scope)(f:Addr)(cd:Value)(A:Around)(outer:List Env)(s:Shared)(H:Hp)(E:XK):Cx where
 prog:=P
 w:=w
 K:=K
 mg:=mg
 base:=base
 A:=A.deeper (envOfC qual scope s.heap.objs.size f cd)
 N:=N
 s₀:=s
 H₀:=H
 env:=envOfC qual scope s.heap.objs.size f cd
 outer:=outer
 stack:=envOfC qual scope s.heap.objs.size f cd::outer
 ex:=[]
 calm:=true
 fn:=fun _=>true
 pn:=[]
 xe:=fun e s'=>wpAny (model P w) (A.deeper (envOfC qual scope s.heap.objs.size f cd)) (leaving (envOfC qual scope s.heap.objs.size f cd) e) (fun _ s''=>CX outer H s E e s'') (fun e' s''=>CX outer H s E e' s'') s'
theorem Zfe{sc:Scope}{n:Nat}{x:Str}(h:sc.names.lookup x=some .cell):∃c,(cellsFrom n sc.names []).lookup x=some c:=by
 have q:=PySem.W.cellsFrom_some sc.names n [] (.inl h);exact Option.isSome_iff_exists.mp q
theorem ZgW{CX:CXT}{P:Program}{w:World}{K:PySem.W.Frag}{mg:Str->Option Value}{base:Heap}{N ps:List Str}{qual:Str}{scope:Scope}{f:Addr}{cd:Value}{A:Around}{outer:List Env}{s s1:Shared}{H:Hp}{E:XK}{us:List Value}{vs:List V}
  (S:ZV N ps scope)(hd:A.handled=none)(e0:ZfM P w K mg base A outer s H)(hl:vs.length=ps.length)(r:ZZ vs us)
  (x:InCallC s s.heap.objs.size (bindL (envOfC qual scope s.heap.objs.size f cd).kindOf (ps.zip us) fun _=>none) (cellsFrom (s.heap.objs.size+1) scope.names []) (bindC (envOfC qual scope s.heap.objs.size f cd).kindOf (ps.zip us) fun _=>none) s1):
  Inv (Yh CX P w K mg base N qual scope f cd A outer s H E) [] (Zb1 N vs) H s1:=by
 have hpl:ps.length<=N.length:=by have:=congrArg List.length S.pre;rw[List.length_take] at this;omega
 obtain⟨h1,tk,rfl,hk⟩:=x.done;have noA:∀b:Addr,b∉(Yh CX P w K mg base N qual scope f cd A outer s H E).ex:=fun b z=>absurd (show b∈([]:List Addr) from z) (by simp);refine⟨⟨e0.mod,S.kind,rfl,rfl,Nat.le_refl _,fun y z c h1 h2=> ?_,fun y hy=> ?_,fun y c _ h=> ?_,fun _=>hd,Around.frames_deeper e0.frames,.inr ⟨rfl,rfl⟩,fun b z=>absurd z (noA b),e0.bs,e0.bsz,fun b _ _=>noA b,fun b z=>absurd z (noA b),e0.funs,e0.frf⟩,
  rfl,e0.bare,Un.kept hk,⟨_,x.toInCall.ns,fun i y v h1 h2 h3=> ?_⟩,fun y c h=>⟨_,x.cell y c h⟩,e0.hok.fresh (Nat.le_refl _),fun y c h=> ?_,fun p hp=>absurd (show p∈([]:List (Addr×Obj)) from hp) (by simp),e0.hok.kept hk, ?_⟩
 ·exact name_of_addr x.apart (PySem.mem_of_lookup h1) (PySem.mem_of_lookup h2)
 ·have hy:scope.names.lookup y=some .cell\/scope.names.lookup y=some .free:=hy;rcases hy with hy|hy
  ·exact Zfe hy
  ·exact absurd rfl (S.nofree _ (PySem.mem_of_lookup hy))
 ·exact Nat.le_of_lt (x.above y c (PySem.mem_of_lookup h))
 ·have hi:i<vs.length:=by
   unfold Zb1 at h2
   by_cases hi:i<vs.length
   ·exact hi
   ·rw[List.getElem?_append_right (by simpa using hi)] at h2
    rw[List.getElem?_replicate] at h2
    split at h2<;>cases h2
  have ha:vs[i]? =some v:=by
   unfold Zb1 at h2
   rw[List.getElem?_append_left (by simpa using hi),List.getElem?_map] at h2
   cases e:vs[i]? with
   |none=>rw[e] at h2;cases h2
   |some a=>rw[e] at h2;cases h2;rfl
  obtain⟨u,hu,rv⟩:=r.get ha;have hp:ps[i]? =some y:=by
   rw[<-S.pre,List.getElem?_take_of_lt (by omega)];exact h1
  have ndP:ps.Nodup:=by rw[<-S.pre];exact S.nd.sublist (List.take_sublist _ _)
  refine⟨u,rv, ?_⟩;rcases S.par y (List.mem_of_getElem? hp) with k|k
  ·exact .inl ⟨k,Ze6 ndP hp hu k⟩
  ·obtain⟨c,e⟩:=Zfe (n:=s.heap.objs.size+1) k;refine .inr ⟨.inl k,c,e, ?_⟩;have q:=x.cell y c e;rw[Ze7 ndP hp hu (by show scope.names.lookup y≠_;rw[k];decide)] at q
   exact q
 ·exact e0.hok.fresh (Nat.le_of_lt (x.above y c (PySem.mem_of_lookup h)))
 ·unfold Zb1;show _=N.length;rw[List.length_append,List.length_map,List.length_replicate];omega
theorem Zjc{CX:CXT}{P:Program}{w:World}{K:PySem.W.Frag}{mg:Str->Option Value}{base:Heap}{k:Nat}{f:Addr}{name qual:Str}{params:Arguments}{body:List Stmt}{scope:Scope}{dV kV doc pm cdv ct oc:Value}{an od:Option Addr}
  {osl:Array (Option Value)}{N ps:List Str}{sp:Sp}(lk:K.lookup f=some ⟨oc,od,.func (PySem.W.fnOf name qual params body scope dV kV doc pm an cdv ct),osl⟩)(hcd:PySem.W.codeIn K cdv qual=true)(S:ZV N ps scope)
  (len:∀vs H Q E,sp vs H Q E->vs.length=ps.length)
  (hbody:∀(A:Around) (outer:List Env) (s:Shared) (H:Hp) (vs:List V) (Q:VK) (E:XK),Xl k (A.deeper (envOfC qual scope s.heap.objs.size f cdv))->sp vs H Q E->
   ∃t,PSs (Yh CX P w K mg base N qual scope f cdv A outer s H E) body t/\t {nx:=fun _ H'=>Q .non H',rt:=Q} (Zb1 N vs) H):
  Yx P w K mg base CX (k+1) f (PySem.W.fnOf name qual params body scope dV kV doc pm an cdv ct) ps sp:=by
 refine⟨len,fun A outer s H args us vs Q E hr e0 hb r hsp=> ?_⟩;have hl:=len _ _ _ _ hsp;have KX:K.In s.heap:=e0.mod.kin.keeps fun b o e=>(e0.bs b o e).1;have lim:s.heap.NoLimit:=e0.mod.nolimit.keeps fun b o e=>(e0.bs b o e).1;have hkind:∀y∈ps.zip us,scope.names.lookup y.1=some .local\/(scope.names.lookup y.1=some .cell/\((cellsFrom (s.heap.objs.size+1) scope.names []).lookup y.1).isSome=true):=fun⟨n,v⟩ hy=>by
  rcases S.par n (List.of_mem_zip hy).1 with q|q
  ·exact .inl q
  ·exact .inr ⟨q,PySem.W.cellsFrom_some _ _ _ (.inl q)⟩
 refine codeAny_call_function hr.depth (KX _ _ lk) rfl S.co S.gen rfl (PySem.W.codeRec_of KX hcd) (hb _ _ _ _ ?_);refine wpAny_newFunctionEnv_cells S.kind hkind fun env he s1 x=> ?_;subst he;refine⟨lim.keeps x.toInCall.keep,codeAny_func ?_⟩;obtain⟨t,ht,hq⟩:=hbody A outer s H vs Q E (hr.deeper _) hsp;have I:Inv (Yh CX P w K mg base N qual scope f cdv A outer s H E) [] (Zb1 N vs) H s1:=ZgW S hr.hd e0 hl r x
 refine wpAny_mono (ht [] s1 (Zb1 N vs) H _ I hq) (fun fl s' hs=> ?_) fun e s' hs=>hs;have fin:∀{σ':St} {H':Hp} {v:V} {u:Value},Inv (Yh CX P w K mg base N qual scope f cdv A outer s H E) [] σ' H' s'->Yr v u->Q v H'->CE outer P w H s Q u s':=
  fun{σ' H' v u} J rv q=>⟨v,H',J.os,J.bare,J.base,J.hok,rv,q⟩
 cases fl with
 |ret u=>
  obtain⟨v,σ',H',J,rv,q⟩:=hs;exact fin J rv q
 |next=>
  obtain⟨σ',H',J,q⟩:=hs;exact fin (v:=V.non) (u:=Value.none) J rfl q
 |brk=>
  obtain⟨_,_,_,q⟩:=hs;exact False.elim q
 |cont=>
  obtain⟨_,_,_,q⟩:=hs;exact False.elim q
end L2
namespace L2
open PySem PySem.Spec PyProof.Rows
section
variable {X:Cx} {x:Str} {p pos:Pos} {e:Expr} {es:List Expr} {t:TA} {id T:String} {r:List V->Hp->VK->Prop}
def tCB(r:List V->Hp->VK->Prop)(t:TA):TE:=fun σ H Q=>t σ H fun vs H1=>r vs H1 Q
theorem ZL(hc:ZbY X (.builtin id) r)(hg:Gl X x)(hm:X.mg x=none)(hv:bootBuiltins x=some (.builtin id))(ha:PA X (e::es) t)(hn:x≠"__name__":=by decide)(hdb:(x==("__debug__":Str))=false:=by decide)
  (he:starEach (e::es) X.env=(false,eval e X.env)::starEach es X.env:=by rfl)(hpl:(backTo pos (starEach es X.env)).any (·.1)=false:=by rfl):PE X (.Call (.Name x p) (e::es) [] pos) (tCB r t):=by
 intro pins s σ H Q I h;refine wpAny_Call_Name_kw (Zci I hg hm hv ?_ hn hdb);exact PyProof.Rows.callWith_builtin1 (thn (ha pos pins s σ H _ I h) fun us s1 ⟨vs,H1,I1,r1,q1⟩=>hc pins s1 σ H1 vs us Q I1 r1 q1) he hpl
theorem Xy(hc:ZbY X (.type T) r)(hg:Gl X x)(hm:X.mg x=none)(hv:bootBuiltins x=some (.type T))(ha:PA X (e::es) t)(hn:x≠"__name__":=by decide)(hdb:(x==("__debug__":Str))=false:=by decide)
  (he:starEach (e::es) X.env=(false,eval e X.env)::starEach es X.env:=by rfl)(hpl:(backTo pos (starEach es X.env)).any (·.1)=false:=by rfl):PE X (.Call (.Name x p) (e::es) [] pos) (tCB r t):=by
 intro pins s σ H Q I h;refine wpAny_Call_Name_kw (Zci I hg hm hv ?_ hn hdb);exact PyProof.Rows.callWith_type1 (thn (ha pos pins s σ H _ I h) fun us s1 ⟨vs,H1,I1,r1,q1⟩=>hc pins s1 σ H1 vs us Q I1 r1 q1) he hpl
end
end L2
namespace HT
open PySem PyProof.Rows
section
open PySem.SeqAt
open PySem.AutoSeq1 (wpAny_loadPart')
open PySem.MeetsSeq PySem.MeetsSeq2 PySem.MeetsSeq3
end
section
variable {prog:Program} {w:World} {A:Around} {E:Value->Shared->Prop} {s:Shared}
def sIx(n d:Nat):Option Int->Nat
 |none=>d
 |some v=>if v<0 then(v+(n:Int)).toNat else min v.toNat n
end
end HT
namespace L2
open PySem PySem.Spec PyProof.Rows
abbrev TO:=St->Hp->(Option Int->Hp->Prop)->Prop
def PO(X:Cx)(e:Option Expr)(t:TO):Prop:=
 ∀(pins:List (Addr×Obj)) (s:Shared) (σ:St) (H:Hp) (Q:Option Int->Hp->Prop),Inv X pins σ H s->t σ H Q->
  wpAny (model X.prog X.w) X.A (evalPart e X.env) (fun u s'=>∃o H',Inv X pins σ H' s'/\IsPart u o/\Q o H') X.xe s
def Ziy:TO:=fun _ H Q=>Q none H
def Zkg(t:TE):TO:=fun σ H Q=>t σ H fun x H1=>∃i,x=.int i/\Q (some i) H1
section
variable {X:Cx} {e:Expr} {te:TE} {lo hi:Option Expr} {tl th:TO} {pos p2:Pos}
theorem Xa:PO X none Ziy:=by
 intro pins s σ H Q I h;rw[evalPart_none];exact wpAny_pure ⟨none,H,I,.none,h⟩
theorem Ys(h:PE X e te):PO X (some e) (Zkg te):=by
 intro pins s σ H Q I hw;rw[evalPart_some];refine thn (h pins s σ H _ I hw) fun u s1 ⟨x,H1,I1,r1,q1⟩=> ?_;obtain⟨i,rfl,q⟩:=q1;obtain⟨t,rfl⟩:=r1;exact⟨some i,H1,I1,.int i t,q⟩
def SlR(X:Cx)(r:V->Option Int->Option Int->Hp->VK->Prop):Prop:=
 ∀(pins:List (Addr×Obj)) (s:Shared) (σ:St) (H:Hp) (x:V) (v vl vu:Value) (lo hi:Option Int) (sl:Addr) (Q:VK),Inv X pins σ H s->Yr x v->s.heap.IsSliceOf sl vl vu .none->IsPart vl lo->IsPart vu hi->r x lo hi H Q->
  ∃T id,typeLookup (.type T) "__getitem__"=pure (some (.builtin id))/\s.TypeIs v T/\wpAny (model X.prog X.w) X.A (getItem v (.ref sl)) (EP X pins σ Q) X.xe s
def tSl(r:V->Option Int->Option Int->Hp->VK->Prop)(te:TE)(tl th:TO):TE:=fun σ H Q=>te σ H fun x H1=>tl σ H1 fun l H2=>th σ H2 fun u H3=>r x l u H3 Q
theorem Yo{r:V->Option Int->Option Int->Hp->VK->Prop}(hr:SlR X r)(he:PE X e te)(hl:PO X lo tl)(hu:PO X hi th):PE X (.Subscript e (.Slice lo hi none p2) pos) (tSl r te tl th):=by
 intro pins s σ H Q I h;refine Subscript_ (thn (he pins s σ H _ I h) fun v s1 ⟨x,H1,I1,r1,q1⟩=> ?_);refine wpAny_Slice (thn (hl pins s1 σ H1 _ I1 q1) fun vl s2 ⟨l,H2,I2,pl,q2⟩=>thn (hu pins s2 σ H2 _ I2 q2) fun vu s3 ⟨u,H3,I3,pu,q3⟩=> ?_);rw[evalPart_none];refine wpAny_pure ?_;have I4:Inv X pins σ H3 {s3 with heap:=s3.heap.push {cls:=.type "slice",data:=.fields #[vl,vu,.none]}}:=I3.kept (t':=s3.toks) fun b ob q=>Heap.get?_push_of_some _ q
 obtain⟨T,id,hT,ht,hg⟩:=hr pins {s3 with heap:=s3.heap.push {cls:=.type "slice",data:=.fields #[vl,vu,.none]}} σ H3 x v vl vu l u s3.heap.objs.size Q I4 r1 (Heap.IsSliceOf.new ..) pl pu q3;show wpAny (model X.prog X.w) X.A (subscriptTail e (.Slice lo hi none p2) v (.ref s3.heap.objs.size)) (EP X pins σ Q) X.xe {s3 with heap:=s3.heap.push {cls:=.type "slice",data:=.fields #[vl,vu,.none]}};exact tail_any (ops:=[.ref s3.heap.objs.size,v]) ht hT hg (by with_unfolding_all rfl)
def ZaY(xs:List V)(lo hi:Option Int):List V:=(xs.drop (HT.sIx xs.length 0 lo)).take (HT.sIx xs.length xs.length hi-HT.sIx xs.length 0 lo)
theorem Zff(xs:List V)(lo hi:Option Int):(ZaY xs lo hi).length<=xs.length:=by
 unfold ZaY;rw[List.length_take,List.length_drop];omega
end
end L2
namespace L2
open PySem PySem.Spec PyProof.Rows
def ixN(n:Nat)(i:Int):Option Nat:=if 0<=i then(if i<n then some i.toNat else none) else if-(n:Int)<=i then some (i+n).toNat else none
def atI{α:Type}(xs:List α)(i:Int):Option α:=(ixN xs.length i).bind fun j=>xs[j]?
theorem Ziz{n:Nat}{i:Int}{j:Nat}(h:ixN n i=some j):seqIndex? i n=some j/\j<n/\-(n:Int)<=i/\i<n:=by
 unfold ixN at h
 by_cases h0:0<=i
 ·rw[if_pos h0] at h
  by_cases h1:i<n
  ·rw[if_pos h1] at h
   have e:i.toNat=j:=Option.some.inj h;exact⟨by rw[seqIndex_of h0 h1,e],by omega,by omega,h1⟩
  ·rw[if_neg h1] at h;cases h
 ·rw[if_neg h0] at h
  by_cases h1: -(n:Int)<=i
  ·rw[if_pos h1] at h
   have e:(i+n).toNat=j:=Option.some.inj h;exact⟨by rw[seqIndex_neg (by omega) h1,e],by omega,h1,by omega⟩
  ·rw[if_neg h1] at h;cases h
theorem Zc1{α:Type}{xs:List α}{i:Int}{v:α}(h:atI xs i=some v):∃j,seqIndex? i xs.length=some j/\xs[j]? =some v/\j<xs.length/\-(xs.length:Int)<=i/\i<xs.length:=by
 unfold atI at h
 cases e:ixN xs.length i with
 |none=>rw[e] at h;cases h
 |some j=>
  rw[e] at h
  obtain⟨h1,h2,h3,h4⟩:=Ziz e;exact⟨j,h1,h,h2,h3,h4⟩
def ZiA(b:Expr):Prop:=∀o i,subscripted b false o i=operate [o,i] (getItem o i)
def IxR(X:Cx)(r:R2):Prop:=
 ∀(value slice:Expr) (pins:List (Addr×Obj)) (s:Shared) (σ:St) (H:Hp) (x y:V) (v u:Value) (Q:VK),Inv X pins σ H s->Yr x v->Yr y u->r x y H Q->
  subscripted slice false v u=operate [v,u] (getItem v u)->wpAny (model X.prog X.w) X.A (subscriptTail value slice v u) (EP X pins σ Q) X.xe s
def MtR(X:Cx)(id:String)(r:V->List V->Hp->VK->Prop):Prop:=
 ∀(pins:List (Addr×Obj)) (s:Shared) (σ:St) (H:Hp) (x:V) (xs:List V) (v:Value) (us:List Value) (Q:VK),Inv X pins σ H s->Yr x v->ZZ xs us->r x xs H Q->
  wpAny (model X.prog X.w) X.A (call (.builtin id) (v::us)) (EP X pins σ Q) X.xe s
section
variable {X:Cx} {a b:Expr} {ta tb:TE} {pos:Pos}
theorem YJ{r:R2}(hr:IxR X r)(ha:PE X a ta)(hb:PE X b tb)(hs:ZiA b):PE X (.Subscript a b pos) (tOp r ta tb):=by
 intro pins s σ H Q I h;exact Subscript_ (Zjq ha hb I h fun v u s2 x y H2 I2 rx ry q=>hr a b pins s2 σ H2 x y v u Q I2 rx ry q (hs _ _))
def ZkY(K:PySem.W.Frag):R2:=fun x y H Q=>∃p xs i v,x=.ref p/\y=.int i/\SqL K H p xs/\atI xs i=some v/\Q v H
def Zkh(K:PySem.W.Frag):R2:=fun x y H Q=>∃p xs i v,x=.ref p/\y=.int i/\SqT K H p xs/\atI xs i=some v/\Q v H
def ZkZ:R2:=fun x y H Q=>∃z i c,x=.str z/\y=.int i/\z.length<=sizeLine/\atI z.cps.toList i=some c/\Q (.str ⟨#[c]⟩) H
theorem Xb:IxR X (ZkY X.K):=by
 intro value slice pins s σ H x y v u Q I rx ry h hs;obtain⟨p,xs,i,z,rfl,rfl,hq,he,q⟩:=h;cases rx;obtain⟨t,rfl⟩:=ry;obtain⟨its,r,pl,hz⟩:=I.list hq;obtain⟨j,h1,h2,h3,h4,h5⟩:=Zc1 he;obtain⟨w,ew,rw'⟩:=r.get h2;have hl:=r.length;have hn:=Zes;have fin:EP X pins σ Q w s:=⟨z,H,I,rw',q⟩
 by_cases h0:0<=i
 ·have hj:i.toNat=j:=by
   rw[seqIndex_of h0 h5] at h1
   exact Option.some.inj h1
  exact item_listR pl.isList h0 (by omega) (by rw[hj];simpa using ew) fin hs
 ·have hj:(i+(its.toArray.size:Int)).toNat=j:=by
   rw[seqIndex_neg (by omega) h4] at h1
   rw[List.size_toArray,<-hl];exact Option.some.inj h1
  exact subscriptTail_builtinR (x:=w) pl.isList.typeIs slot_list_getitem.lookup
   (wpAny_getItem_list_neg (Q:=fun r s'=>r=w/\EP X pins σ Q r s') pl.isList (by omega) (by rw[List.size_toArray]<;>omega) (by omega) (by rw[hj];simpa using ew) ⟨rfl,fin⟩) hs
theorem ZbF:IxR X (Zkh X.K):=by
 intro value slice pins s σ H x y v u Q I rx ry h hs;obtain⟨p,xs,i,z,rfl,rfl,hq,he,q⟩:=h;cases rx;obtain⟨t,rfl⟩:=ry;obtain⟨its,r,pl,hz⟩:=I.tuple hq;obtain⟨j,h1,h2,h3,h4,h5⟩:=Zc1 he;obtain⟨w,ew,rw'⟩:=r.get h2;have hl:=r.length;have hn:=Zes;have fin:EP X pins σ Q w s:=⟨z,H,I,rw',q⟩
 exact subscriptTail_builtinR (x:=w) pl.typeIs slot_tuple_getitem.lookup
  (getItem_tuple (j:=j) (Q:=fun r s'=>r=w/\EP X pins σ Q r s') pl (by omega) (by omega) (by rw[List.size_toArray,<-hl];exact h1) (by simpa using ew) ⟨rfl,fin⟩) hs
theorem Zd8:IxR X ZkZ:=by
 intro value slice pins s σ H x y v u Q I rx ry h hs;obtain⟨z,i,c,rfl,rfl,hz,he,q⟩:=h;obtain⟨t,rfl⟩:=rx;obtain⟨t',rfl⟩:=ry;obtain⟨j,h1,h2,h3,h4,h5⟩:=Zc1 he;have hl:z.cps.toList.length=z.length:=by simp[Str.length]
 rw[hl] at h1 h4 h5
 have hn:=Zes;exact tail_any (typeIs_str s z t) slot_str_getitem.lookup (getItem_str (c:=c) (by
  have e1:decide (i< -(2^63:Int))=false:=decide_eq_false (by omega);have e2:decide (i≥2^63)=false:=decide_eq_false (by omega);rw[e1,e2,Bool.or_false]) (by rw[h1];simpa using h2) ⟨.str ⟨#[c]⟩,H,I.tok _,⟨_,rfl⟩,q⟩) hs
theorem Zev(lo hi:Option Int)(n:Nat):(sliceBounds lo hi none n).1=((HT.sIx n 0 lo:Nat):Int)/\(sliceBounds lo hi none n).2.1=((HT.sIx n n hi:Nat):Int)/\(sliceBounds lo hi none n).2.2=1:=by
 refine⟨?_, ?_,rfl⟩
 ·cases lo with
  |none=>simp[sliceBounds,HT.sIx]
  |some i=>
   simp only [sliceBounds,HT.sIx,Option.getD_none,show(1:Int)>0 by decide,if_true]
   by_cases h:i<0
   ·simp only [h,if_true]<;>omega
   ·simp only [h,if_false]<;>omega
 ·cases hi with
  |none=>simp[sliceBounds,HT.sIx]
  |some i=>
   simp only [sliceBounds,HT.sIx,Option.getD_none,show(1:Int)>0 by decide,if_true]
   by_cases h:i<0
   ·simp only [h,if_true]<;>omega
   ·simp only [h,if_false]<;>omega
theorem ZdN(its:List Value)(lo hi:Option Int):slicePick its.toArray lo hi none=((its.drop (HT.sIx its.length 0 lo)).take (HT.sIx its.length its.length hi-HT.sIx its.length 0 lo)).toArray:=by
 obtain⟨h1,h2,h3⟩:=Zev lo hi its.toArray.size;unfold slicePick;rw[h1,h2,h3];simp only [sliceRange_one,pick_run,List.size_toArray]<;>rfl
def Zl0(K:PySem.W.Frag):V->Option Int->Option Int->Hp->VK->Prop:=fun x lo hi H Q=>∃a xs,x=.ref a/\SqL K H a xs/\∀p,H p=none->Q (.ref p) (upd H p (.lst (ZaY xs lo hi)))
theorem Xg:SlR X (Zl0 X.K):=by
 intro pins s σ H x v vl vu lo hi sl Q I rx hs pl pu h;obtain⟨a,xs,rfl,hx,q⟩:=h;cases rx;obtain⟨its,r,ht,hz⟩:=I.list hx;have hlen:=r.length;refine⟨"list",_,slot_list_getitem.lookup,ht.isList.typeIs, ?_⟩;refine wpAny_getItem_list_slice ht.isList hs pl pu .none (by simp) ?_ (by rw[List.size_toArray]<;>omega)
 rw[ZdN,<-hlen];refine⟨.ref s.heap.objs.size,_,I.laid (t':=s.toks) (o:=.lst (ZaY xs lo hi)) (fun b ob q=>Heap.get?_push_of_some _ q) (Nat.le_refl _) ?_,rfl,q _ (I.hok.fresh (Nat.le_refl _))⟩;exact⟨Nat.le_trans (Zff xs lo hi) hz,_,0,(r.drop (HT.sIx xs.length 0 lo)).take (HT.sIx xs.length xs.length hi-HT.sIx xs.length 0 lo),Heap.get?_push_size _ rfl⟩
def Xc:V->Bool
 | .non=>true
 | .bl _=>true
 | .int _=>true
 | .str _=>true
 |_=>false
def eqV:V->V->Bool
 | .non,.non=>true
 | .bl a,.bl b=>a==b
 | .bl a,.int b=>(if a then 1 else 0)==b
 | .int a,.bl b=>a==(if b then 1 else 0)
 | .int a,.int b=>a==b
 | .str a,.str b=>a==b
 |_,_=>false
theorem ZfO{A:Around}{s:Shared}{y x:V}{u v:Value}(ry:Yr y u)(rx:Yr x v)(fy:Xc y=true)(fx:Xc x=true):SeqAt.EqAt A s u v (eqV y x):=by
 cases y with
 |non=>
  cases ry;cases x with
  |non=>cases rx;exact SeqAt.EqAt.same _
  |bl b=>cases rx;exact SeqAt.EqAt.none_bool b
  |int b=>obtain⟨t,rfl⟩:=rx;exact SeqAt.EqAt.none_int b t
  |str b=>obtain⟨t,rfl⟩:=rx;exact SeqAt.EqAt.none_str b t
  |_=>exact absurd (show false=true from fx) Bool.false_ne_true
 |bl a=>
  cases ry;cases x with
  |non=>cases rx;exact SeqAt.EqAt.bool_none a
  |bl b=>cases rx;exact SeqAt.EqAt.bool_bool a b
  |int b=>obtain⟨t,rfl⟩:=rx;exact SeqAt.EqAt.bool_int a b t
  |str b=>obtain⟨t,rfl⟩:=rx;exact SeqAt.EqAt.bool_str a b t
  |_=>exact absurd (show false=true from fx) Bool.false_ne_true
 |int a=>
  obtain⟨t',rfl⟩:=ry;cases x with
  |non=>cases rx;exact SeqAt.EqAt.int_none a t'
  |bl b=>cases rx;exact SeqAt.EqAt.int_bool a t' b
  |int b=>obtain⟨t,rfl⟩:=rx;exact SeqAt.EqAt.int_int a t' b t
  |str b=>obtain⟨t,rfl⟩:=rx;exact SeqAt.EqAt.int_str a t' b t
  |_=>exact absurd (show false=true from fx) Bool.false_ne_true
 |str a=>
  obtain⟨t',rfl⟩:=ry;cases x with
  |non=>cases rx;exact SeqAt.EqAt.str_none a t'
  |bl b=>cases rx;exact SeqAt.EqAt.str_bool a t' b
  |int b=>obtain⟨t,rfl⟩:=rx;exact SeqAt.EqAt.str_int a t' b t
  |str b=>obtain⟨t,rfl⟩:=rx;exact SeqAt.EqAt.str_str a t' b t
  |_=>exact absurd (show false=true from fx) Bool.false_ne_true
 |_=>exact absurd (show false=true from fy) Bool.false_ne_true
def eqU(x:V)(u:Value):Bool:=match u with
 | .none=>eqV .non x
 | .bool b=>eqV (.bl b) x
 | .int i _=>eqV (.int i) x
 | .str z _=>eqV (.str z) x
 |_=>false
theorem Zhq{x y:V}{u:Value}(r:Yr y u)(f:Xc y=true):eqU x u=eqV y x:=by
 cases y with
 |non=>cases r;rfl
 |bl b=>cases r;rfl
 |int i=>obtain⟨t,rfl⟩:=r;rfl
 |str z=>obtain⟨t,rfl⟩:=r;rfl
 |_=>exact absurd (show false=true from f) Bool.false_ne_true
theorem Zew{x:V}:∀{xs:List V} {us:List Value},ZZ xs us->xs.all Xc=true->us.any (eqU x)=xs.any fun y=>eqV y x
 |_,_,.nil,_=>rfl
 |y::xs,u::us,.cons r t,f=>by
  rw[List.all_cons,Bool.and_eq_true] at f
  rw[List.any_cons,List.any_cons,Zhq r f.1,Zew t f.2]
theorem Zd9{A:Around}{s:Shared}{x:V}{v:Value}(rx:Yr x v)(fx:Xc x=true):∀{xs:List V} {us:List Value},ZZ xs us->xs.all Xc=true->∀u∈us,SeqAt.EqAt A s u v (eqU x u)
 |_,_,.nil,_=>fun u hu=>by cases hu
 |y::xs,u::us,.cons r t,f=>fun u' hu=>by
  rw[List.all_cons,Bool.and_eq_true] at f
  rcases List.mem_cons.mp hu with rfl|hu
  ·rw[Zhq r f.1];exact ZfO r rx f.1 fx
  ·exact Zd9 rx fx t f.2 u' hu
def inV(x:V)(xs:List V):Bool:=xs.any fun y=>eqV y x
def rIn(K:PySem.W.Frag)(neg:Bool):R2:=fun x y H Q=>∃p xs,y=.ref p/\(SqL K H p xs\/SqT K H p xs)/\Xc x=true/\xs.all Xc=true/\Q (.bl (if neg then !inV x xs else inV x xs)) H
theorem Ze8:OpR X (compareOp .In) (rIn X.K false):=by
 intro pins s σ H x y v u Q I rx ry h;obtain⟨p,xs,rfl,hq,fx,fs,q⟩:=h;cases ry;rcases hq with hq|hq
 ·obtain⟨its,r,pl,hz⟩:=I.list hq;refine SeqAt.in_listAt (eqU x) pl.isList (fun w hw=>Zd9 rx fx r fs w (by simpa using hw)) ⟨.bl _,H,I,rfl, ?_⟩;rw[show its.toArray.any (eqU x)=its.any (eqU x) by simp,Zew r fs];exact q
 ·obtain⟨its,r,pl,hz⟩:=I.tuple hq;refine SeqAt.in_tupleAt (eqU x) pl (fun w hw=>Zd9 rx fx r fs w (by simpa using hw)) ⟨.bl _,H,I,rfl, ?_⟩;rw[show its.toArray.any (eqU x)=its.any (eqU x) by simp,Zew r fs];exact q
def tyV(K:PySem.W.Frag)(T:String)(x:V)(H:Hp):Prop:=match x with
 | .str _=>T="str"
 | .int _=>T="int"
 | .ref p=>(T="list"/\∃xs,SqL K H p xs)\/(T="tuple"/\∃o,K.lookup p=some o/\o.cls=.type "tuple"/\o.dict=none)\/
   (T="dict"/\((∃kvs,H p=some (.dK kvs))\/∃kvs,H p=some (.dT kvs)))\/(T="set"/\∃S n,H p=some (.set S n))
 |_=>False
theorem Zhr{pins:List (Addr×Obj)}{σ:St}{H:Hp}{s:Shared}{T:String}{x:V}{v:Value}(I:Inv X pins σ H s)(r:Yr x v)(ty:tyV X.K T x H):
  s.TypeIs v T/\∀a,v=.ref a->∃ob,s.heap.get? a=some ob/\ob.dict=none:=by
 cases x with
 |str z=>
  obtain⟨t,rfl⟩:=r;cases(show T="str" from ty);exact⟨typeIs_str s z t,fun _ e=>nomatch e⟩
 |int i=>
  obtain⟨t,rfl⟩:=r;cases(show T="int" from ty);exact⟨typeIs_int s i t,fun _ e=>nomatch e⟩
 |ref p=>
  cases r;rcases ty with ⟨rfl,xs,hq⟩|⟨rfl,o,hk,hc,hd⟩|⟨rfl,hk⟩|⟨rfl,S,n,hk⟩
  ·obtain⟨its,_,pl,_⟩:=I.list hq;refine⟨pl.isList.typeIs,fun a e=> ?_⟩;cases e;obtain⟨o,n,e,c,hd,_⟩:=pl;exact⟨o,e,hd⟩
  ·refine⟨⟨o,I.kIn p o hk,hc⟩,fun a e=> ?_⟩;cases e;exact⟨o,I.kIn _ o hk,hd⟩
  ·have z:∃o,s.heap.get? p=some o/\o.ExactDict:=by
    rcases hk with ⟨kvs,hk⟩|⟨kvs,hk⟩
    ·obtain⟨_,_,_,_,o,_,_,e,ex,_⟩:=I.hok p _ hk;exact⟨o,e,ex⟩
    ·obtain⟨_,_,_,_,o,_,_,e,ex,_⟩:=I.hok p _ hk;exact⟨o,e,ex⟩
   obtain⟨o,e,ex⟩:=z;refine⟨⟨o,e,ex.1⟩,fun a e2=> ?_⟩;cases e2;exact⟨o,e,ex.2.1⟩
  ·obtain⟨o,_,_,_,e,ex,_⟩:=I.hok p _ hk;refine⟨⟨o,e,ex.1⟩,fun a e2=> ?_⟩;cases e2;exact⟨o,e,ex.2.1⟩
 |_=>exact False.elim ty
def Zl1(K:PySem.W.Frag)(T:String)(r:V->List V->Hp->VK->Prop)(to:TE):TE:=fun σ H Q=>to σ H fun x H1=>tyV K T x H1/\r x [] H1 Q
def tBM(K:PySem.W.Frag)(T:String)(r:V->List V->Hp->VK->Prop)(to:TE)(t:TA):TE:=fun σ H Q=>to σ H fun x H1=>tyV K T x H1/\t σ H1 fun xs H2=>r x xs H2 Q
variable {o e:Expr} {es:List Expr} {to:TE} {t:TA} {name:Str} {apos cpos:Pos} {T id:String} {r:V->List V->Hp->VK->Prop}
theorem Zda(pa:PlainAttrs T)(slot:Slot T name id)(hty:typeOf (.builtin id)=pure (.type "method_descriptor"))(hm:MtR X id r)(ho:PE X o to)
  (hbase:attributeBase o name X.env (eval o X.env)=eval o X.env:=by rfl)(hline:(apos.endLine==cpos.line)=true:=by rfl):PE X (.Call (.Attribute o name apos) [] [] cpos) (Zl1 X.K T r to):=by
 intro pins s σ H Q I h;refine wpAny_Call_method0_late hbase hline (thn (ho pins s σ H _ I h) fun v s1 ⟨x,H1,I1,r1,ty,q1⟩=> ?_);obtain⟨h1,h2⟩:=Zhr I1 r1 ty;exact⟨T,id,pa,slot,hty,h1,h2,Calls.callWith_builtin rfl (PySem.evalArgs_none (hm pins s1 σ H1 x [] v [] Q I1 r1 .nil q1))⟩
theorem Zat(pa:PlainAttrs T)(slot:Slot T name id)(hty:typeOf (.builtin id)=pure (.type "method_descriptor"))(hm:MtR X id r)(ho:PE X o to)(ha:PA X (e::es) t)
  (hbase:attributeBase o name X.env (eval o X.env)=eval o X.env:=by rfl)
  (hfew:((backTo cpos (starEach (e::es) X.env)).all (fun x=> !x.1)&&(backToKw cpos (keywordEach [] X.env)).all (fun x=>x.1.isSome)
   &&decide ((e::es).length+([]:List Keyword).length+(if([]:List Keyword).isEmpty then 0 else 1)<30))=true:=by rfl)
  (hline:(apos.endLine==cpos.line)=true:=by rfl)(hs:starEach (e::es) X.env=(false,eval e X.env)::starEach es X.env:=by rfl)(hplain:(backTo cpos (starEach es X.env)).any (·.1)=false:=by rfl):
  PE X (.Call (.Attribute o name apos) (e::es) [] cpos) (tBM X.K T r to t):=by
 intro pins s σ H Q I h;refine wpAny_Call_method_late hbase hfew hline rfl (thn (ho pins s σ H _ I h) fun v s1 ⟨x,H1,I1,r1,ty,q1⟩=> ?_);obtain⟨h1,h2⟩:=Zhr I1 r1 ty;refine⟨T,id,pa,slot,hty,h1,h2, ?_⟩;have hA:=ha cpos pins s1 σ H1 _ I1 q1;rw[hs] at hA⊢
 refine Calls.callWith_builtin (by show(false||(backTo cpos (starEach es X.env)).any (·.1))=false;rw[hplain]<;>rfl) (Calls.evalArgs_plain ?_)
 exact thn hA fun us s2 ⟨vs,H2,I2,r2,q2⟩=>hm pins s2 σ H2 x vs v us Q I2 r1 r2 q2
end
end L2
namespace L2
open PySem PySem.Spec PyProof.Rows
def MtM(X:Cx)(id:String)(r:V->List V->Hp->VK->Prop):Prop:=
 ∀(pins:List (Addr×Obj)) (s:Shared) (σ:St) (H:Hp) (x:V) (xs:List V) (v:Value) (us:List Value) (Q:VK),Inv X pins σ H s->Yr x v->ZZ xs us->r x xs H Q->
  wpAny (model X.prog X.w) X.A (call (.builtin id) (v::us)) (EP X pins σ Q) X.xe s
theorem ZZ.one:∀{x:V} {us:List Value},ZZ [x] us->∃u,us=[u]/\Yr x u
 |_,_,.cons r .nil=>⟨_,rfl,r⟩
theorem ZZ.zero:∀{us:List Value},ZZ [] us->us=[]
 |_,.nil=>rfl
theorem ZZ.dropLast{xs:List V}{us:List Value}(h:ZZ xs us):ZZ xs.dropLast us.dropLast:=by
 induction h with
 |nil=>exact .nil
 |cons r t ih=>
  cases t with
  |nil=>exact .nil
  |cons q t'=>exact .cons r ih
theorem ZZ.reverse{xs:List V}{us:List Value}(h:ZZ xs us):ZZ xs.reverse us.reverse:=by
 induction h with
 |nil=>exact .nil
 |cons r t ih=>rw[List.reverse_cons,List.reverse_cons];exact ZZ.append ih (.cons r .nil)
theorem ZfP{α:Type}(l:List α):l.eraseIdx (l.length-1)=l.dropLast:=by
 induction l with
 |nil=>rfl
 |cons a r ih=>
  cases r with
  |nil=>rfl
  |cons b r=>
   have e:(a::b::r).length-1=((b::r).length-1)+1:=by
    have h1:(a::b::r).length=r.length+2:=rfl;have h2:(b::r).length=r.length+1:=rfl;omega
   rw[e,List.eraseIdx_cons_succ,ih]
   all_goals rfl
section
variable {X:Cx} {pins:List (Addr×Obj)} {σ:St} {H:Hp} {s:Shared} {l b:Addr} {xs ys zs:List V}
theorem Inv.lset{its its':List Value}{n:Nat}{f:Array Value->Array Value}{t':Nat}(I:Inv X pins σ H s)(hH:H l=some (.lst xs))
  (e:s.heap.get? l=some {cls:=.type "list",data:=.seq its.toArray n})(hf:f its.toArray=its'.toArray)(hv:ZZ ys its')(hz:ys.length<=sizeLine):
  Inv X pins σ (upd H l (.lst ys)) {s with heap:=s.heap.update l (Obj.mapSeq f),toks:=t'}:=by
 have q:=PySem.IsL.update e f;rw[hf] at q
 refine I.write (x:=l) (e:=l) (by rw[hH];exact trivial) (.inl rfl) (fun b' u hb hu=>(Heap.get?_update_other s.heap (Obj.mapSeq f) (Ne.symm hb)).trans hu) ⟨_,q⟩ ?_
 exact⟨hz,its',_,hv,q⟩
theorem Inv.lnew{its:List Value}{t':Nat}(I:Inv X pins σ H s)(hv:ZZ ys its)(hz:ys.length<=sizeLine):
  Inv X pins σ (upd H s.heap.objs.size (.lst ys)) {s with heap:=s.heap.push {cls:=.type "list",data:=.seq its.toArray},toks:=t'}:=
 I.laid (fun _ _ q=>Heap.get?_push_of_some _ q) (Nat.le_refl _) ⟨hz,its,0,hv,Heap.get?_push_size _ rfl⟩
theorem Inv.fresh(I:Inv X pins σ H s):H s.heap.objs.size=none:=I.hok.fresh (Nat.le_refl _)
theorem Inv.lstM(I:Inv X pins σ H s)(hH:H l=some (.lst xs)):xs.length<=sizeLine/\∃(its:List Value) (n:Nat),ZZ xs its/\xs.length=its.length/\s.heap.get? l=some {cls:=.type "list",data:=.seq its.toArray n}:=by
 obtain⟨z,its,n,r,e⟩:=I.hok l _ hH;exact⟨z,its,n,r,r.length,e⟩
end
section
variable {X:Cx}
def ZiB:V->List V->Hp->VK->Prop:=fun x vs H Q=>∃l xs y,x=.ref l/\vs=[y]/\H l=some (.lst xs)/\xs.length<sizeLine/\Q .non (upd H l (.lst (xs++[y])))
theorem Zau:MtM X "list.append" ZiB:=by
 intro pins s σ H x vs v us Q I rx rv h;obtain⟨l,xs,y,rfl,rfl,hH,hz,q⟩:=h;cases rx;obtain⟨u,rfl,ru⟩:=rv.one;obtain⟨z,its,n,r,hl,e⟩:=I.lstM hH;refine call_meets F.slot_list_append ⟨_,e,rfl⟩ F.entry_list_append (F.args_list_append_2 _ _) (PySem.list_append l its.toArray n u (by rw[List.size_toArray];omega)) ⟨e, ?_⟩
 refine⟨.non,_,I.lset (its':=its++[u]) hH e (by simp) (r.append (.cons ru .nil)) ?_,rfl,q⟩;rw[List.length_append,List.length_singleton];omega
def Zki:V->List V->Hp->VK->Prop:=fun x vs H Q=>∃l xs y,x=.ref l/\vs=[]/\H l=some (.lst xs)/\xs[xs.length-1]? =some y/\Q y (upd H l (.lst xs.dropLast))
theorem Zdb:MtM X "list.pop" Zki:=by
 intro pins s σ H x vs v us Q I rx rv h;obtain⟨l,xs,y,rfl,rfl,hH,hy,q⟩:=h;cases rx;have hus:=rv.zero;subst hus;obtain⟨z,its,n,r,hl,e⟩:=I.lstM hH;obtain⟨u,hu,ru⟩:=r.get hy;have hy':its.toArray[its.toArray.size-1]? =some u:=by
  show its.toArray[its.length-1]? =some u;rw[<-Array.getElem?_toList,<-hl];exact hu
 refine call_meets F.slot_list_pop ⟨_,e,rfl⟩ F.entry_list_pop (F.args_list_pop_1 _) (MeetsSeq.list_pop_last l its.toArray n u hy' (by rw[List.size_toArray];omega)) ⟨e, ?_⟩
 refine⟨y,_,I.lset (its':=its.dropLast) hH e ?_ r.dropLast ?_,ru,q⟩
 ·show its.toArray.eraseIdxIfInBounds (its.toArray.size-1)=its.dropLast.toArray;rw[List.size_toArray,List.eraseIdxIfInBounds_toArray,ZfP]
 ·rw[List.length_dropLast];omega
end
section
variable {prog:Program} {w:World} {A:Around} {E:Value->Shared->Prop} {s:Shared}
end
section
variable {X:Cx}
end
end L2
namespace L2
open PySem PySem.Spec PyProof.Rows
section
variable {κ:Type} [DecidableEq κ]
def Zdc(kvs:List (κ×V))(k:κ):Option V:=(kvs.find? fun kv=>decide (kv.1=k)).map (·.2)
theorem Zfg{p:κ×V}{r:List (κ×V)}{k:κ}(e:p.1=k):Zdc (p::r) k=some p.2:=by simp[Zdc,List.find?_cons,e]
theorem Zfh{p:κ×V}{r:List (κ×V)}{k:κ}(e:¬p.1=k):Zdc (p::r) k=Zdc r k:=by simp[Zdc,List.find?_cons,e]
theorem KV.val{kvs:List (κ×V)}{vs:List (κ×Value)}(r:KV kvs vs)(k:κ):ZcK (Zdc kvs k) (valueAt vs k):=by
 unfold KV at r
 induction r with
 |nil=>exact True.intro
 | @cons p q ps qs h t ih=>
  obtain⟨h1,h2⟩:=h
  by_cases e:p.1=k
  ·have e':q.1=k:=h1.symm.trans e;have b:valueAt (q::qs) k=some q.2:=by simp[valueAt,List.find?_cons,e']
   rw[Zfg e,b];exact h2
  ·have e':¬q.1=k:=fun z=>e (h1.trans z);have b:valueAt (q::qs) k=valueAt qs k:=by simp[valueAt,List.find?_cons,e']
   rw[Zfh e,b];exact ih
theorem KV.keys{kvs:List (κ×V)}{vs:List (κ×Value)}(r:KV kvs vs):kvs.map (·.1)=vs.map (·.1):=by
 unfold KV at r
 induction r with
 |nil=>rfl
 |cons h t ih=>rw[List.map_cons,List.map_cons,ih,h.1]
end
section
variable {P:Program} {w:World} {H:Hp} {h:Heap} {a:Addr}
theorem Zkj{u:HO}(ok:HOk P w H h)(e:Rd H a u):Xn P w H h a u:=e.ok ok
theorem Zhs{kvs:List (Key×V)}(ok:HOk P w H h)(e:Rd H a (.dK kvs)):kvs.length<=sizeLine/\(a==sysModules)=false/\∃vs,KV kvs vs/\h.DictOf (ZbT P w) a vs:=
 show Xn P w H h a (.dK kvs) from Zkj ok e
end
section
variable {X:Cx} {pins:List (Addr×Obj)} {σ:St} {H:Hp} {s:Shared} {a:Addr} {y v:V} {u r:Value} {o:Option V} {A:Around} {E:Value->Shared->Prop}
end
section
variable {X:Cx} {pins:List (Addr×Obj)} {σ:St} {H:Hp} {s:Shared} {a:Addr} {kvs:List (Key×V)} {k:Key} {u:Value} {A:Around} {E:Value->Shared->Prop}
end
section
variable {X:Cx} {o i e value:Expr} {pos pos' tpos:Pos} {td ty tv:TE}
end
section
variable {X:Cx} {pos:Pos}
end
section
variable {X:Cx} {pins:List (Addr×Obj)} {σ:St} {H:Hp} {s:Shared} {a:Addr} {y d:V} {u r:Value} {o:Option V} {A:Around} {E:Value->Shared->Prop}
end
section
variable {X:Cx} {o e f:Expr} {apos cpos:Pos} {td ty tx:TE}
end
section
variable {X:Cx} {pins:List (Addr×Obj)} {σ:St} {H:Hp} {s:Shared} {a:Addr} {kvs:List (Key×V)} {A:Around} {E:Value->Shared->Prop}
end
section
variable {X:Cx} {pins:List (Addr×Obj)} {σ:St} {H:Hp} {s:Shared} {a:Addr} {y:V} {u:Value} {A:Around} {E:Value->Shared->Prop}
end
end L2
namespace Att
open PySem PySem.W PySem.Calls PyProof.Rows
theorem ZcL{P:Params}{h:Heap}:∀(ns:List Int) (vs:List Value),WellAll P h vs (ns.map WData.int)->IntsAre vs ns:=by
 intro ns
 induction ns with
 |nil=>
  intro vs w;rw[List.map_nil] at w
  cases w;exact .nil
 |cons n ns ih=>
  intro vs w;rw[List.map_cons] at w
  cases w with
  |cons a b=>
   cases a;exact .cons _ _ (ih _ b)
theorem script_of{l:OpenLaw}{n:Nat}(hn:l.most=some n){P:Params}{h:Heap}{args:List WData}{vals:List Value}
  (hpre:l.row.toRowW.claim.pre args=true)(hwl:WellAll P h vals args):
  ∃a vs ns,vals=[Value.ref a]/\args=[WData.list (ns.map WData.int)]/\h.get? a=some {cls:=.type "list",data:=.seq vs.toArray}/\IntsAre vs ns/\ns.length<=n:=by
 have hsh:WShape.hasAll [] args [.list .int]=true:=(pre_splitW hpre).1;have hc:l.pre.holds [] {args:=args}=true:=(pre_splitW hpre).2;obtain⟨d,r,rfl,h1,h2⟩:=hasAllW_cons hsh;obtain rfl:=hasAllW_nil h2;obtain⟨xs,rfl,h3⟩:=hasW_list h1;obtain⟨ns,rfl⟩:=items_int h3;have hlen:ns.length<=n:=by
  unfold OpenLaw.pre at hc
  have h4:(WTm.not (.lt (.lit (.int (n:Int))) (.len (.arg 0)))).holds [] {args:=[.list (ns.map .int)]}=true:=by
   have h4:=(holds_andW hc).1;rw[hn] at h4
   exact h4
  have h5:=condW_of h4 (w_not (w_lt w_lit (w_len_list (w_arg rfl))));rw[List.length_map] at h5
  refine Nat.le_of_not_lt fun q=> ?_;have q':(n:Int)<((ns.length:Nat):Int):=by omega
  first
   |(rw[decide_eq_true q'] at h5;exact absurd h5 (by decide))
   |(simp at h5;omega)
 cases hwl with
 |cons w1 w2=>
  cases w2;cases w1 with
  |list ho hall=>exact⟨_,_,ns,rfl,rfl,ho,ZcL ns _ hall,hlen⟩
theorem post_true(l:OpenLaw)(args:List WData):l.row.toRowW.claim.post args (.bool true) args=true:=
 postW_of (r:=l.row.toRowW) (X:=(true==true))
  (show WShape.has [] (.bool true) .bool=true by first|rfl|decide|simp[WShape.has,WShape.arms,WShape.armsAll])
  (show(WTm.eq .res (.lit (.bool true))).value [] {args:=args,res:=some (.bool true),after:=args}=some (.bool (true==true)) from w_eq_bool (w_res rfl) w_lit) rfl
section
variable {prog:Program} {w:World} {A:Around} {E:Value->Shared->Prop} {s:Shared} {K:Frag}
end
end Att
namespace L2
open PySem PySem.Spec PyProof.Rows
theorem Ze9:∀{vs:List Value} {ns:List Int},IntsAre vs ns->ZZ (ns.map V.int) vs
 |_,_,.nil=> .nil
 |_,_,.cons n t h=> .cons ⟨t,rfl⟩ (Ze9 h)
def Zkk(H:Hp):Prop:=∀b,H b=none\/∃o xs,H b=some (.frz o (.lst xs))
theorem Zht{P:Program}{w:World}{K:PySem.W.Frag}{mg mb:Str->Option Value}{CX:CXT}{k:Nat}{fa a:Addr}{fd:FuncData}{x:Str}{sp:Sp}{s₁:Shared}{vs:List Value}{ns:List Int}
  (KX:K.In s₁.heap)(hns:s₁.heap.Ns mainGlobals mg)(hb:s₁.heap.Ns builtinsNs mb)(hbb:∀x:Str,x≠"__name__"->mb x=bootBuiltins x)(hlim:s₁.heap.NoLimit)(hg:s₁.gens= #[])
  (ha:s₁.heap.get? a=some {cls:=.type "list",data:=.seq vs.toArray})(hi:IntsAre vs ns)(hl:ns.length<=sizeLine)(hr:Xl k callerA)
  (F:∀base:Heap,K.In base->base.Ns mainGlobals mg->Yx P w K mg base CX k fa fd [x] sp)(hbind:∀(s:Shared) (u:Value),BindsTo s fd ⟨[u],[]⟩ [(x,u)])
  (hsp:∀H:Hp,Zkk H->SqL K H a (ns.map V.int)->sp [.ref a] H (fun v _=>v=.bl true) fun _ _ _=>False)
  (hCX:∀H e s',CX [] H s₁ (fun _ _ _=>False) e s'->False):
  codeAny (model P w) callerA (.call (.ref fa) ⟨[.ref a],[]⟩) (fun r s'=>r=.ok (.ret (.bool true))/\OldK s₁.heap s'.heap/\s'.os=s₁.os/\AllBare s'.gens) s₁:=by
 have rv:=Ze9 hi;have Jo:=hi.length;have core:∀H:Hp,Zkk H->SqL K H a (ns.map V.int)->HOk P w H s₁.heap->(∀b,H b≠none->b=a)->(H a≠none->K.lookup a=none)->
   codeAny (model P w) callerA (.call (.ref fa) ⟨[.ref a],[]⟩) (fun r s'=>r=.ok (.ret (.bool true))/\OldK s₁.heap s'.heap/\s'.os=s₁.os/\AllBare s'.gens) s₁:=by
  intro H hO hS hok hA hK;have base_of:∀{b:Addr} {o:Obj},s₁.heap.get? b=some o->H b=none->(Zep s₁.heap H).get? b=some o:=fun e n=>Zhf e n;have noA:∀{b:Addr} {o:Obj} {es:Array DictEntry} {ep:Nat},s₁.heap.get? b=some o->o.data=.dict es ep->H b=none:=fun{b o es ep} e d=>by
   cases q:H b with
   |none=>rfl
   |some u=>
    have e':b=a:=hA b (by rw[q];simp)
    subst e';rw[ha] at e;cases e
    have d':Data.seq vs.toArray _=Data.dict es ep:=d;cases d'
  have nsK:∀{b:Addr} {m:Str->Option Value},s₁.heap.Ns b m->(Zep s₁.heap H).Ns b m:=fun{b m} ⟨o,es,ep,e,d,r⟩=>⟨o,es,ep,base_of e (noA e d),d,r⟩
  have hKb:K.In (Zep s₁.heap H):=fun b o e=>base_of (KX b o e) (by
   cases q:H b with
   |none=>rfl
   |some u=>
    have e':b=a:=hA b (by rw[q];simp)
    subst e';rw[hK (by rw[q];simp)] at e;cases e)
  have hM:Mod K mg (Zep s₁.heap H):=⟨hKb,nsK hns,⟨mb,nsK hb,hbb⟩,let ⟨mc,h1,h2⟩:=hlim;⟨mc,nsK h1,h2⟩⟩
  have e0:ZfM P w K mg (Zep s₁.heap H) callerA [] s₁ H:=⟨rfl,hM,fun b o e=>Zip e,Nat.le_of_eq (ZgM _ _),trivial,fun b hb=>absurd (show b∈([]:List Addr) from hb) (by simp),hok,.of_eq hg⟩
  refine codeAny_mono ((F _ hKb (nsK hns)).run callerA [] s₁ H ⟨[.ref a],[]⟩ [.ref a] [.ref a] _ _ hr e0 (hbind s₁ (.ref a)) (.cons rfl .nil) (hsp H hO hS)) fun r s' h=> ?_;cases r with
  |error e=>exact(hCX H e s' h).elim
  |ok fl=>
   cases fl with
   |next=>exact False.elim h
   |brk=>exact False.elim h
   |cont=>exact False.elim h
   |ret u=>
    obtain⟨v,H',os,bare,un,hok',r',q⟩:=h;have q':v=.bl true:=q;subst q';obtain rfl:u=Value.bool true:=r';refine⟨rfl,OldK.of_keep fun b o e=> ?_,os,bare⟩;cases q:H b with
    |none=>exact un.keep b o e q (by intro z;exact absurd (show b∈([]:List Addr) from z) (by simp)) (by simp)
    |some u=>
     rcases hO b with z|⟨ob,xs,z⟩
     ·rw[q] at z;cases z
     ·have z2:=un.frzs b ob _ z;obtain⟨e1,_⟩:=hok b _ z;obtain⟨e2,_⟩:=hok' b _ z2;rw[e] at e1;cases e1
      exact e2
 cases hk:K.lookup a with
 |some o=>
  have e:=KX a o hk;rw[ha] at e
  cases e;refine core (fun _=>none) (fun _=> .inl rfl) (.inr ⟨_,vs.toArray,_,hk,rfl,rfl,rfl,by rw[List.size_toArray,Jo];exact hl,by simpa using rv⟩) (fun b u z=>by have z':(none:Option HO)=some u:=z;cases z') (fun b z=>absurd rfl z) fun z=>absurd rfl z
 |none=>
  refine core (fun b=>if b=a then some (.frz {cls:=.type "list",data:=.seq vs.toArray} (.lst (ns.map V.int))) else none) (fun b=> ?_) (.inl (.inr ⟨{cls:=.type "list",data:=.seq vs.toArray},if_pos rfl⟩)) (fun b u z=> ?_) (fun b z=> ?_) fun _=>hk
  ·by_cases hb:b=a
   ·exact .inr ⟨_,_,if_pos hb⟩
   ·exact .inl (if_neg hb)
  ·by_cases hb:b=a
   ·have z':=(if_pos hb).symm.trans z;cases z';subst hb;exact⟨ha,by rw[List.length_map];exact hl,vs,_,rv,ha⟩
   ·have z':=(if_neg hb).symm.trans z;cases z'
  ·by_cases hb:b=a
   ·exact hb
   ·exact absurd (if_neg hb) z
end L2
namespace L2
open PySem PySem.Spec PyProof.Rows
end L2
namespace L2
open PySem PySem.Spec PyProof.Rows
def Zbp(s:Stmt)(j:Nat):Stmt:=match s with
 | .ClassDef _ _ _ body _ _ _ _ _ _ _=>body.getD j (.Pass ⟨0,0,0,0⟩)
 |_=> .Pass ⟨0,0,0,0⟩
def Zbq(s:Stmt):Arguments:=match s with
 | .FunctionDef _ a _ _ _ _ _ _ _ _=>a
 |_=>{posonlyargs:=[],args:=[],vararg:=none,kwonlyargs:=[],kw_defaults:=[],kwarg:=none,defaults:=[]}
def Jj(s:Stmt):List Stmt:=match s with
 | .FunctionDef _ _ b _ _ _ _ _ _ _=>b
 |_=>[]
def Zz(s:Stmt):Scope:=match s with
 | .FunctionDef _ _ _ _ _ _ sc _ _ _=>sc
 |_=>{kind:=.function,names:=[],isGenerator:=false,isCoroutine:=false}
abbrev CX0:CXT:=fun _ _ _ _ _ _=>False
abbrev E0:XK:=fun _ _ _=>False
theorem Yk{X:Cx}:JK CX0 X E0:=fun _ _ _ _ _ _ _ h=>h.elim
structure Fun (K:PySem.W.Frag) (x qual:Str) (st:Stmt) (f:Addr) (fd:FuncData):Prop where
 ex:∃(oc:Value) (od:Option Addr) (kV doc pm:Value) (an:Option Addr) (cdv ct:Value) (osl:Array (Option Value)),
  fd=PySem.W.fnOf x qual (Zbq st) (Jj st) (Zz st) .none kV doc pm an cdv ct/\K.lookup f=some ⟨oc,od,.func fd,osl⟩/\PySem.W.codeIn K cdv qual=true
 kp:PySem.W.keepIn K (.ref f)=true
section
variable {P:Program} {w:World} {K:PySem.W.Frag} {mg:Str->Option Value} {base:Heap}
theorem Fun.ok{x qual:Str}{st:Stmt}{f:Addr}{fd:FuncData}{N ps:List Str}{k:Nat}{sp:Sp}(F:Fun K x qual st f fd)(S:ZV N ps (Zz st))(len:∀vs H Q E,sp vs H Q E->vs.length=ps.length)
  (hbody:∀(cdv:Value) (A:Around) (outer:List Env) (s:Shared) (H:Hp) (vs:List V) (Q:VK) (E:XK),Xl k (A.deeper (envOfC qual (Zz st) s.heap.objs.size f cdv))->sp vs H Q E->
   ∃t,PSs (Yh CX0 P w K mg base N qual (Zz st) f cdv A outer s H E).nox (Jj st) t/\t {nx:=fun _ H'=>Q .non H',rt:=Q} (Zb1 N vs) H):Yx P w K mg base CX0 (k+1) f fd ps sp:=by
 obtain⟨oc,od,kV,doc,pm,an,cdv,ct,osl,rfl,lk,hcd⟩:=F.ex;refine Zjc lk hcd S len fun A outer s H vs Q E hr hsp=> ?_;obtain⟨t,h,q⟩:=hbody cdv A outer s H vs Q E hr hsp;exact⟨t,h.nox,q⟩
theorem Fun.binds{x qual:Str}{st:Stmt}{f:Addr}{fd:FuncData}{ps:List Str}(F:Fun K x qual st f fd)
  (h:∀(kV doc pm:Value) (an:Option Addr) (cdv ct:Value) (us:List Value),us.length=ps.length->bindArgs (PySem.W.fnOf x qual (Zbq st) (Jj st) (Zz st) .none kV doc pm an cdv ct) ⟨us,[]⟩=pure (ps.zip us)):Zb0 K fd ps []:=by
 obtain⟨oc,od,kV,doc,pm,an,cdv,ct,osl,rfl,lk,hcd⟩:=F.ex;exact .all (h kV doc pm an cdv ct)
theorem ZfQ{x qual:Str}{st:Stmt}{f:Addr}{oc:Value}{od an:Option Addr}{osl:Array (Option Value)}{kV doc pm cdv ct:Value}(l:K.lookup f=some ⟨oc,od,.func (PySem.W.fnOf x qual (Zbq st) (Jj st) (Zz st) .none kV doc pm an cdv ct),osl⟩)
  (c:PySem.W.codeIn K cdv qual=true)(k:PySem.W.keepIn K (.ref f)=true):Fun K x qual st f (PySem.W.fnOf x qual (Zbq st) (Jj st) (Zz st) .none kV doc pm an cdv ct):=⟨⟨oc,od,kV,doc,pm,an,cdv,ct,osl,rfl,l,c⟩,k⟩
end
theorem Zjd{A:Around}{k:Nat}(hr:Xl k A):A.units+1<cLine:=Nat.lt_of_le_of_lt (Nat.add_le_add_left (by decide:1<=64) _) hr.units
section
variable {X:Cx}
theorem pv(i:Nat){x:Str}{pos:Pos}(hN:X.N[i]? =some x:=by rfl)(hv:Vis X.env.scope x:=by first|exact Or.inl rfl|exact Or.inr (Or.inl rfl)|exact Or.inr (Or.inr rfl)) (hd:(x==("__debug__":Str))=false:=by decide)
  (hcd:(x==("__classdict__":Str))=false:=by decide):PE X (.Name x pos) (ZgO i):=Zjm hN hv hd hcd
end
theorem YT{A B:Prop}(h:B):if false=true then A else B:=by
 rw[if_neg Bool.false_ne_true];exact h
theorem Xm{A B:Prop}(h:A):if true=true then A else B:=by
 rw[if_pos rfl];exact h
theorem Xd{c A B:Prop} [Decidable c](h1:c->A)(h2:¬c->B):if c then A else B:=by
 by_cases h:c
 ·rw[if_pos h];exact h1 h
 ·rw[if_neg h];exact h2 h
theorem Zkl{c A B:Prop} [Decidable c](hc:c)(h:B):if(!decide c)=true then A else B:=by
 rw[decide_eq_true hc];exact YT h
def ZS(H H':Hp):Prop:=∀b o,H b=some o->H' b=some o
theorem ZS.refl(H:Hp):ZS H H:=fun _ _ h=>h
theorem ZS.trans{H H1 H2:Hp}(a:ZS H H1)(b:ZS H1 H2):ZS H H2:=fun c o h=>b c o (a c o h)
theorem ZS.seq{K:PySem.W.Frag}{H H':Hp}{a:Addr}{xs:List V}(e:ZS H H')(h:SqL K H a xs):SqL K H' a xs:=by
 rcases h with (h|⟨o,h⟩)|h
 ·exact .inl (.inl (e _ _ h))
 ·exact .inl (.inr ⟨o,e _ _ h⟩)
 ·exact .inr h
section
variable {κ:Type} [DecidableEq κ]
end
end L2
namespace L3
open PySem PySem.Spec PyProof.Rows L2
theorem up{α:Type}{M:Model}{A:Around}{t:Sem α}{Q:α->Shared->Prop}{E:Value->Shared->Prop}{s:Shared}(h:wpAny M A t Q (fun _ _=>False) s):wpAny M A t Q E s:=wpAny_mono h (fun _ _ z=>z) fun _ _ z=>z.elim
theorem ZiC{prog:Program}{w:World}{A:Around}{E:Value->Shared->Prop}{s:Shared}{l b:Addr}{vs ws:List Value}{Q:Value->Shared->Prop}(hl:s.heap.IsList l vs.toArray)(hb:s.heap.IsList b ws.toArray)
  (h:Q (.ref s.heap.objs.size) {s with heap:=s.heap.push {cls:=.type "list",data:=.seq (vs++ws).toArray}})(hz:vs.length+ws.length<=sizeLine):wpAny (model prog w) A (binaryOp .Add (.ref l) (.ref b)) Q E s:=by
 obtain⟨⟨c1,d1,t1,l1⟩,o1,k1,n1,e1⟩:=id hl;obtain⟨⟨c2,d2,t2,l2⟩,o2,k2,n2,e2⟩:=id hb;simp only at k1 e1 k2 e2
 subst k1 e1 k2 e2;refine concat_meets ⟨_,o1,rfl⟩ ⟨_,o2,rfl⟩ noFill_list_add seq_list_add PySem.F.slot_list_add PySem.F.entry_list_add (PySem.F.args_list_add_2 _ _) (list_addW l b vs.toArray ws.toArray n1 n2 d1 d2 l1 l2 (by simpa using hz)) ⟨o1,o2, ?_⟩;have ea:vs.toArray++ws.toArray=(vs++ws).toArray:=by simp
 rw[ea];exact h
section
variable {X:Cx}
theorem Zbr:OpR X (binaryOp .Mult) (rI IntMulOk fun i j=> .int (i*j)):=opI fun _ _ _ _ _ _ _ hc q=>mul_int q hc
def Zkm(K:PySem.W.Frag):R2:=fun x y H Q=>∃l b xs zs,x=.ref l/\y=.ref b/\SqL K H l xs/\SqL K H b zs/\xs.length+zs.length<=sizeLine/\∀p,H p=none->Q (.ref p) (upd H p (.lst (xs++zs)))
theorem Yz:OpR X (binaryOp .Add) (Zkm X.K):=by
 intro pins s σ H x y v u Q I rx ry h;obtain⟨l,b,xs,zs,rfl,rfl,h1,h2,hz,q⟩:=h;cases rx;cases ry;obtain⟨its,r,pl,_⟩:=I.list h1;obtain⟨its2,r2,pl2,_⟩:=I.list h2;obtain⟨m,F⟩:=I.fr;have e1:=r.length;have e2:=r2.length;refine ZiC pl.isList pl2.isList ?_ (by omega);exact⟨.ref _,_,I.lnew (t':=s.toks) (r.append r2) (by rw[List.length_append];omega),rfl,q _ I.fresh⟩
def Its(z:Str):It:=⟨fun i _=>i<z.length,fun i H x H'=>H'=H/\∃c,z.cps[i]? =some c/\x=.str ⟨#[c]⟩,fun i _=>z.length<=i⟩
def Zkn(tl:TE):TI:=fun σ H R=>tl σ H fun x H1=>∃z,x=.str z/\R (Its z) H1
theorem Zfi{z:Str}{i:Nat}(h:i<z.length):∃c,z.cps[i]? =some c:=⟨_,Array.getElem?_eq_getElem h⟩
theorem Zfj{z:Str}{i:Nat}(h:z.length<=i):z.cps[i]? =none:=Array.getElem?_eq_none h
theorem ZfR{P:Program}{w:World}{K:PySem.W.Frag}{tg:Expr}(z:Str)(t:Tok)(it:Addr):Zhh P w K tg (Its z) [it] it (fun i h=>h.IsStrIter it "str_ascii_iterator" z t i) where
 mem:=by simp
 obj:=fun i h st b hb=>by
  have e:b=it:=by simpa using hb
  subst e;obtain⟨o,e,c,d⟩:=st;exact⟨o,e,fun v q=>by rw[d] at q;cases q⟩
 keep:=fun i h h' st k=>by
  obtain⟨o,e,r⟩:=st;exact⟨o,k it (by simp) o e,r⟩
 item:=by
  intro X hP hw hK hc i pins s σ H E I hf st hg;subst hP hw hK;obtain⟨c,hx⟩:=Zfi (z:=z) hg;obtain⟨f0,f1,f2,f3,f4,f5⟩:=hf it (by simp);refine wpAny_pyNext_ascii_item st hx fun h' st' sb=> ?_;have I1:Inv X pins σ H {s with heap:=h',toks:=s.toks+1}:=I.turned (fun b o hb e=>(sb.2 b hb).trans e) f0 f1 f3 f4 f5;obtain⟨o,e,cl,d⟩:=id st';exact⟨_,rfl,Zgn (s:={s with heap:=h',toks:=s.toks+1}) e cl d (by decide) ⟨.str ⟨#[c]⟩,H,I1,⟨_,rfl⟩,⟨rfl,c,hx,rfl⟩,st',fun b hb=>(hf b hb).1⟩⟩
 done:=by
  intro X hP hw hK hc i pins s σ H E I hf st hg;subst hP hw hK;obtain⟨f0,f1,f2,f3,f4,f5⟩:=hf it (by simp);exact wpAny_pyNext_ascii_end (I.ok.hd hc) st (Zfj hg) fun h' eb=>⟨rfl,I.turned (t':=s.toks) (fun b o hb e=>eb b o hb e) f0 f1 f3 f4 f5⟩
 self:=fun _ _ _ _ _ st h=>wpAny_pyIter_striter_ascii st h
theorem ZgX{P:Program}{w:World}{K:PySem.W.Frag}{tg:Expr}(z:Str)(t:Tok)(it:Addr):Zhh P w K tg (Its z) [it] it (fun i h=>h.IsStrIter it "str_iterator" z t i) where
 mem:=by simp
 obj:=fun i h st b hb=>by
  have e:b=it:=by simpa using hb
  subst e;obtain⟨o,e,c,d⟩:=st;exact⟨o,e,fun v q=>by rw[d] at q;cases q⟩
 keep:=fun i h h' st k=>by
  obtain⟨o,e,r⟩:=st;exact⟨o,k it (by simp) o e,r⟩
 item:=by
  intro X hP hw hK hc i pins s σ H E I hf st hg;subst hP hw hK;obtain⟨c,hx⟩:=Zfi (z:=z) hg;obtain⟨f0,f1,f2,f3,f4,f5⟩:=hf it (by simp);refine wpAny_pyNext_wide_item st hx fun h' st' sb=> ?_;have I1:Inv X pins σ H {s with heap:=h',toks:=s.toks+1}:=I.turned (fun b o hb e=>(sb.2 b hb).trans e) f0 f1 f3 f4 f5;obtain⟨o,e,cl,d⟩:=id st';exact⟨_,rfl,Zgn (s:={s with heap:=h',toks:=s.toks+1}) e cl d (by decide) ⟨.str ⟨#[c]⟩,H,I1,⟨_,rfl⟩,⟨rfl,c,hx,rfl⟩,st',fun b hb=>(hf b hb).1⟩⟩
 done:=by
  intro X hP hw hK hc i pins s σ H E I hf st hg;subst hP hw hK;obtain⟨f0,f1,f2,f3,f4,f5⟩:=hf it (by simp);exact wpAny_pyNext_wide_end (I.ok.hd hc) st (Zfj hg) fun h' eb=>⟨rfl,I.turned (t':=s.toks) (fun b o hb e=>eb b o hb e) f0 f1 f3 f4 f5⟩
 self:=fun _ _ _ _ _ st h=>wpAny_pyIter_striter_wide st h
theorem ZfS{tg l:Expr}{tl:TE}(hl:PE X l tl):PI X tg l (Zkn tl):=by
 intro pins s σ H R I h;refine thn (hl pins s σ H _ I h) fun v s1 ⟨x,H1,I1,r1,q1⟩=> ?_;obtain⟨z,rfl,q⟩:=q1;obtain⟨t,rfl⟩:=r1;have fp:∀(o:Obj),∀b∈[s1.heap.objs.size],ZdM X pins H1 b:=fun o b hb=>by
  have e:b=s1.heap.objs.size:=by simpa using hb
  subst e;exact I1.fpOk (Nat.le_refl _) (I1.hok.fresh (Nat.le_refl _))
 cases ha:z.cps.all (· <128)
 ·exact wpAny_pyIter_wide ha ⟨s1.heap.objs.size,[s1.heap.objs.size],_,_,H1,rfl,I1.kept (t':=s1.toks) fun b o e=>Heap.get?_push_of_some _ e,ZgX z t _,⟨_,Heap.get?_push_size _ rfl,rfl,rfl⟩,fp ⟨.none,none,.fields #[], #[]⟩,q⟩
 ·exact wpAny_pyIter_ascii ha ⟨s1.heap.objs.size,[s1.heap.objs.size],_,_,H1,rfl,I1.kept (t':=s1.toks) fun b o e=>Heap.get?_push_of_some _ e,ZfR z t _,⟨_,Heap.get?_push_size _ rfl,rfl,rfl⟩,fp ⟨.none,none,.fields #[], #[]⟩,q⟩
theorem Zgu{z:Str}{g:TG}{tb:TS}{D:ZbV}{σ:L2.St}{H:Hp}(Pv:Nat->L2.St->Hp->Prop)(h0:Pv 0 σ H)
  (hs:∀i c σ H,z.cps[i]? =some c->Pv i σ H->g (.str ⟨#[c]⟩) σ H fun σ2 H2=>tb {D with nx:=Pv (i+1),ct:=Pv (i+1),bk:=D.nx} σ2 H2)(hd:∀σ H,Pv z.length σ H->D.nx σ H):
  ∃W:Nat->Nat->L2.St->Hp->Prop,(∃m,W 0 m σ H)/\∀i m σ H,W i m σ H->
   ((Its z).stop i H/\D.nx σ H)\/((Its z).go i H/\∃N:L2.St->Hp->Prop,(∀σ' H',N σ' H'->∃m',m'<m/\W (i+1) m' σ' H')/\∀x H',(Its z).yld i H x H'->g x σ H' fun σ2 H2=>tb {D with nx:=N,ct:=N,bk:=D.nx} σ2 H2):=by
 refine⟨fun i m σ H=>m=z.length-i/\i<=z.length/\Pv i σ H,⟨z.length,by simp,Nat.zero_le _,h0⟩, ?_⟩;rintro i m σ H ⟨rfl,hi,p⟩
 by_cases hlt:i<z.length
 ·refine .inr ⟨hlt,Pv (i+1),fun σ' H' p'=>⟨z.length-(i+1),by omega,rfl,hlt,p'⟩,fun x H' y=> ?_⟩;obtain⟨e,c,hc,ex⟩:=y;subst e ex;exact hs i c σ _ hc p
 ·have e:i=z.length:=by omega
  subst e;exact .inl ⟨Nat.le_refl _,hd σ H p⟩
def Zl2:V->Option Int->Option Int->Hp->VK->Prop:=fun x lo hi H Q=>∃z,x=.str z/\z.length<=sizeLine/\Q (.str (Txt.slice z lo hi)) H
theorem Zex:SlR X Zl2:=by
 intro pins s σ H x v vl vu lo hi sl Q I rx hs pl pu h;obtain⟨z,rfl,hz,q⟩:=h;obtain⟨t,rfl⟩:=rx;have fin:∀t' k,EP X pins σ Q (.str (Txt.slice z lo hi) t') {s with toks:=k}:=fun t' k=>⟨.str _,H,I.tok _,⟨_,rfl⟩,q⟩
 refine⟨"str",_,F.slot_str_getitem.lookup,typeIs_str _ _ _, ?_⟩;cases pl with
 |none=>
  cases pu with
  |none=>exact wpAny_getItem_str_slice (l:=none) (u:=none) (st:=none) hs rfl (post_val_or_str ⟨Nat.le_trans (Txt.slice_le z _ _) hz,fin⟩)
  |int j uj=>exact wpAny_getItem_str_slice (l:=none) (u:=some (j,uj)) (st:=none) hs rfl (post_val_or_str ⟨Nat.le_trans (Txt.slice_le z _ _) hz,fin⟩)
 |int i ui=>
  cases pu with
  |none=>exact wpAny_getItem_str_slice (l:=some (i,ui)) (u:=none) (st:=none) hs rfl (post_val_or_str ⟨Nat.le_trans (Txt.slice_le z _ _) hz,fin⟩)
  |int j uj=>exact wpAny_getItem_str_slice (l:=some (i,ui)) (u:=some (j,uj)) (st:=none) hs rfl (post_val_or_str ⟨Nat.le_trans (Txt.slice_le z _ _) hz,fin⟩)
theorem Zdd:∀{bs:List Bool} {us:List Value},ZZ (bs.map V.bl) us->LSm.BoolsAre us bs
 |[],us,r=>by
  rw[List.map_nil] at r
  cases r;exact .nil
 |b::bs,us,r=>by
  rw[List.map_cons] at r
  cases r with
  |cons r1 r2=>
   cases(show _=Value.bool b from r1);exact .cons b (Zdd r2)
theorem ZfT(hc:X.calm=true):ZbY X (.builtin "all") (fun xs H Q=>∃(p:Addr) (bs:List Bool),xs=[.ref p]/\SqL X.K H p (bs.map V.bl)/\Q (.bl (bs.all id)) H):=by
 intro pins s σ H xs us Q I r h;obtain⟨p,bs,rfl,hq,q⟩:=h;obtain⟨u,rfl,rx⟩:=Zc0 r;cases rx;obtain⟨its,r',pl,hz⟩:=I.list hq;have hb:=Zdd r';have hlt:p<s.heap.objs.size:=pl.lt;refine call_all_walk (wpAny_pyIter_list pl.isList ?_);refine⟨s.heap.objs.size,[s.heap.objs.size,p],[s.heap.objs.size],its.toArray.size,_,_,fun i=>(bs[i]?).getD true,rfl,Walks.list (A:=X.A.in1) (I.ok.hd hc) _ p (Nat.ne_of_lt hlt) its.toArray,
  ⟨⟨_,Heap.get?_push_size _ rfl,rfl,rfl⟩,pl.isList.push _⟩,fun i v s' Q' E' hP hQ=> ?_,fun h' tk hk=> ?_⟩
 ·obtain⟨bit,ebit,rfl⟩:=hb.get i v (by simpa using hP);simp only [ebit,Option.getD_some] at hQ
  exact wpAny_truthy_bool hQ
 ·have e:((List.range its.toArray.size).all fun i=>(bs[i]?).getD true)=bs.all id:=by
   rw[List.size_toArray,hb.length];exact LSm.range_all bs
  rw[e];exact⟨.bl (bs.all id),H,I.kept (LSm.kept_iter hk),rfl,q⟩
def Zko:V->Option Value
 | .ty n=>some (.type n)
 | .ref a=>some (.ref a)
 |_=>none
end
def Ext:L2.St->L2.St->Prop
 |[],[]=>True
 |none::a,_::b=>Ext a b
 |some v::a,w::b=>w=some v/\Ext a b
 |_,_=>False
theorem Ext.len:∀{a b:L2.St},Ext a b->a.length=b.length
 |[],[],_=>rfl
 |none::a,_::b,h=>by
  have h:Ext a b:=h;simp[h.len]
 |some v::a,w::b,h=>by
  have h:w=some v/\Ext a b:=h;simp[h.2.len]
 |[],_::_,h=>h.elim
 |none::_,[],h=>h.elim
 |some _::_,[],h=>h.elim
theorem Ext.get:∀{a b:L2.St},Ext a b->∀(i:Nat) (v:V),a[i]? =some (some v)->b[i]? =some (some v)
 |[],[],_,i,v,e=>by simp at e
 |none::a,_::b,h,i,v,e=>by
  have h:Ext a b:=h;cases i with
  |zero=>simp at e
  |succ i=>simpa using h.get i v (by simpa using e)
 |some z::a,w::b,h,i,v,e=>by
  have h:w=some z/\Ext a b:=h;cases i with
  |zero=>
   have e':z=v:=by simpa using e
   subst e';rw[h.1]
   rfl
  |succ i=>simpa using h.2.get i v (by simpa using e)
 |[],_::_,h,_,_,_=>h.elim
 |none::_,[],h,_,_,_=>h.elim
 |some _::_,[],h,_,_,_=>h.elim
def frY(own:List Str)(fr:List (Str×Nat))(σ:L2.St):L2.St:=own.map (fun _=>none)++fr.map fun p=>σ.getD p.2 none
def nmY(own:List Str)(fr:List (Str×Nat)):List Str:=own++fr.map (·.1)
def YL(X:Cx)(N:List Str)(scope:Scope)(cl:List (Str×Addr))(C:Addr)(s:Shared)(H:Hp)(fp:List Addr):Cx:=
 {X with N:=N,s₀:=s,H₀:=H,env:=compEnvC scope cl C X.env,outer:=X.stack,stack:=X.stack,ex:=fp,fn:=fun _=>false,pn:=[],xe:=fun _ _=>False}
def ZfU:Option NameKind->Bool
 |some .cell=>true
 |some .free=>true
 |_=>false
theorem Zey{o:Option NameKind}(h:ZfU o=true):o=some .cell\/o=some .free:=by
 cases o with
 |none=>cases h
 |some k=>cases k<;>first|exact .inl rfl|exact .inr rfl|cases h
def ZfV(X:Cx)(scope:Scope):List (Str×Nat)->Prop
 |[]=>True
 |p::r=>(X.N[p.2]? =some p.1/\ZfU (X.env.scope.names.lookup p.1)=true/\ZfU ((relabel scope X.env).names.lookup p.1)=true)/\ZfV X scope r
theorem ZfV.mem{X:Cx}{scope:Scope}:∀{fr:List (Str×Nat)},ZfV X scope fr->∀p∈fr,X.N[p.2]? =some p.1/\ZfU (X.env.scope.names.lookup p.1)=true/\ZfU ((relabel scope X.env).names.lookup p.1)=true
 |[],_,p,hp=>by simp at hp
 |q::r,h,p,hp=>by
  have h:_/\ZfV X scope r:=h;rcases List.mem_cons.mp hp with rfl|hmore
  ·exact h.1
  ·exact h.2.mem p hmore
def ZfW(X:Cx):List (Str×Addr)->Prop
 |[]=>True
 |p::r=>X.env.cells.lookup p.1=some p.2/\ZfW X r
theorem ZfW.get{X:Cx}:∀{cl:List (Str×Addr)},ZfW X cl->∀x c,cl.lookup x=some c->X.env.cells.lookup x=some c
 |[],_,x,c,e=>by simp at e
 |(n,a)::r,h,x,c,e=>by
  have h:X.env.cells.lookup n=some a/\ZfW X r:=h
  by_cases hx:x=n
  ·subst hx;simp only [List.lookup_cons,beq_self_eq_true] at e
   cases e;exact h.1
  ·have hb:(x==n)=false:=by simpa using hx
   simp only [List.lookup_cons,hb] at e
   exact h.2.get x c e
def ZbG(scope:Scope)(env:Env)(cl:List (Str×Addr)):Bool:=
 scope.kind==.function&&scope.names.all (fun y=>y.2 !=.cell)&&scope.names.all (fun y=>y.2 !=.local||scope.names.lookup y.1==some .local)&&
 (relabel scope env).names.all (fun y=> !ZfU (some y.2)||(cl.lookup y.1).isSome)
def Zfk:TT:=fun _ H Q=>Q true H
def PTs(X:Cx)(ifs:List Expr)(t:TT):Prop:=
 ∀(pins:List (Addr×Obj)) (s:Shared) (σ:L2.St) (H:Hp) (Q:Bool->Hp->Prop),Inv X pins σ H s->t σ H Q->
  wpAny (model X.prog X.w) X.A (forIn ifs true fun c r=>if r=true then do let ok<-isTrue c X.env (eval c X.env);pure (ForInStep.yield ok) else pure (ForInStep.yield r)) (TP X pins σ Q) X.xe s
theorem Zgv{X:Cx}:PTs X [] Zfk:=fun _ _ _ H _ I h=>wpAny_tests_nil ⟨H,I,h⟩
theorem Zgw{X:Cx}{c:Expr}{t:TT}(h:PT X c t):PTs X [c] t:=fun pins s σ H Q I q=>wpAny_tests_one (h pins s σ H Q I q)
theorem ZiD{prog:Program}{w:World}{A:Around}{R:Result->Shared->Prop}{s:Shared}{elt tg iter:Expr}{ifs:List Expr}{scope:Scope}{pos:Pos}{it acc:Value}{env:Env}(J:Nat->Shared->Prop)
  (turn:∀n s,J n s->∀E:Value->Shared->Prop,wpAny (model prog w) A (pyNext it) (fun r s₁=>(r=none/\R (.ok .next) s₁)\/∃v,r=some v/\
    wpAny (model prog w) A (letOwnedTupleGo tg it v) (fun _ s₂=>wpAny (model prog w) A (assign tg env v) (fun _ s₃=>
     wpAny (model prog w) A (forIn ifs true fun c r=>if r=true then do let ok<-isTrue c env (eval c env);pure (ForInStep.yield ok) else pure (ForInStep.yield r)) (fun ok s₄=>
      (ok=true/\wpAny (model prog w) A (eval elt env) (fun x s₅=>wpAny (model prog w) A (call (.builtin "list.append") [acc,x]) (fun _ s₆=>∃m,m<n/\J m s₆) E s₅) E s₄)\/
      (ok=false/\∃m,m<n/\J m s₄)) E s₃) E s₂) E s₁) E s)
  (n:Nat)(h:J n s):codeAny (model prog w) A (.compLoop (.ListComp elt [⟨tg,iter,ifs,0⟩] scope pos) 0 it acc env) R s:=by
 refine codeAny_loop rfl J (fun n s hJ=> ?_) n h;show wpAny _ A ((compTurn (.ListComp elt [⟨tg,iter,ifs,0⟩] scope pos) 0 it acc env).onRaise (fun x=>do noteFrame x env;theTreesLotGoes x)) _ _ s
 refine wpAny_noted ?_;rw[compTurn_list];refine wpAny_bind (wpAny_standAt (wpAny_bind (thn (turn n s hJ _) fun r s₁ h₁=> ?_)));rcases h₁ with ⟨rfl,h₁⟩|⟨v,rfl,h₁⟩
 ·exact wpAny_pure h₁
 ·refine wpAny_bind (thn h₁ fun _ s₂ h₂=>wpAny_bind (thn h₂ fun _ s₃ h₃=>wpAny_bind (thn h₃ fun ok s₄ h₄=> ?_)));rcases h₄ with ⟨rfl,h₄⟩|⟨rfl,h₄⟩
  ·exact wpAny_bind (wpAny_bind (thn h₄ fun x s₅ h₅=>wpAny_bind (thn h₅ fun _ s₆ h₆=>wpAny_pure (wpAny_pure ⟨rfl,h₆⟩))))
  ·exact wpAny_pure ⟨rfl,h₄⟩
def Zhu(J:It)(own:List Str)(fr:List (Str×Nat))(g:TG)(tc:TT)(te:TE)(σ:L2.St)(H1:Hp)(Q:VK):Prop:=∀D,H1 D=none->∃W:Nat->Nat->List V->Hp->Prop,(∃m,W 0 m [] (upd H1 D (.lst [])))/\
 ∀i m ys H2,W i m ys H2->H2 D=some (.lst ys)/\((J.stop i H2/\Q (.ref D) H2)\/(J.go i H2/\∃N:List V->Hp->Prop,(∀zs H',N zs H'->∃m',m'<m/\W (i+1) m' zs H')/\
  ∀x H',J.yld i H2 x H'->g x (frY own fr σ) H' fun σ3 H3=>Ext (frY own fr σ) σ3/\tc σ3 H3 fun b H4=>if b=true then te σ3 H4 fun v H5=>H5 D=some (.lst ys)/\ys.length<sizeLine/\N (ys++[v]) (upd H5 D (.lst (ys++[v]))) else N ys H4))
def Zgx(wi:TI)(own:List Str)(fr:List (Str×Nat))(g:TG)(tc:TT)(te:TE):TE:=fun σ H Q=>wi σ H fun J H1=>Zhu J own fr g tc te σ H1 Q
theorem Zea{X:Cx}{elt tg iter:Expr}{ifs:List Expr}{scope:Scope}{pos ipos:Pos}{wi:TI}{g:TG}{tc:TT}{te:TE}{cl:List (Str×Addr)}(own:List Str)(fr:List (Str×Nat))(hc:X.calm=true)(hi:PI X tg iter wi)
  (hclos:closureFor scope X.env=pure cl)(hcl:ZfW X cl)(hok:ZbG scope X.env cl=true)(hfr:ZfV X scope fr)
  (hg:∀C s H fp,PG (YL X (nmY own fr) scope cl C s H fp) tg g)(ht:∀C s H fp,PTs (YL X (nmY own fr) scope cl C s H fp) ifs tc)(he:∀C s H fp,PE (YL X (nmY own fr) scope cl C s H fp) elt te)
  (hs:∀x,foldedSetIterable iter X.env x=pure x){pins:List (Addr×Obj)}{s:Shared}{σ:L2.St}{H:Hp}{Q:VK}{use:Option (Value->Sem Unit)}{PQ:Value->Shared->Prop}(I:Inv X pins σ H s)(h:Zgx wi own fr g tc te σ H Q)
  (hend:∀(s6:Shared) (H5:Hp) (C D:Addr) (m:Str->Option Value),Inv X pins σ H5 s6->s6.heap.Ns C m->ZdM X pins H5 C->Q (.ref D) H5->compPost (model X.prog X.w) X.A X.xe use PQ (.ref D) C (.ok .next) s6):
  wpAny (model X.prog X.w) X.A (comprehension (.ListComp elt [⟨tg,iter,ifs,0⟩] scope pos) scope X.env ipos (newList []) false (eval iter X.env) use) PQ X.xe s:=by
 have ok1:scope.kind=.function:=by
  unfold ZbG at hok
  simp only [Bool.and_eq_true,beq_iff_eq] at hok
  exact hok.1.1.1
 have ok2:∀y∈scope.names,y.2≠.cell:=by
  unfold ZbG at hok
  simp only [Bool.and_eq_true,List.all_eq_true] at hok
  intro y hy
  simpa using hok.1.1.2 y hy
 have ok3:∀y∈scope.names,y.2=.local->scope.names.lookup y.1=some .local:=by
  unfold ZbG at hok
  simp only [Bool.and_eq_true,List.all_eq_true] at hok
  intro y hy e;have:=hok.1.2 y hy
  simpa [e] using this
 have ok4:∀x,(relabel scope X.env).names.lookup x=some .cell\/(relabel scope X.env).names.lookup x=some .free->∃c,cl.lookup x=some c:=by
  unfold ZbG at hok
  simp only [Bool.and_eq_true,List.all_eq_true] at hok
  intro x hx;have key:∀k,(relabel scope X.env).names.lookup x=some k->ZfU (some k)=true->∃c,cl.lookup x=some c:=fun k e hk=>by
   have:=hok.2 (x,k) (PySem.mem_of_lookup e);simp only [hk,Bool.not_true,Bool.false_or] at this
   exact Option.isSome_iff_exists.mp this
  rcases hx with e|e
  ·exact key _ e rfl
  ·exact key _ e rfl
 refine wpAny_comprehension_free (use:=use) rfl hs hclos ok1 ok3 ?_;refine thn (hi pins s σ H _ I h) fun v s1 h1=>thn h1 fun itv s2 h2=> ?_;obtain⟨it,fp,tn,J,H2,e,I2,T,st2,f2,hD⟩:=h2;subst e;have lt2:∀b∈fp,b<s2.heap.objs.size:=fun b hb=>by
  obtain⟨o,e,_⟩:=T.obj _ _ st2 b hb;exact Heap.lt_size e
 refine wpAny_newObj_type (wpAny_newFunctionEnv ok2 (by intro y hy;simp at hy) (fun h₁ hns₁ hsb₁=> ?_) ok1)
 obtain⟨W,⟨m0,w0⟩,turn⟩:=hD s2.heap.objs.size I2.fresh;have I3:Inv X pins σ (upd H2 s2.heap.objs.size (.lst [])) {s2 with heap:=s2.heap.push {cls:=.type "list",data:=.seq ([]:List Value).toArray}}:=I2.lnew (t':=s2.toks) .nil (Nat.zero_le _);have st3:=T.keep 0 _ (s2.heap.push {cls:=.type "list",data:=.seq ([]:List Value).toArray}) st2 fun b hb o e=>Heap.get?_push_of_some _ e;have f3:∀b∈fp,ZdM X pins (upd H2 s2.heap.objs.size (.lst [])) b:=fun b hb=>⟨by rw[Zw (Nat.ne_of_lt (lt2 b hb))];exact(f2 b hb).1,(f2 b hb).2⟩
 generalize hs3:({s2 with heap:=s2.heap.push {cls:=.type "list",data:=.seq ([]:List Value).toArray}}:Shared)=s3 at I3
 have es3:s3.heap=s2.heap.push {cls:=.type "list",data:=.seq ([]:List Value).toArray}:=by rw[<-hs3]
 have eg3:s3.gens=s2.gens:=by rw[<-hs3]
 have lt3:∀b∈fp,b<s3.heap.objs.size:=fun b hb=>by rw[es3,Heap.size_push];exact Nat.lt_succ_of_lt (lt2 b hb)
 rw[<-es3] at st3
 have hns:h₁.Ns s3.heap.objs.size (fun x=>([]:List (Str×Value)).reverse.lookup x):=by rw[es3];exact hns₁
 have k34:∀b o,s3.heap.get? b=some o->h₁.get? b=some o:=fun b o e=>by
  have hsb:=hsb₁.extBut b o;rw[es3] at e
  exact hsb (Nat.ne_of_lt (Heap.lt_size e)) (Heap.get?_push_of_some _ e)
 generalize hs4:({s3 with heap:=h₁,toks:=s3.toks+([]:List (Str×Value)).length}:Shared)=s4;have es4:s4.heap=h₁:=by rw[<-hs4]
 have st4:tn 0 s4.heap:=T.keep 0 _ _ st3 fun b hb o e=>by rw[es4];exact k34 b o e
 have IY:Inv (YL X (nmY own fr) scope cl s3.heap.objs.size s3 (upd H2 s2.heap.objs.size (.lst [])) fp) [] (frY own fr σ) (upd H2 s2.heap.objs.size (.lst [])) s4:=by
  refine⟨⟨I3.ok.mod,ok1,I3.ok.glob,I3.ok.blt,Nat.le_refl _,fun x y c e1 e2=>I3.ok.inj x y c (hcl.get x c e1) (hcl.get y c e2),fun x hx=>ok4 x hx,(fun x c z=>nomatch z),I3.ok.hd,I3.ok.frames,.inl rfl,
   fun b hb=>⟨Nat.ne_of_lt (lt3 b hb),fun x c e=>(f3 b hb).2.2.2.2.1 x c (hcl.get x c e)⟩,I3.bs,Nat.le_trans I3.ok.bsz I3.sz,fun b o e hb=> ?_,fun b hb z=> ?_,I3.stack,I3.stkFree⟩,
   by rw[<-hs4];rfl,by rw[<-hs4];exact I3.bare,Un.kept (by rw[es4];exact k34),⟨_,by rw[es4];exact hns,fun i x v e1 e2 e3=> ?_⟩,fun x c e=> ?_,I3.hok.fresh (Nat.le_refl _),fun x c e=>I3.freeC x c (hcl.get x c e),fun p hp=>absurd hp (by simp[YL]),by rw[es4];exact I3.hok.kept k34, ?_⟩
  ·rcases(f3 b hb).2.2.2.1 with z|z
   ·exact I3.ok.noex b o e z
   ·exact absurd (Nat.lt_of_lt_of_le (Heap.lt_size (I3.ok.bs b o e).1) z) (Nat.lt_irrefl _)
  ·rcases List.mem_cons.mp (I3.stkSub b z) with q|q
   ·exact(f3 b hb).2.1 q
   ·exact(f3 b hb).2.2.1 q
  ·have e1:(own++fr.map (·.1))[i]? =some x:=e1;have e2:(own.map (fun _=>(none:Option V))++fr.map fun p=>σ.getD p.2 none)[i]? =some (some v):=e2;have hi:own.length<=i:=by
    refine Nat.le_of_not_lt fun hlt=> ?_;rw[List.getElem?_append_left (by simpa using hlt),List.getElem?_map] at e2
    cases q:own[i]? with
    |none=>rw[q] at e2;cases e2
    |some a=>rw[q] at e2;cases e2
   rw[List.getElem?_append_right hi,List.getElem?_map] at e1
   rw[List.getElem?_append_right (by simpa using hi),List.getElem?_map,List.length_map] at e2
   cases q:fr[i-own.length]? with
   |none=>rw[q] at e1;cases e1
   |some p=>
    rw[q] at e1 e2
    obtain rfl:p.1=x:=Option.some.inj e1;have e2:σ.getD p.2 none=some v:=Option.some.inj e2;have e4:σ[p.2]? =some (some v):=by
     rw[List.getD_eq_getElem?_getD] at e2
     cases z:σ[p.2]? with
     |none=>rw[z] at e2;cases e2
     |some a=>
      rw[z] at e2
      have e2:a=some v:=e2;rw[e2]
    obtain⟨n1,n2,n3⟩:=hfr.mem p (List.mem_of_getElem? q);obtain⟨m,hn,hl⟩:=I3.loc;have vis:Vis X.env.scope p.1:=.inr (Zey n2);obtain⟨u,r,l⟩:=hl p.2 p.1 v n1 e4 vis;refine⟨u,r, ?_⟩;rcases l with ⟨k,_⟩|⟨_,c,e,z⟩
    ·have k:X.env.scope.names.lookup p.1=some .local:=k;rw[k] at n2;cases n2
    ·obtain⟨c',e'⟩:=ok4 p.1 (Zey n3);have e'':=hcl.get _ _ e';rw[e] at e''
     cases e'';obtain⟨o,ho,hd⟩:=z;exact .inr ⟨Zey n3,c,e',o,by rw[es4];exact k34 c o ho,hd⟩
  ·obtain⟨v,o,ho,hd⟩:=I3.cell x c (hcl.get x c e);exact⟨v,o,by rw[es4];exact k34 c o ho,hd⟩
  ·simp[frY,nmY,YL]
 have fY:∀{H':Hp} {s':Shared},(∀b∈fp,H' b=none)->∀b∈fp,ZdM (YL X (nmY own fr) scope cl s3.heap.objs.size s3 (upd H2 s2.heap.objs.size (.lst [])) fp) [] H' b:=fun{H' _} hn b hb=>
  ⟨hn b hb,Nat.ne_of_lt (lt3 b hb),fun z=>by
   rcases List.mem_cons.mp (I3.stkSub b z) with q|q
   ·exact(f3 b hb).2.1 q
   ·exact(f3 b hb).2.2.1 q,.inl hb,fun x c e=>(f3 b hb).2.2.2.2.1 x c (hcl.get x c e),fun p hp=>absurd hp (by simp[YL])⟩
 have loop:codeAny (model X.prog X.w) X.A (.compLoop (.ListComp elt [⟨tg,iter,ifs,0⟩] scope pos) 0 (.ref it) (.ref s2.heap.objs.size) (compEnvC scope cl s3.heap.objs.size X.env))
   (compPost (model X.prog X.w) X.A X.xe use PQ (.ref s2.heap.objs.size) s3.heap.objs.size) s4:=by
  refine ZiD (fun n s'=>∃i ys H',Inv (YL X (nmY own fr) scope cl s3.heap.objs.size s3 (upd H2 s2.heap.objs.size (.lst [])) fp) [] (frY own fr σ) H' s'/\tn i s'.heap/\(∀b∈fp,H' b=none)/\W i n ys H') ?_ m0
   ⟨0,[],_,IY,st4,fun b hb=>(f3 b hb).1,w0⟩
  rintro n s5 ⟨i,ys,H5,I5,st5,fr5,w5⟩ E;obtain⟨d5,way⟩:=turn i n ys H5 w5;rcases way with ⟨stop,q⟩|⟨go,N,hN,step⟩
  ·refine thn (T.done (YL X (nmY own fr) scope cl s3.heap.objs.size s3 (upd H2 s2.heap.objs.size (.lst [])) fp) rfl rfl rfl hc i [] s5 _ H5 E I5 (fY (s':=s5) fr5) st5 stop) fun r s6 ⟨hr,I6⟩=> .inl ⟨hr, ?_⟩;obtain⟨m,hn,_⟩:=I6.loc;have I7:Inv X pins σ H5 s6:=I3.call' (s':=s6) (ch:=fp) I6.os I6.base I6.hok I6.bare (fun b hb=>⟨(f3 b hb).2.2.2.1,(f3 b hb).2.1,(f3 b hb).2.2.2.2.1,(f3 b hb).2.2.2.2.2⟩);exact hend s6 H5 _ _ m I7 hn (I3.fpOk (Nat.le_refl _) I6.free) q
  ·refine thn (T.item (YL X (nmY own fr) scope cl s3.heap.objs.size s3 (upd H2 s2.heap.objs.size (.lst [])) fp) rfl rfl rfl hc i [] s5 _ H5 E I5 (fY (s':=s5) fr5) st5 go) fun r s6 ⟨u,hr,h6⟩=> .inr ⟨u,hr, ?_⟩;refine thn h6 fun _ s7 ⟨x,H7,I7,r7,y7,st7,fr7⟩=> ?_;have I7':=I7.pinned (fY (s':=s7) fr7) (T.obj _ _ st7);refine up (thn (hg _ _ _ _ _ s7 _ H7 x u _ I7' r7 (step x H7 y7)) fun _ s8 ⟨σ8,H8,I8,x8,q8⟩=> ?_)
   refine up (thn (ht _ _ _ _ _ s8 σ8 H8 _ I8 q8) fun ok s9 ⟨H9,I9,q9⟩=> ?_);have again:∀{σ':L2.St} {H':Hp} {s':Shared} {zs:List V},Inv (YL X (nmY own fr) scope cl s3.heap.objs.size s3 (upd H2 s2.heap.objs.size (.lst [])) fp) ([]++Zd4 fp s7.heap) σ' H' s'->Ext (frY own fr σ) σ'->N zs H'->
     ∃m,m<n/\∃i ys H',Inv (YL X (nmY own fr) scope cl s3.heap.objs.size s3 (upd H2 s2.heap.objs.size (.lst [])) fp) [] (frY own fr σ) H' s'/\tn i s'.heap/\(∀b∈fp,H' b=none)/\W i m ys H':=fun{σ' H' s' zs} I' x' n'=>by
    obtain⟨m',hm,w'⟩:=hN zs H' n';refine⟨m',hm,i+1,zs,H',I'.unpinned.weak x'.len fun j v e=>x'.get j v e,T.keep _ _ _ st7 fun b hb o e=>(I'.pin (b,o) (List.mem_append_right _ (List.mem_append_right _ (ZaA hb e)))).1,fun b hb=> ?_,w'⟩;obtain⟨o,e,_⟩:=T.obj _ _ st7 b hb;exact(I'.pin (b,o) (List.mem_append_right _ (List.mem_append_right _ (ZaA hb e)))).2.1
   cases ok with
   |false=>
    rw[if_neg Bool.false_ne_true] at q9
    exact .inr ⟨rfl,again I9 x8 q9⟩
   |true=>
    rw[if_pos rfl] at q9
    refine .inl ⟨rfl,up (thn (he _ _ _ _ _ s9 σ8 H9 _ I9 q9) fun y s10 ⟨v10,H10,I10,r10,d10,z10,n10⟩=> ?_)⟩;refine up (thn (Zau _ s10 σ8 H10 (.ref s2.heap.objs.size) [v10] _ [y] (fun _ H'=>N (ys++[v10]) H') I10 rfl (.cons r10 .nil) ⟨s2.heap.objs.size,ys,v10,rfl,rfl,d10,z10,n10⟩) fun _ s11 ⟨v11,H11,I11,_,n11⟩=> ?_);exact again I11 x8 n11
 have Zb1:codeAny (model X.prog X.w) X.A (.compStart (.ListComp elt [⟨tg,iter,ifs,0⟩] scope pos) 0 (.ref it) (.ref s2.heap.objs.size) (compEnvC scope cl s3.heap.objs.size X.env))
   (compPost (model X.prog X.w) X.A X.xe use PQ (.ref s2.heap.objs.size) s3.heap.objs.size) s4:=codeAny_compStart_list loop (T.self _ _ _ _ _ st4 loop)
 exact Zb1
theorem Zez{X:Cx}{elt tg iter:Expr}{ifs:List Expr}{scope:Scope}{pos:Pos}{wi:TI}{g:TG}{tc:TT}{te:TE}{cl:List (Str×Addr)}(own:List Str)(fr:List (Str×Nat))(hc:X.calm=true)(hi:PI X tg iter wi)
  (hclos:closureFor scope X.env=pure cl)(hcl:ZfW X cl)(hok:ZbG scope X.env cl=true)(hfr:ZfV X scope fr)
  (hg:∀C s H fp,PG (YL X (nmY own fr) scope cl C s H fp) tg g)(ht:∀C s H fp,PTs (YL X (nmY own fr) scope cl C s H fp) ifs tc)(he:∀C s H fp,PE (YL X (nmY own fr) scope cl C s H fp) elt te)
  (hs:∀x,foldedSetIterable iter X.env x=pure x:=by intro _;rfl):PE X (.ListComp elt [⟨tg,iter,ifs,0⟩] scope pos) (Zgx wi own fr g tc te):=by
 intro pins s σ H Q I h;rw[eval_ListComp];refine Zea (use:=none) own fr hc hi hclos hcl hok hfr hg ht he hs I h fun s6 H5 C D m I6 hn f q=>⟨m,hn,fun h' hs'=> ?_⟩
 exact⟨.ref D,H5,I6.turned (t':=s6.toks) (fun b o hb e=>(hs'.2 b hb).trans e) f.1 f.2.1 f.2.2.2.1 f.2.2.2.2.1 f.2.2.2.2.2,rfl,q⟩
theorem ZiE{X:Cx}{elt tg iter:Expr}{ifs:List Expr}{scope:Scope}{pos py spos:Pos}{y:Str}{i:Nat}{wi:TI}{g:TG}{tc:TT}{te:TE}{cl:List (Str×Addr)}(own:List Str)(fr:List (Str×Nat))(hN:X.N.Nodup)(hy:X.N[i]? =some y)(hx:Loc X.env.scope y)(hc:X.calm=true)(hi:PI X tg iter wi)
  (hclos:closureFor scope X.env=pure cl)(hcl:ZfW X cl)(hok:ZbG scope X.env cl=true)(hfr:ZfV X scope fr)
  (hg:∀C s H fp,PG (YL X (nmY own fr) scope cl C s H fp) tg g)(ht:∀C s H fp,PTs (YL X (nmY own fr) scope cl C s H fp) ifs tc)(he:∀C s H fp,PE (YL X (nmY own fr) scope cl C s H fp) elt te)
  (hs:∀x,foldedSetIterable iter X.env x=pure x:=by intro _;rfl)(hsw:swapsWith (.ListComp elt [⟨tg,iter,ifs,0⟩] scope pos) (some (.Name y py)) spos.line X.env=pure true:=by rfl)
  (hf:X.fn y=true\/X.env.scope.names.lookup y=some .local:=by first|exact .inl rfl|exact .inr rfl|assumption):
  PS X (.Assign [.Name y py] (.ListComp elt [⟨tg,iter,ifs,0⟩] scope pos) spos) (Zk7 (Zgx wi own fr g tc te) (Zgm i)):=by
 intro pins s σ H D' I h;rw[exec_Assign_Name_used y py _ spos hsw];refine wpAny_bind (wpAny_standAt (wpAny_bind (wpAny_bind ?_)));refine(thn (Zea (use:=some (assign (.Name y py) X.env)) (PQ:=fun _ s'=>SP X pins D' .next s') own fr hc hi hclos hcl hok hfr hg ht he hs I h fun s6 H5 C D m I6 hn f q=> ?_) fun _ s' hq=>wpAny_pure (wpAny_pure hq));obtain⟨o,es,ep,ho,hrest⟩:=id hn;have I7:Inv X (pins++[(C,o)]) σ H5 s6:=I6.pins_of fun p hp=>by
  rcases List.mem_append.mp hp with old|z
  ·exact I6.pin p (List.mem_append_right _ old)
  ·have e:p=(C,o):=by simpa using z
   subst e;exact⟨ho,f.1,f.2.1,f.2.2.1,fun v z=>by rw[hrest.1] at z;cases z⟩
 refine thn (XH (pos:=py) hN hy hx hf (pins++[(C,o)]) s6 σ H5 (.ref D) (.ref D) D'.nx I7 rfl q) fun _ s8 ⟨σ8,H8,I8,q8⟩=> ?_;have hC:=I8.pin (C,o) (List.mem_append_right _ (List.mem_append_right _ (by simp)));refine⟨m,hn.at' fun o' e=>by rw[ho] at e;cases e;exact hC.1,fun h' hs'=>⟨σ8,H8,I8.unpinned.turned (t':=s8.toks) (fun b o hb e=>(hs'.2 b hb).trans e) hC.2.1 f.2.1 f.2.2.2.1 f.2.2.2.2.1 f.2.2.2.2.2,q8⟩⟩
theorem Zju{te:TE}{D:ZbV}{σ:L2.St}{H:Hp}(h:te σ H D.rt):Zk6 te D σ H:=h
theorem ZiF{r:List V->Hp->VK->Prop}{t:TA}{σ:L2.St}{H:Hp}{Q:VK}(h:t σ H fun vs H1=>r vs H1 Q):tCB r t σ H Q:=h
theorem Zjv{ta:TE}{σ:L2.St}{H:Hp}{Q:List V->Hp->Prop}(h:ta σ H fun x H1=>Q [x] H1):Zja ta ZgV σ H Q:=h
theorem Zhv{z:Str}{own:List Str}{fr:List (Str×Nat)}{te:TE}{σ:L2.St}{H:Hp}{Q:VK}{i0 j:Nat}(f:Nat->V)(hv:σ[j]? =some (some (.str z)))(hz:z.length<=sizeLine)
  (hx:∀v,Ext (frY own fr σ) ((frY own fr σ).set i0 (some v)))(he:∀c H2 (Q2:VK),Q2 (f c) H2->te ((frY own fr σ).set i0 (some (.str ⟨#[c]⟩))) H2 Q2)(q:∀D,H D=none->Q (.ref D) (upd H D (.lst (z.cps.toList.map f)))):
  Zgx (Zkn (ZgO j)) own fr (Zgm i0) Zfk te σ H Q:=by
 refine⟨_,hv,z,rfl,fun D hD=> ?_⟩;refine⟨fun i m ys H2=>m=z.length-i/\i<=z.length/\ys=(z.cps.toList.take i).map f/\H2=upd H D (.lst ys),⟨z.length,by simp,Nat.zero_le _,by simp,rfl⟩, ?_⟩;rintro i m ys H2 ⟨rfl,hi,rfl,rfl⟩;refine⟨Zb, ?_⟩;have hl:z.cps.toList.length=z.length:=by rw[Array.length_toList];rfl
 by_cases hlt:i<z.length
 ·refine .inr ⟨hlt,fun zs H'=>zs=(z.cps.toList.take (i+1)).map f/\H'=upd H D (.lst zs),fun zs H' ⟨e1,e2⟩=>⟨z.length-(i+1),by omega,rfl,hlt,e1,e2⟩,fun x H' y=> ?_⟩;obtain⟨e,c,hc,ex⟩:=y;subst e ex;refine⟨hx _, ?_⟩;unfold Zfk
  dsimp only
  rw[if_pos rfl];refine he c _ _ ⟨Zb, ?_, ?_,YZ⟩
  ·rw[List.length_map,List.length_take];omega
  ·have e3:z.cps.toList[i]? =some c:=by rw[Array.getElem?_toList];exact hc
   rw[List.take_add_one,e3,List.map_append]
   rfl
 ·have e:i=z.length:=by omega
  subst e;refine .inl ⟨Nat.le_refl _, ?_⟩;rw[List.take_of_length_le (by rw[hl];exact Nat.le_refl _)]
  exact q D hD
end L3
namespace L3
open PySem PySem.Spec PyProof.Rows L2
theorem YW:bootBuiltins "len"=some (.builtin "len"):=by decide+kernel
theorem Zhw:bootBuiltins "abs"=some (.builtin "abs"):=by decide+kernel
theorem Zjw:bootBuiltins "all"=some (.builtin "all"):=by decide+kernel
theorem ZW:bootBuiltins "isinstance"=some (.builtin "isinstance"):=by decide+kernel
theorem ZfX:bootBuiltins "int"=some (.type "int"):=by decide+kernel
theorem Zde:bootBuiltins "str"=some (.type "str"):=by decide+kernel
theorem ZiG:bootBuiltins "list"=some (.type "list"):=by decide+kernel
theorem Zfl:bootBuiltins "reversed"=some (.type "reversed"):=by decide+kernel
structure Cal (P:Program) (w:World) (K:PySem.W.Frag) (mg:Str->Option Value) (base:Heap) (CX:CXT) (k:Nat) (x:Str) (ps:List Str) (sp:Sp):Prop where
 ex:∃(f:Addr) (fd:FuncData),mg x=some (.ref f)/\PySem.W.keepIn K (.ref f)=true/\Zb0 K fd ps []/\Yx P w K mg base CX k f fd ps sp
section
variable {X:Cx} {CX:CXT} {k:Nat} {x:Str} {ps:List Str} {sp:Sp} {E:XK} {e:PySem.Expr} {es:List PySem.Expr} {t:TA} {p pos:Pos}
theorem Yi(c:Cal X.prog X.w X.K X.mg X.base CX k x ps sp)(hr:Xl k X.A)(hg:Gl X x)(hx:JK CX X E)(ha:PA X (e::es) t)(hdb:(x==("__debug__":Str))=false:=by decide)
  (he:starEach (e::es) X.env=(false,eval e X.env)::starEach es X.env:=by rfl)(hpl:(backTo pos (starEach es X.env)).any (·.1)=false:=by rfl):PE X (.Call (.Name x p) (e::es) [] pos) (Zgt sp [] E t):=by
 obtain⟨f,fd,hm,hk,hb,F⟩:=c.ex;exact Ziw F hr hg hm hk hb .nil hx ha hdb he hpl
theorem Zjx(c:Cal X.prog X.w X.K X.mg X.base CX k x ps sp)(hr:Xl k X.A)(hg:Gl X x)(hx:JK CX X E)(hdb:(x==("__debug__":Str))=false:=by decide):PE X (.Call (.Name x p) [] [] pos) (Zgt sp [] E ZgV):=by
 obtain⟨f,fd,hm,hk,hb,F⟩:=c.ex;exact Zho F hr hg hm hk hb .nil hx hdb
end
theorem Zb2:∀{ns:List Int} {B:Nat},PySem.W.WData.weightAll (ns.map PySem.W.WData.int)<=B->∀i∈ns,Builtin.Int.intBits i<=B
 |[],_,_,i,hi=>by simp at hi
 |n::ns,B,h,i,hi=>by
  have h:PySem.W.WData.weight (.int n)+1+PySem.W.WData.weightAll (ns.map PySem.W.WData.int)<=B:=h;have e:PySem.W.WData.weight (.int n)=Builtin.Int.intBits n:=rfl;rw[e] at h
  rcases List.mem_cons.mp hi with rfl|hi
  ·omega
  ·exact Zb2 (by omega) i hi
theorem ZiH{l:PySem.W.OpenLaw}{n:Nat}{q:Program}{loose:List Str}{XP:(Str->Option Value)->Heap->Prop}{YP:World->Heap->Prop}{d:DefRec}
  (hn:l.most=some n)(hdf:d.params.defaults=[])
  (call:∀(w:World) (s₀ s₁:Shared) (mg mb:Str->Option Value) (fa:Addr) (a:Addr) (vs:List Value) (ns:List Int),
   PySem.W.Ground q loose [] XP w s₀ mg mb s₁.heap->YP w s₁.heap->mg d.name=some (.ref fa)->
   s₁.heap.get? a=some {cls:=.type "list",data:=.seq vs.toArray}->IntsAre vs ns->ns.length<=n->(∀i∈ns,Builtin.Int.intBits i<=1048576)->s₁.gens= #[]->
   codeAny (model l.prog w) callerA (.call (.ref fa) ⟨[.ref a],[]⟩) (fun r s'=>r=.ok (.ret (.bool true))/\OldK s₁.heap s'.heap/\s'.os=s₁.os/\AllBare s'.gens) s₁):
  PySem.W.WalkO q loose XP YP l.row.toRowW d [] (fun f vs=>PySem.call f vs):=by
 intro w s₀ s₁ mg mb G Y fa o pm cd doc dV kV ho hdata hcode hD hmg hg args vals as hpre hlay hread hwl hlow;obtain rfl:dV=.none:=PySem.W.Dflts.none hD hdf;obtain rfl:kV=.none:=PySem.W.Dflts.noKw hD;obtain⟨a,vs,ns,rfl,rfl,hobj,hints,hlen⟩:=Att.script_of hn hpre hwl;have hb:∀i∈ns,Builtin.Int.intBits i<=1048576:=by
  have h1:PySem.W.WData.layableAll [PySem.W.WData.list (ns.map PySem.W.WData.int)]=true:=hlay;have h2:PySem.W.WData.layable (PySem.W.WData.list (ns.map PySem.W.WData.int))=true:=by simpa [PySem.W.WData.layableAll] using h1
  have h3:PySem.W.WData.weight (PySem.W.WData.list (ns.map PySem.W.WData.int))<=2^20:=by
   unfold PySem.W.WData.layable at h2
   rw[Bool.and_eq_true] at h2
   exact of_decide_eq_true h2.2
  exact Zb2 (show PySem.W.WData.weightAll (ns.map PySem.W.WData.int)<=1048576 from h3)
 refine PySem.W.enter_call (codeAny_mono (call w s₀ s₁ mg mb fa a vs ns G Y hmg hobj hints hlen hb hg) fun r s' hq=> ?_);obtain⟨rfl,h2,h3,h4⟩:=hq;exact⟨.inl ⟨.bool true,.bool true,[],rfl,fun _=>rfl,.bool true,Att.post_true l _,fun _=>⟨List.Pairwise.nil,fun _ hm=>(nomatch hm)⟩⟩,h2,h3,h4⟩
def Zhx(K:PySem.W.Frag):Sp:=fun vs H Q _=>∃(a:Addr) (ns:List Int),vs=[.ref a]/\SqL K H a (ns.map V.int)/\ns.length<=63/\(∀i∈ns,Builtin.Int.intBits i<=1048576)/\∀H',Q (.bl true) H'
theorem Zkp{l:PySem.W.OpenLaw}{k:Nat}{q:Program}{loose:List Str}{XP:(Str->Option Value)->Heap->Prop}{YP:World->Heap->Prop}{d:DefRec}{K:Params->PySem.W.Frag}{x:Str}
  (hn:l.most=some 63)(hdf:d.params.defaults=[])(hr:Xl k callerA)(hY:∀(w:World) (h:Heap),YP w h->(K w.params).In h)
  (F:∀(w:World) (mg:Str->Option Value) (fa:Addr) (h:Heap),(K w.params).In h->h.Ns mainGlobals mg->mg d.name=some (.ref fa)->
   ∃fd:FuncData,(∀(s:Shared) (u:Value),BindsTo s fd ⟨[u],[]⟩ [(x,u)])/\∀base:Heap,(K w.params).In base->base.Ns mainGlobals mg->Yx l.prog w (K w.params) mg base CX0 k fa fd [x] (Zhx (K w.params))):
  PySem.W.WalkO q loose XP YP l.row.toRowW d [] (fun f vs=>PySem.call f vs):=by
 refine ZiH hn hdf fun w s₀ s₁ mg mb fa a vs ns G Y hmg hobj hints hlen hb hg=> ?_;have KX:=hY w _ Y;obtain⟨fd,hbd,hF⟩:=F w mg fa _ KX G.T.g hmg;exact Zht KX G.T.g G.T.b G.T.builtins G.T.nolimit hg hobj hints (Nat.le_trans hlen (by decide)) hr hF hbd (fun H hO hS=>⟨a,ns,rfl,hS,hlen,hb,fun _=>rfl⟩) fun H e s' z=>z
end L3
namespace L3
open PySem PySem.Spec PyProof.Rows L2 PySem.Builtin PySem.Builtin.Str
section
variable {X:Cx}
theorem ZeA:ZbY X (.type "int") (fun xs H Q=>∃x n,xs=[.str x]/\PySem.intText? x=some n/\x.length<=640/\Q (.int n) H):=by
 intro pins s σ H xs us Q I r h;obtain⟨x,n,rfl,hn,hl,q⟩:=h;obtain⟨u,rfl,t,rfl⟩:=Zc0 r;exact PySem.W.KIN.call_text hn hl ⟨.int n,H,I.tok _,⟨_,rfl⟩,q⟩
theorem ZgY{prog:Program}{w:World}{A:Around}{E:Value->Shared->Prop}{s:Shared}{z y:Str}{t u:Tok}{Q:Value->Shared->Prop}(hy:(y.length==0)=false)
  (h:∀(l:List (Str×Tok)) (k:Nat),l.map (·.1)=Txt.split z y->Q (.ref s.heap.objs.size) {s with heap:=s.heap.push {cls:=.type "list",data:=.seq (strValues l).toArray},toks:=k})(hz:z.length+2<=sizeLine):
  wpAny (model prog w) A (call (.builtin "str.split") [.str z t,.str y u]) Q E s:=by
 have few:(partsBetween z (occurrences z y 0 z.length (z.length+1)) y.length).length<=sizeLine:=by
  have most:=StrLaws.occ_length_le z y 0 z.length (z.length+1);rw[length_partsBetween];omega
 cases can:(decide (z.length<y.length)||decide (strKind z<strKind y))
 ·cases none':(occurrences z y 0 z.length (z.length+1)).isEmpty
  ·refine call_meets PySem.F.slot_str_split (typeIs_str _ _ _) PySem.F.entry_str_split (PySem.F.args_str_split_2 _ _) (meets_str_split_sep z y t u can hy none' (by omega) few) ?_;show wants Q E _ {s with toks:=_,heap:=s.heap.push {cls:=.type "list",data:=.seq (strsFrom s.toks (partsBetween z (occurrences z y 0 z.length (z.length+1)) y.length)).toArray}};rw[strsFrom_eq];exact h (numbered s.toks _) _ ((numbered_texts _ _).trans ((if_neg (ne_true_of_eq_false can)).trans (if_neg (ne_true_of_eq_false none'))).symm)
  ·exact call_meets PySem.F.slot_str_split (typeIs_str _ _ _) PySem.F.entry_str_split (PySem.F.args_str_split_2 _ _) (meets_str_split_not_found z y t u can hy none') (h [(z,t)] s.toks ((if_neg (ne_true_of_eq_false can)).trans (if_pos none')).symm)
 ·exact call_meets PySem.F.slot_str_split (typeIs_str _ _ _) PySem.F.entry_str_split (PySem.F.args_str_split_2 _ _) (meets_str_split_cannot_occur z y t u can) (h [(z,t)] s.toks (if_pos can).symm)
theorem Zeb:∀l:List (Str×Tok),ZZ ((l.map (·.1)).map V.str) (strValues l)
 |[]=> .nil
 |p::l=> .cons ⟨p.2,rfl⟩ (Zeb l)
theorem ZbH:MtR X "str.split" (fun x vs H Q=>∃z c,x=.str z/\vs=[.str ⟨#[c]⟩]/\z.length+2<=sizeLine/\∀p,H p=none->Q (.ref p) (upd H p (.lst ((Txt.split z ⟨#[c]⟩).map V.str)))):=by
 intro pins s σ H x xs v us Q I rx r h;obtain⟨z,c,rfl,rfl,hz,q⟩:=h;obtain⟨t,rfl⟩:=rx;obtain⟨u,rfl,t2,rfl⟩:=Zc0 r;refine ZgY (by rfl) (fun l k e=> ?_) hz;have hl:(Txt.split z ⟨#[c]⟩).length<=z.length+2:=split_le z ⟨#[c]⟩;have hv:=Zeb l;rw[e] at hv
 exact⟨.ref _,_,I.lnew (t':=k) hv (by rw[List.length_map];omega),rfl,q _ I.fresh⟩
theorem Zc2:∀{ys:List Str} {us:List Value},ZZ (ys.map V.str) us->StrsAre us ys
 |[],us,r=>by
  rw[List.map_nil] at r
  cases r;exact .nil
 |y::ys,us,r=>by
  rw[List.map_cons] at r
  cases r with
  |cons r1 r2=>
   obtain⟨t,e⟩:=r1;subst e;exact .cons y t (Zc2 r2)
theorem Zav:MtR X "str.join" (fun x vs H Q=>∃z p ys,x=.str z/\vs=[.ref p]/\SqL X.K H p (ys.map V.str)/\(ys.map (·.length)).sum+ys.length*z.length<=16777216/\Q (.str (Txt.join z ys)) H):=by
 intro pins s σ H x xs v us Q I rx r h;obtain⟨z,p,ys,rfl,rfl,hS,hk,q⟩:=h;obtain⟨t,rfl⟩:=rx;obtain⟨u,rfl,r2⟩:=Zc0 r;cases r2;obtain⟨its,rv,pl,_⟩:=I.list hS;exact join_list pl.isList (by simpa using Zc2 rv) hk fun t' k=>⟨.str _,H,I.tok _,⟨_,rfl⟩,q⟩
abbrev TF:=L2.St->Hp->(Str->Hp->Prop)->Prop
def PF1(X:Cx)(e:PySem.Expr)(t:TF):Prop:=
 ∀(pins:List (Addr×Obj)) (s:Shared) (σ:L2.St) (H:Hp) (Q:Str->Hp->Prop),Inv X pins σ H s->t σ H Q->wpAny (model X.prog X.w) X.A (eval e X.env) (fun u s'=>∃y tk H',u=.str y tk/\Inv X pins σ H' s'/\Q y H') X.xe s
def PFs(X:Cx)(es:List PySem.Expr)(t:Str->TF):Prop:=
 ∀(out:Str) (pins:List (Addr×Obj)) (s:Shared) (σ:L2.St) (H:Hp) (Q:Str->Hp->Prop),Inv X pins σ H s->t out σ H Q->wpAny (model X.prog X.w) X.A (joinParts out (evalEach es X.env)) (fun u s'=>∃y tk H',u=.str y tk/\Inv X pins σ H' s'/\Q y H') X.xe s
theorem Zcn{x:Str}{k:Nat}{pos:Pos}:PF1 X (.Constant (.str x) k pos) (fun _ H Q=>Q x H):=fun _ _ _ H _ I h=>Calls.Constant_str ⟨x,_,H,rfl,I.tok _,h⟩
theorem Zdf:PFs X [] (fun out _ H Q=>out.length<=sizeLine/\Q out H):=fun out _ s _ H _ I h=>joinParts_nil ⟨out,_,H,rfl,I.tok _,h.2⟩ h.1
theorem XN{e:PySem.Expr}{es:List PySem.Expr}{t1:TF}{t2:Str->TF}(h1:PF1 X e t1)(h2:PFs X es t2):PFs X (e::es) (fun out σ H Q=>t1 σ H fun y H1=>(out++y).length<=sizeLine/\t2 (out++y) σ H1 Q):=by
 intro out pins s σ H Q I h;show wpAny (model X.prog X.w) X.A (joinParts out (eval e X.env::evalEach es X.env)) _ X.xe s;refine joinParts_cons (thn (h1 pins s σ H _ I h) fun v s1 hv=> ?_);obtain⟨y,tk,H1,rfl,I1,hz,q⟩:=hv;exact⟨hz,h2 (out++y) pins s1 σ H1 Q I1 q⟩
theorem Zc3{v1 v2:PySem.Expr}{rest:List PySem.Expr}{pos:Pos}{t:Str->TF}(h:PFs X (v1::v2::rest) t):PE X (.JoinedStr (v1::v2::rest) pos) (fun σ H Q=>t Str.empty σ H fun y H1=>Q (.str y) H1):=by
 intro pins s σ H Q I q;refine JoinedStr_many (thn (h Str.empty pins s σ H _ I q) fun u s1 hu=> ?_);obtain⟨y,tk,H1,rfl,I1,q1⟩:=hu;exact⟨.str y,H1,I1,⟨tk,rfl⟩,q1⟩
end
end L3
namespace M1
open PySem.Builtin PySem.Builtin.Str PySem
def cs(x:Str):List Nat:=x.cps.toList
theorem ext{x y:Str}(h:cs x=cs y):x=y:=Str.ext' (Array.toList_inj.mp h)
theorem Yu(x y:Str):cs (x++y)=cs x++cs y:=by
 show(x.cps++y.cps).toList=_;rw[Array.toList_append]
 rfl
theorem Za8(c:Nat):cs ⟨#[c]⟩=[c]:=rfl
theorem JL(x:Str):x.length=(cs x).length:=by
 show x.cps.size=x.cps.toList.length;rw[Array.length_toList]
def J(c:Nat):List (List Nat)->List Nat
 |[]=>[]
 |[p]=>p
 |p::q::r=>p++c::J c (q::r)
theorem ZcV(c:Nat):∀ps:List Str,cs (Str.join ⟨#[c]⟩ ps)=J c (ps.map cs)
 |[]=>rfl
 |[p]=>rfl
 |p::q::r=>by
  show cs (p++⟨#[c]⟩++Str.join ⟨#[c]⟩ (q::r))=_;rw[Yu,Yu,Za8,ZcV c (q::r),List.append_assoc]
  rfl
theorem Zgy{c:Nat}:∀{a b r s:List Nat},c∉a->c∉b->a++c::r=b++c::s->a=b/\r=s
 |[],[],_,_,_,_,e=>⟨rfl,(List.cons.inj e).2⟩
 |[],y::b,_,_,_,hb,e=>absurd (by have:=(List.cons.inj e).1;rw[this];exact List.mem_cons_self) hb
 |x::a,[],_,_,ha,_,e=>absurd (by have:=(List.cons.inj e).1;rw[<-this];exact List.mem_cons_self) ha
 |x::a,y::b,r,s,ha,hb,e=>by
  obtain⟨e1,e2⟩:=List.cons.inj e;obtain⟨e3,e4⟩:=Zgy (fun z=>ha (List.mem_cons_of_mem _ z)) (fun z=>hb (List.mem_cons_of_mem _ z)) e2;exact⟨by rw[e1,e3],e4⟩
theorem Zje{c:Nat}:∀{ps qs:List (List Nat)},ps≠[]->qs≠[]->(∀p∈ps,c∉p)->(∀q∈qs,c∉q)->J c ps=J c qs->ps=qs
 |[],_,h,_,_,_,_=>absurd rfl h
 |_,[],_,h,_,_,_=>absurd rfl h
 |[p],[q],_,_,_,_,e=>by
  have e:p=q:=e;rw[e]
 |[p],q::q2::r,_,_,hp,_,e=>by
  have e:p=q++c::J c (q2::r):=e;exact absurd (by rw[e];simp) (hp p List.mem_cons_self)
 |p::p2::r,[q],_,_,_,hq,e=>by
  have e:p++c::J c (p2::r)=q:=e;exact absurd (by rw[<-e];simp) (hq q List.mem_cons_self)
 |p::p2::r,q::q2::s,_,_,hp,hq,e=>by
  have e:p++c::J c (p2::r)=q++c::J c (q2::s):=e;obtain⟨e1,e2⟩:=Zgy (hp p List.mem_cons_self) (hq q List.mem_cons_self) e;have ih:=Zje (by simp) (by simp) (fun z hz=>hp z (List.mem_cons_of_mem _ hz)) (fun z hz=>hq z (List.mem_cons_of_mem _ hz)) e2;rw[e1,ih]
theorem Zhy(x:Str)(c:Nat):Txt.split x ⟨#[c]⟩≠[]:=by
 intro e;have h:=StrLaws.join_split x ⟨#[c]⟩;unfold Txt.split at e
 split at e
 ·cases e
 ·split at e
  ·cases e
  ·rename_i h1 h2
   rw[StrLaws.partsBetween_eq] at e
   obtain⟨p,q,e'⟩:=StrLaws.partsFrom_ne x (⟨#[c]⟩:Str).length 0 (occurrences x ⟨#[c]⟩ 0 x.length (x.length+1));rw[e'] at e
   cases e
theorem Zdg(x:Str)(c:Nat)(ps:List Str)(h0:ps≠[])(hf:∀p∈ps,c∉cs p)(e:cs x=J c (ps.map cs)):Txt.split x ⟨#[c]⟩=ps:=by
 have h1:J c ((Txt.split x ⟨#[c]⟩).map cs)=J c (ps.map cs):=by rw[<-ZcV,StrLaws.join_split,e]
 have h2:=Zje (c:=c) (ps:=(Txt.split x ⟨#[c]⟩).map cs) (qs:=ps.map cs) (by simpa using Zhy x c) (by simpa using h0)
  (fun p hp=>by obtain⟨q,hq,rfl⟩:=List.mem_map.mp hp;exact StrLaws.split_free x c q hq) (fun p hp=>by obtain⟨q,hq,rfl⟩:=List.mem_map.mp hp;exact hf q hq) h1
 have h3:∀(a b:List Str),a.map cs=b.map cs->a=b:=by
  intro a
  induction a with
  |nil=>intro b e;cases b with|nil=>rfl|cons _ _=>cases e
  |cons x a ih=>
   intro b e;cases b with
   |nil=>cases e
   |cons y b=>
    obtain⟨e1,e2⟩:=List.cons.inj e;rw[ext e1,ih b e2]
 exact h3 _ _ h2
def ix(n d:Nat):Option Int->Nat
 |none=>d
 |some i=>(max 0 (min (if i<0 then i+(n:Int) else i) (n:Int))).toNat
theorem Zkq{n d:Nat}(h:d<=n):∀o,ix n d o<=n
 |none=>h
 |some i=>by
  show(max 0 (min (if i<0 then i+(n:Int) else i) (n:Int))).toNat<=n;omega
theorem Zkr(L:List Nat)(lo:Nat):∀m:Nat,(List.range m).filterMap (fun k=>L[lo+k]?)=(L.drop lo).take m
 |0=>by simp
 |m+1=>by
  rw[List.range_succ,List.filterMap_append,Zkr L lo m,List.take_add_one,List.getElem?_drop];cases h:L[lo+m]? <;>simp[h]
theorem Zjy(l u:Option Int)(n:Nat):strSliceIndices l u 1 n=(List.range (ix n n u-ix n 0 l)).map (ix n 0 l+ ·):=by
 have key:∀a b:Nat,sliceRange (a:Int) (b:Int) 1=(List.range (b-a)).map (a+ ·):=by
  intro a b;unfold sliceRange;simp only [show(1:Int)>0 by decide,if_true];have e1:(if(a:Int)<(b:Int) then((b:Int)-(a:Int)+1-1)/1 else 0).toNat=b-a:=by
   split
   ·rw[Int.ediv_one];omega
   ·omega
  rw[e1];refine List.map_congr_left fun place _=> ?_;omega
 have e1:∀(d:Nat) (o:Option Int),(match o with|none=>(d:Int)|some i=>max 0 (min (if i<0 then i+(n:Int) else i) (n:Int)))=((ix n d o:Nat):Int):=by
  intro d o;cases o with
  |none=>rfl
  |some i=>
   show max 0 (min (if i<0 then i+(n:Int) else i) (n:Int))=(((max 0 (min (if i<0 then i+(n:Int) else i) (n:Int))).toNat:Nat):Int);omega
 rw[<-key,<-e1 0 l,<-e1 n u];unfold strSliceIndices;simp only [show(1:Int)>0 by decide,if_true];cases l<;>cases u<;>rfl
theorem Zec(x:Str)(l u:Option Int):cs (Txt.slice x l u)=((cs x).drop (ix x.length 0 l)).take (ix x.length x.length u-ix x.length 0 l):=by
 unfold Txt.slice;rw[Zjy];have h1:=Zkq (n:=x.length) (d:=x.length) (Nat.le_refl _) u
 split
 ·rename_i h
  have h:ix x.length x.length u-ix x.length 0 l=x.length:=by simpa using h
  by_cases hx:x.length=0
  ·have e:cs x=[]:=List.length_eq_zero_iff.mp (by rw[<-JL];exact hx)
   rw[e];simp
  ·have e:ix x.length 0 l=0:=by omega
   rw[h,e,List.drop_zero,JL,List.take_length]
 ·show(((List.range (ix x.length x.length u-ix x.length 0 l)).map (ix x.length 0 l+ ·)).filterMap (x.cps[·]?)).toArray.toList=_;rw[List.filterMap_map,<-Zkr];have e:((fun a=>x.cps[a]?)∘fun k=>ix x.length 0 l+k)=fun k=>(cs x)[ix x.length 0 l+k]? :=by
   funext k
   show x.cps[ix x.length 0 l+k]? =(cs x)[ix x.length 0 l+k]?;unfold cs;rw[Array.getElem?_toList]
  rw[<-e]
theorem ZfY(a:Str)(c:Nat):Txt.slice (a++⟨#[c]⟩) none (some (-1))=a:=by
 apply ext
 rw[Zec,Yu,Za8];have hl:(a++⟨#[c]⟩:Str).length=(cs a).length+1:=by rw[JL,Yu,Za8];simp
 have e1:ix (a++⟨#[c]⟩:Str).length (a++⟨#[c]⟩:Str).length (some (-1))=(cs a).length:=by
  show(max 0 (min (if(-1:Int)<0 then-1+((a++⟨#[c]⟩:Str).length:Int) else-1) ((a++⟨#[c]⟩:Str).length:Int))).toNat=_;rw[hl];omega
 rw[e1];show(((cs a)++[c]).drop 0).take ((cs a).length-0)=_;simp
theorem ZfZ(a:Str)(c:Nat):Txt.slice (a++⟨#[c]⟩) (some (-1)) none=⟨#[c]⟩:=by
 apply ext
 rw[Zec,Yu,Za8];have hl:(a++⟨#[c]⟩:Str).length=(cs a).length+1:=by rw[JL,Yu,Za8];simp
 have e1:ix (a++⟨#[c]⟩:Str).length 0 (some (-1))=(cs a).length:=by
  show(max 0 (min (if(-1:Int)<0 then-1+((a++⟨#[c]⟩:Str).length:Int) else-1) ((a++⟨#[c]⟩:Str).length:Int))).toNat=_;rw[hl];omega
 rw[e1];show(((cs a)++[c]).drop (cs a).length).take ((a++⟨#[c]⟩:Str).length-(cs a).length)=_;rw[hl];simp
def inS(y:Str)(c:Nat):Bool:= !(occurrences y ⟨#[c]⟩ 0 y.length 1).isEmpty
theorem Zgz(y:Str)(c:Nat):inS y c=true↔c∈cs y:=by
 unfold inS;rw[StrLaws.found_iff]
 constructor
 ·rintro⟨i,h1,h2⟩;have:=(StrLaws.subAt_one y c i).mp ⟨h1,h2⟩;exact List.mem_of_getElem? this
 ·intro h;obtain⟨i,hi⟩:=List.getElem?_of_mem h;exact⟨i,(StrLaws.subAt_one y c i).mpr hi⟩
end M1
namespace M2
open PySem M1
def num(n:Nat):Str:=Str.ofString (toString ((n:Nat):Int))
theorem Zg0(n:Nat):cs (num n)=(Nat.toDigits 10 n).map Char.toNat:=PySem.W.KIN.signs_num n
theorem fig:∀d:Nat,d<10->(Nat.digitChar d).toNat=48+d:=by decide
theorem Zbs{n:Nat}(h:n<10):cs (num n)=[48+n]:=by
 rw[Zg0,Nat.toDigits_of_lt_base h];show[(Nat.digitChar n).toNat]=_;rw[fig n h]
theorem Zdh{n:Nat}(h:10<=n):cs (num n)=cs (num (n/10))++[48+n%10]:=by
 have hm:n%10<10:=Nat.mod_lt n (by decide);have t:Nat.toDigits 10 (n/10)++Nat.toDigits 10 (n%10)=Nat.toDigits 10 (10*(n/10)+n%10):=Nat.toDigits_append_toDigits (by decide) (by omega) hm;rw[Nat.div_add_mod] at t
 rw[Zg0,Zg0,<-t,List.map_append,Nat.toDigits_of_lt_base hm];show _++[(Nat.digitChar (n%10)).toNat]=_;rw[fig _ hm]
theorem Zhz(n:Nat):cs (num n)≠[]:=by
 by_cases h:n<10
 ·rw[Zbs h];simp
 ·rw[Zdh (by omega)];simp
theorem ZaB(n:Nat):NumText.AllDigits (cs (num n)):=by
 induction n using Nat.strongRecOn with
 |_ n ih=>
  by_cases h:n<10
  ·rw[Zbs h];intro c hc;have e:c=48+n:=by simpa using hc
   omega
  ·rw[Zdh (by omega)];intro c hc;rcases List.mem_append.mp hc with h1|h1
   ·exact ih (n/10) (by omega) c h1
   ·have e:c=48+n%10:=by simpa using h1
    have:=Nat.mod_lt n (show 10>0 by decide);omega
theorem ZhA(n:Nat):(cs (num n)).head? =some 48->n=0:=by
 induction n using Nat.strongRecOn with
 |_ n ih=>
  intro e
  by_cases h:n<10
  ·rw[Zbs h] at e
   have e:48+n=48:=by simpa using e
   omega
  ·rw[Zdh (by omega)] at e
   have e2:(cs (num (n/10))).head? =some 48:=by
    cases q:cs (num (n/10)) with
    |nil=>exact absurd q (Zhz _)
    |cons a r=>rw[q] at e;simpa using e
   have:=ih (n/10) (by omega) e2;omega
theorem Zbt{n k:Nat}(hk:0<k)(h:n<10^k):(num n).length<=k:=by
 refine PyProof.Rows.toString_length_le (by omega) hk ?_;have e:((10^k:Nat):Int)=(10:Int)^k:=by simp
 rw[<-e];omega
theorem ZhB:num 0=⟨#[48]⟩:=ext (Zbs (by decide))
end M2
namespace L3
open PySem PySem.Spec PyProof.Rows L2
section
variable {X:Cx} {pins:List (Addr×Obj)} {σ:L2.St} {H:Hp} {s:Shared} {a n:Addr} {p q:HO}
end
section
variable {X:Cx} {tg:PySem.Expr}
end
end L3
namespace L3
open PySem PySem.Spec PyProof.Rows L2
theorem Zks{A B:Hp->Prop}{σ:L2.St}{H:Hp}(h:A H):Zfk σ H (fun b H5=>if b=true then A H5 else B H5):=by
 unfold Zfk;exact Xm h
structure Zkt (n:Nat) (Pv:Nat->List V->Hp->Prop) (D:Addr) (J:It) (own:List Str) (fr:List (Str×Nat)) (g:TG) (tc:TT) (te:TE) (σ:L2.St) (H:Hp) (Q:VK):Prop where
 hn:n<=sizeLine
 h0:Pv 0 [] (upd H D (.lst []))
 hlen:∀i ys H2,Pv i ys H2->ys.length<=i
 st:∀i ys zs H2 H3,H2 D=some (.lst zs)->(∀b u,b≠D->H2 b=some u->H3 b=some u)->Pv i ys H2->Pv i ys H3
 hgo:∀i ys H2,Pv i ys H2->i<n->J.go i H2
 hstop:∀ys H2,Pv n ys H2->H2 D=some (.lst ys)->J.stop n H2/\Q (.ref D) H2
 hstep:∀i x ys H2 H3,Pv i ys H2->H2 D=some (.lst ys)->i<n->J.yld i H2 x H3->∀(RT:V->Hp->Prop) (RF:Hp->Prop),(∀v H6,H6 D=some (.lst ys)->Pv (i+1) (ys++[v]) H6->RT v H6)->(∀H5,H5 D=some (.lst ys)->Pv (i+1) ys H5->RF H5)->
   g x (frY own fr σ) H3 fun σ3 H4=>Ext (frY own fr σ) σ3/\tc σ3 H4 fun b H5=>if b=true then te σ3 H5 RT else RF H5
theorem Zfm{J:It}{own:List Str}{fr:List (Str×Nat)}{g:TG}{tc:TT}{te:TE}{σ:L2.St}{H:Hp}{Q:VK}(h:∀D,H D=none->∃n Pv,Zkt n Pv D J own fr g tc te σ H Q):Zhu J own fr g tc te σ H Q:=by
 intro D hD;obtain⟨n,Pv,hn,h0,hlen,st,hgo,hstop,hstep⟩:=h D hD;refine⟨fun i m ys H2=>m=n-i/\i<=n/\H2 D=some (.lst ys)/\Pv i ys H2,⟨n,by simp,Nat.zero_le _,Zb,h0⟩, ?_⟩;rintro i m ys H2 ⟨rfl,hi,d2,p2⟩;refine⟨d2, ?_⟩
 by_cases hlt:i<n
 ·refine .inr ⟨hgo i ys H2 p2 hlt,fun zs H'=>H' D=some (.lst zs)/\Pv (i+1) zs H',fun zs H' ⟨e1,e2⟩=>⟨n-(i+1),by omega,rfl,hlt,e1,e2⟩,fun x H' y=> ?_⟩;have l2:=hlen i ys H2 p2;exact hstep i x ys H2 H' p2 d2 hlt y _ _ (fun v H6 e6 p6=>⟨e6,by omega,Zb,st _ _ _ _ _ e6 (fun b u nb e=>by rw[Zw nb];exact e) p6⟩) fun H5 e5 p5=>⟨e5,p5⟩
 ·have e:i=n:=by omega
  subst e;exact .inl (hstop ys H2 p2 d2)
theorem ZgA{J:It}{own:List Str}{fr:List (Str×Nat)}{g:TG}{tc:TT}{te:TE}{σ:L2.St}{H:Hp}{Q:VK}(n:Nat)(out:Nat->List V)(hn:n<=sizeLine)(ho:∀i,(out i).length<=1)
  (hgo:∀i H2,ZS H H2->i<n->J.go i H2)(hstop:∀H2,ZS H H2->J.stop n H2)
  (hstep:∀i x H2 H3,ZS H H2->i<n->J.yld i H2 x H3->∀(RT:V->Hp->Prop) (RF:Hp->Prop),(∀v H6,out i=[v]->ZS H2 H6->RT v H6)->(∀H5,out i=[]->ZS H2 H5->RF H5)->
   g x (frY own fr σ) H3 fun σ3 H4=>Ext (frY own fr σ) σ3/\tc σ3 H4 fun b H5=>if b=true then te σ3 H5 RT else RF H5)
  (q:∀D H2,H D=none->ZS H H2->H2 D=some (.lst ((List.range n).flatMap out))->Q (.ref D) H2):Zhu J own fr g tc te σ H Q:=by
 have len:∀i,((List.range i).flatMap out).length<=i:=by
  intro i
  induction i with
  |zero=>simp
  |succ i ih=>
   have h1:=ho i;rw[List.range_succ,List.flatMap_append,List.length_append];simp only [List.flatMap_cons,List.flatMap_nil,List.append_nil];omega
 have nxt:∀i,(List.range (i+1)).flatMap out=(List.range i).flatMap out++out i:=fun i=>by
  rw[List.range_succ,List.flatMap_append];simp
 refine Zfm fun D hD=>⟨n,fun i ys H2=>ys=(List.range i).flatMap out/\ZS H H2,hn,⟨rfl,fun b u e=>by rw[Zw (ZK e hD)];exact e⟩,fun i ys H2 p=>by rw[p.1];exact len i,fun i ys zs H2 H3 _ k p=>⟨p.1,fun b u e=>k b u (ZK e hD) (p.2 b u e)⟩,
  fun i ys H2 p lt=>hgo i H2 p.2 lt,fun ys H2 p d=>⟨hstop H2 p.2,q D H2 hD p.2 (by rw[<-p.1];exact d)⟩,fun i x ys H2 H3 p d lt y RT RF rt rf=> ?_⟩
 exact hstep i x H2 H3 p.2 lt y RT RF (fun v H6 e s=>rt v H6 (s _ _ d) ⟨by rw[nxt,e,p.1],p.2.trans s⟩) fun H5 e s=>rf H5 (s _ _ d) ⟨by rw[nxt,e,List.append_nil,p.1],p.2.trans s⟩
section
variable {X:Cx} {pins:List (Addr×Obj)} {σ:L2.St} {H:Hp} {s:Shared}
theorem Zjz{h:Heap}{L:Addr}{m m':Str->Option Value}(a:h.Ns L m)(b:h.Ns L m'):m=m':=by
 obtain⟨o,es,ep,e1,e2,_,e3⟩:=a;obtain⟨o',es',ep',f1,f2,_,f3⟩:=b;rw[e1] at f1
 cases f1;rw[e2] at f2
 cases f2;exact funext fun x=>(e3 x).symm.trans (f3 x)
theorem Zg1{m:Str->Option Value}{g:Heap}{tk:Nat}{more:List (Addr×Obj)}(I:L2.Inv X pins σ H s)(hm:s.heap.Ns X.env.locals m)(F:Fr X.base X.env.locals g m)(N:News X.base X.env.locals g (more++ZcS X.base s.heap X.env.locals)):L2.Inv X pins σ H {s with heap:=g,toks:=tk}:=by
 have kp:∀b o,b≠X.env.locals->s.heap.get? b=some o->g.get? b=some o:=fun b o nb e=>by
  cases hb:X.base.get? b with
  |some o'=>
   have e2:=I.bk b o' hb;rw[e] at e2
   cases e2;exact F.keep b o hb
  |none=>exact(N (b,o) (List.mem_append_right _ (ZcD nb hb e))).1
 have nt:∀b u,H b=some u->b≠X.env.locals:=fun b u e z=>by rw[z,I.free] at e;cases e
 refine I.step (g':=s.gens) (d':=s.drawn) (ch:=[]) (fun _ z=>nomatch z) (fun b o nb _ _ e _=>kp b o nb e) (fun b o nb _ _ e _=>⟨o.slots,kp b o nb e⟩) (fun _ _ _ _ n=>n) (fun b o _ e=> ?_) (fun _ _ e=>e) (fun _ _ _ e=>e) (fun _ ps e=>⟨#[],by rw[e];simp⟩)
  (fun m' hm'=>by rw[Zjz hm' hm];exact F.ns) (fun b u e=>(I.hok b u e).stay (fun c v hc z=>kp c v ?_ z) (fun _ z=>z) fun _ _ z=>z) I.bare
 ·by_cases nb:b=X.env.locals
  ·obtain⟨o',_,_,e',_⟩:=F.ns;exact⟨o',by rw[nb];exact e'⟩
  ·exact⟨o,kp b o nb e⟩
 ·rcases hc with rfl|hc
  ·exact nt _ _ e
  ·exact nt _ _ hc
end
section
variable {X:Cx}
end
end L3
namespace L3
open PySem PySem.Spec PyProof.Rows L2
def EqP(P:Program)(w:World)(A:Around)(s:Shared)(y x:Value)(k:Bool):Prop:=∀(E:Value->Shared->Prop) (Q:Bool->Shared->Prop),Q k s->wpAny (model P w) A (eqBool y x) Q E s
def RcP(P:Program)(w:World)(A:Around)(s:Shared)(op:CmpOp)(y x:Value)(k:Bool):Prop:=∀(E:Value->Shared->Prop) (Q:Value->Shared->Prop),Q (.bool k) s->wpAny (model P w) A (richCompare op y x) Q E s
theorem EqP.refs{P:Program}{w:World}{A:Around}{s:Shared}{l b:Addr}{k:Bool}(n:l≠b)(h:RcP P w A s .Eq (.ref l) (.ref b) k):EqP P w A s (.ref l) (.ref b) k:=by
 intro E Q q;unfold eqBool;refine wpAny_holding (wpAny_ite_split (fun z=>absurd (Value.ref.inj (eq_of_beq z)) n) fun _=>wpAny_bind ?_);exact h E _ (wpAny_truthy_bool q)
abbrev ZgZ(d:Option Addr)(t:Array Value)(n:Nat)(sl:Array (Option Value)):Obj:={cls:=.type "list",dict:=d,data:=.seq t n,slots:=sl}
abbrev ZiI(d:Option Addr)(t:Array Value)(n:Nat)(sl:Array (Option Value)):Obj:={cls:=.type "tuple",dict:=d,data:=.seq t n,slots:=sl}
section
variable {P:Program} {w:World} (l b:Addr) (xs ys:Array Value) (n m:Nat) (d1 d2:Option Addr) (s1 s2:Array (Option Value)) (e:Nat->Bool)
theorem ZhC(hz:xs.size=ys.size)(c:Int)(hc:c=2\/c=3)(k:Nat):∀i:Nat,xs.size-i=k->MeetsIn P w (Builtin.«list.__eq__.loop» ⟨[.ref l,.ref b,rawInt i,rawInt c],[]⟩)
  (fun A R s=>s.heap.get? l=some (ZgZ d1 xs n s1)/\s.heap.get? b=some (ZgZ d2 ys m s2)/\(∀j (h1:j<xs.size) (h2:j<ys.size),EqP P w A.in1 s xs[j] ys[j] (e j))/\
   R (.ok (.ret (.bool (if c=2 then((List.range xs.size).drop i).all e else !((List.range xs.size).drop i).all e)))) s):=by
 induction k with
 |zero=>
  intro i hk A R s h;obtain⟨hq,gs,dr,tk,oss⟩:=s;obtain⟨u1,u2,ue,q⟩:=h;have v1:xs[((i:Nat):Int).toNat]? =none:=by simp;omega
  have v2:ys[((i:Nat):Int).toNat]? =none:=by simp;omega
  have v3:(List.range xs.size).drop i=[]:=by simp;omega
  rw[v3] at q
  rcases hc with rfl|rfl
  ·wp_walk using AutoSeq1.wpAny_loadPart' u1,AutoSeq1.wpAny_loadPart' u2
   rw[v1,v2]
   wp_walk using AutoSeq1.wpAny_loadPart' u1,AutoSeq1.wpAny_loadPart' u2
   show R (.ok (.ret (.bool (xs.size==ys.size)))) _;rw[hz,beq_self_eq_true];exact q
  ·wp_walk using AutoSeq1.wpAny_loadPart' u1,AutoSeq1.wpAny_loadPart' u2
   rw[v1,v2]
   wp_walk using AutoSeq1.wpAny_loadPart' u1,AutoSeq1.wpAny_loadPart' u2
   show R (.ok (.ret (.bool (xs.size !=ys.size)))) _;rw[hz,bne_self_eq_false];exact q
 |succ k ih=>
  intro i hk A R s h;obtain⟨hq,gs,dr,tk,oss⟩:=s;obtain⟨u1,u2,ue,q⟩:=h;have t1:i<xs.size:=by omega
  have t2:i<ys.size:=by omega
  have v1:xs[((i:Nat):Int).toNat]? =some xs[i]:=by simp[t1]
  have v2:ys[((i:Nat):Int).toNat]? =some ys[i]:=by simp[t2]
  have v3:(List.range xs.size).drop i=i::(List.range xs.size).drop (i+1):=by simp[List.drop_eq_getElem_cons,t1]
  have v4:((i:Int)+1)=((i+1:Nat):Int):=by push_cast;rfl
  rw[v3,List.all_cons] at q
  rcases hc with rfl|rfl
  ·wp_walk using AutoSeq1.wpAny_loadPart' u1,AutoSeq1.wpAny_loadPart' u2
   rw[v1,v2];refine wpAny_bind (ue i t1 t2 _ _ ?_);cases ei:e i with
   |true=>
    rw[ei,Bool.true_and] at q
    wp_walk
    rw[v4];refine⟨plainId_quiet MeetsSeq3.plain_eq_loop _,codeAny_builtin MeetsSeq3.entry_eq_loop ?_⟩;rw[Around.under_plainId MeetsSeq3.plain_eq_loop _];exact ih (i+1) (by omega) A R _ ⟨u1,u2,ue,q⟩
   |false=>
    rw[ei,Bool.false_and] at q
    wp_walk using AutoSeq1.wpAny_loadPart' u1,AutoSeq1.wpAny_loadPart' u2
    rw[v1,v2]
    wp_walk
    exact q
  ·wp_walk using AutoSeq1.wpAny_loadPart' u1,AutoSeq1.wpAny_loadPart' u2
   rw[v1,v2];refine wpAny_bind (ue i t1 t2 _ _ ?_);cases ei:e i with
   |true=>
    rw[ei,Bool.true_and] at q
    wp_walk
    rw[v4];refine⟨plainId_quiet MeetsSeq3.plain_eq_loop _,codeAny_builtin MeetsSeq3.entry_eq_loop ?_⟩;rw[Around.under_plainId MeetsSeq3.plain_eq_loop _];exact ih (i+1) (by omega) A R _ ⟨u1,u2,ue,q⟩
   |false=>
    rw[ei,Bool.false_and] at q
    wp_walk using AutoSeq1.wpAny_loadPart' u1,AutoSeq1.wpAny_loadPart' u2
    rw[v1,v2]
    wp_walk
    exact q
theorem ZjA(hz:xs.size=ys.size):MeetsIn P w (Builtin.«list.__eq__» ⟨[.ref l,.ref b],[]⟩) (fun A R s=>s.heap.get? l=some (ZgZ d1 xs n s1)/\s.heap.get? b=some (ZgZ d2 ys m s2)/\
  (∀j (h1:j<xs.size) (h2:j<ys.size),EqP P w A.in1 s xs[j] ys[j] (e j))/\R (.ok (.ret (.bool ((List.range xs.size).all e)))) s):=by
 intro A R s h;obtain⟨hq,gs,dr,tk,oss⟩:=s;obtain⟨u1,u2,ue,q⟩:=h;have sub:=AutoSeq1.sub_list_list;have v0:¬(xs.size !=ys.size)=true:=by simp[hz]
 wp_walk using AutoSeq1.wpAny_loadPart' u1,AutoSeq1.wpAny_loadPart' u2
 refine⟨plainId_quiet MeetsSeq3.plain_eq_loop _,codeAny_builtin MeetsSeq3.entry_eq_loop ?_⟩;rw[Around.under_plainId MeetsSeq3.plain_eq_loop _];exact ZhC l b xs ys n m d1 d2 s1 s2 e hz 2 (.inl rfl) _ 0 rfl A R _ ⟨u1,u2,ue,by simpa using q⟩
theorem ZjB(hz:xs.size=ys.size):MeetsIn P w (Builtin.«list.__ne__» ⟨[.ref l,.ref b],[]⟩) (fun A R s=>s.heap.get? l=some (ZgZ d1 xs n s1)/\s.heap.get? b=some (ZgZ d2 ys m s2)/\
  (∀j (h1:j<xs.size) (h2:j<ys.size),EqP P w A.in1 s xs[j] ys[j] (e j))/\R (.ok (.ret (.bool (!(List.range xs.size).all e)))) s):=by
 intro A R s h;obtain⟨hq,gs,dr,tk,oss⟩:=s;obtain⟨u1,u2,ue,q⟩:=h;have sub:=AutoSeq1.sub_list_list;have v0:¬(xs.size !=ys.size)=true:=by simp[hz]
 wp_walk using AutoSeq1.wpAny_loadPart' u1,AutoSeq1.wpAny_loadPart' u2
 refine⟨plainId_quiet MeetsSeq3.plain_eq_loop _,codeAny_builtin MeetsSeq3.entry_eq_loop ?_⟩;rw[Around.under_plainId MeetsSeq3.plain_eq_loop _];exact ZhC l b xs ys n m d1 d2 s1 s2 e hz 3 (.inr rfl) _ 0 rfl A R _ ⟨u1,u2,ue,by simpa using q⟩
end
end L3
namespace L3
open PySem PySem.Spec PyProof.Rows L2
section
variable {P:Program} {w:World} (l b:Addr) (xs ys:Array Value) (n m:Nat) (d1 d2:Option Addr) (s1 s2:Array (Option Value)) (e:Nat->Bool)
abbrev Js(xs ys:Array Value)(e:Nat->Bool)(i:Nat):Bool:=((List.range (min xs.size ys.size)).drop i).all e&&xs.size==ys.size
theorem Zku:MeetsIn P w (Builtin.«tuple.__eq__» ⟨[.ref l,.ref b],[]⟩) (fun A R s=>s.heap.get? l=some (ZiI d1 xs n s1)/\s.heap.get? b=some (ZiI d2 ys m s2)/\
  (∀j (h1:j<xs.size) (h2:j<ys.size),EqP P w A.in1 s xs[j] ys[j] (e j))/\R (.ok (.ret (.bool (Js xs ys e 0)))) s):=
 .of_wp fun A R s h=>by
  obtain⟨hq,gs,dr,tk,oss⟩:=s;obtain⟨u1,u2,ue,q⟩:=h;have sub:=AutoSeq1.sub_tuple_tuple;have zl:(xs.toList.zip ys.toList).length=min xs.size ys.size:=by simp
  wp_walk using AutoSeq1.wpAny_loadPart' u1,AutoSeq1.wpAny_loadPart' u2,wpAny_forIn_list _ (fun rest a s'=>a.1=none/\s'=⟨hq,gs,dr,tk,oss⟩/\∃i,rest=(xs.toList.zip ys.toList).drop i/\
   R (.ok (.ret (.bool (Js xs ys e i)))) ⟨hq,gs,dr,tk,oss⟩) _
  case turn=>
   rintro⟨y,x⟩ rest a s' ⟨ha,rfl,i,zr,zq⟩;have lt:i<(xs.toList.zip ys.toList).length:=Nat.lt_of_not_le fun z=>by rw[List.drop_of_length_le z] at zr;cases zr
   have lm:i<min xs.size ys.size:=zl▸lt;have l1:i<xs.size:=by omega
   have l2:i<ys.size:=by omega
   rw[List.drop_eq_getElem_cons lt] at zr
   injection zr with zyx zrest
   obtain rfl:y=xs[i]:=by simpa using congrArg Prod.fst zyx
   obtain rfl:x=ys[i]:=by simpa using congrArg Prod.snd zyx
   have zd:(List.range (min xs.size ys.size)).drop i=i::(List.range (min xs.size ys.size)).drop (i+1):=by simp[List.drop_eq_getElem_cons,lm]
   unfold Js at zq
   rw[zd,List.all_cons] at zq
   refine wpAny_bind (ue i l1 l2 _ _ ?_);cases ei:e i with
   |true=>
    rw[ei,Bool.true_and] at zq
    wp_walk
    exact⟨rfl,rfl,i+1,zrest,zq⟩
   |false=>
    rw[ei,Bool.false_and,Bool.false_and] at zq
    wp_walk
    exact⟨_,rfl,zq⟩
  case fin=>
   rintro⟨a1,a2⟩ s' ⟨ha,rfl,i,zr,zq⟩;simp only at ha
   subst ha;have ge:min xs.size ys.size<=i:=Nat.le_of_not_lt fun z=>by rw[List.drop_eq_getElem_cons (zl▸z:i<(xs.toList.zip ys.toList).length)] at zr;cases zr
   unfold Js at zq
   rw[List.drop_of_length_le (by simpa using ge)] at zq
   wp_walk
   exact⟨_,rfl,by simpa [Builtin.Tuple.tupleCompareSizes] using zq⟩
  case h=>exact⟨rfl,rfl,0,rfl,q⟩
theorem Zkv:MeetsIn P w (Builtin.«tuple.__ne__» ⟨[.ref l,.ref b],[]⟩) (fun A R s=>s.heap.get? l=some (ZiI d1 xs n s1)/\s.heap.get? b=some (ZiI d2 ys m s2)/\
  (∀j (h1:j<xs.size) (h2:j<ys.size),EqP P w A.in1 s xs[j] ys[j] (e j))/\R (.ok (.ret (.bool (!Js xs ys e 0)))) s):=
 .of_wp fun A R s h=>by
  obtain⟨hq,gs,dr,tk,oss⟩:=s;obtain⟨u1,u2,ue,q⟩:=h;have sub:=AutoSeq1.sub_tuple_tuple;have zl:(xs.toList.zip ys.toList).length=min xs.size ys.size:=by simp
  wp_walk using AutoSeq1.wpAny_loadPart' u1,AutoSeq1.wpAny_loadPart' u2,wpAny_forIn_list _ (fun rest a s'=>a.1=none/\s'=⟨hq,gs,dr,tk,oss⟩/\∃i,rest=(xs.toList.zip ys.toList).drop i/\
   R (.ok (.ret (.bool (!Js xs ys e i)))) ⟨hq,gs,dr,tk,oss⟩) _
  case turn=>
   rintro⟨y,x⟩ rest a s' ⟨ha,rfl,i,zr,zq⟩;have lt:i<(xs.toList.zip ys.toList).length:=Nat.lt_of_not_le fun z=>by rw[List.drop_of_length_le z] at zr;cases zr
   have lm:i<min xs.size ys.size:=zl▸lt;have l1:i<xs.size:=by omega
   have l2:i<ys.size:=by omega
   rw[List.drop_eq_getElem_cons lt] at zr
   injection zr with zyx zrest
   obtain rfl:y=xs[i]:=by simpa using congrArg Prod.fst zyx
   obtain rfl:x=ys[i]:=by simpa using congrArg Prod.snd zyx
   have zd:(List.range (min xs.size ys.size)).drop i=i::(List.range (min xs.size ys.size)).drop (i+1):=by simp[List.drop_eq_getElem_cons,lm]
   unfold Js at zq
   rw[zd,List.all_cons] at zq
   refine wpAny_bind (ue i l1 l2 _ _ ?_);cases ei:e i with
   |true=>
    rw[ei,Bool.true_and] at zq
    wp_walk
    exact⟨rfl,rfl,i+1,zrest,zq⟩
   |false=>
    rw[ei,Bool.false_and,Bool.false_and] at zq
    wp_walk
    exact⟨_,rfl,zq⟩
  case fin=>
   rintro⟨a1,a2⟩ s' ⟨ha,rfl,i,zr,zq⟩;simp only at ha
   subst ha;have ge:min xs.size ys.size<=i:=Nat.le_of_not_lt fun z=>by rw[List.drop_eq_getElem_cons (zl▸z:i<(xs.toList.zip ys.toList).length)] at zr;cases zr
   unfold Js at zq
   rw[List.drop_of_length_le (by simpa using ge)] at zq
   wp_walk
   exact⟨_,rfl,by simpa [Builtin.Tuple.tupleCompareSizes,bne] using zq⟩
  case h=>exact⟨rfl,rfl,0,rfl,q⟩
end
theorem Zbu{c:Bool}{Q E:Value->Shared->Prop}{s:Shared}(q:Q (.bool c) s):wants (fun v s'=>v≠.notImplemented/\Q v s') E (.ok (.ret (.bool c))) s:=⟨(fun z=>nomatch z),q⟩
section
variable {P:Program} {w:World} {A:Around} {s:Shared} {l b:Addr} {xs ys:Array Value} {e:Nat->Bool}
theorem ZhD(hl:s.heap.IsList l xs)(hb:s.heap.IsList b ys)(hz:xs.size=ys.size)(hu:A.units<cLine)(he:∀j (h1:j<xs.size) (h2:j<ys.size),EqP P w A.in1 s xs[j] ys[j] (e j)):RcP P w A s .Eq (.ref l) (.ref b) ((List.range xs.size).all e)/\RcP P w A s .NotEq (.ref l) (.ref b) (!(List.range xs.size).all e):=by
 obtain⟨⟨c1,d1,t1,s1⟩,o1,k1,n,e1⟩:=id hl;obtain⟨⟨c2,d2,t2,s2⟩,o2,k2,m,e2⟩:=id hb;simp only at k1 e1 k2 e2
 subst k1 e1 k2 e2;exact⟨fun E Q q=>wpAny_richCompare_same_room hl.typeIs hb.typeIs F.slot_list_eq (call_meetsIn F.slot_list_eq hl.typeIs F.entry_list_eq (F.args_list_eq_2 _ _) (ZjA l b xs ys n m d1 d2 s1 s2 e hz) ⟨o1,o2,he,Zbu q⟩) hu,
  fun E Q q=>wpAny_richCompare_same_room hl.typeIs hb.typeIs F.slot_list_ne (call_meetsIn F.slot_list_ne hl.typeIs F.entry_list_ne (F.args_list_ne_2 _ _) (ZjB l b xs ys n m d1 d2 s1 s2 e hz) ⟨o1,o2,he,Zbu q⟩) hu⟩
theorem Zed(hl:s.heap.IsList l xs)(hb:s.heap.IsList b ys)(hz:xs.size≠ys.size)(hu:A.units<cLine):RcP P w A s .Eq (.ref l) (.ref b) false/\RcP P w A s .NotEq (.ref l) (.ref b) true:=
 ⟨fun E Q q=>SeqAt.RcAt.lists_lengths hl hb (by simpa using hz) hu P w E Q q,fun E Q q=>SeqAt.RcNeAt.lists_lengths hl hb (by simpa using hz) hu P w E Q q⟩
theorem Zkw(hl:s.heap.IsTuple l xs)(hb:s.heap.IsTuple b ys)(hu:A.units<cLine)(he:∀j (h1:j<xs.size) (h2:j<ys.size),EqP P w A.in1 s xs[j] ys[j] (e j)):RcP P w A s .Eq (.ref l) (.ref b) (Js xs ys e 0)/\RcP P w A s .NotEq (.ref l) (.ref b) (!Js xs ys e 0):=by
 obtain⟨⟨c1,d1,t1,s1⟩,o1,k1,n,e1⟩:=id hl;obtain⟨⟨c2,d2,t2,s2⟩,o2,k2,m,e2⟩:=id hb;simp only at k1 e1 k2 e2
 subst k1 e1 k2 e2;exact⟨fun E Q q=>wpAny_richCompare_same_room hl.typeIs hb.typeIs F.slot_tuple_eq (call_meetsIn F.slot_tuple_eq hl.typeIs F.entry_tuple_eq (F.args_tuple_eq_2 _ _) (Zku l b xs ys n m d1 d2 s1 s2 e) ⟨o1,o2,he,Zbu q⟩) hu,
  fun E Q q=>wpAny_richCompare_same_room hl.typeIs hb.typeIs F.slot_tuple_ne (call_meetsIn F.slot_tuple_ne hl.typeIs F.entry_tuple_ne (F.args_tuple_ne_2 _ _) (Zkv l b xs ys n m d1 d2 s1 s2 e) ⟨o1,o2,he,Zbu q⟩) hu⟩
def dEq(a b:List (Key×V)):Bool:=a.length==b.length&&a.all fun kv=>match Zdc b kv.1 with|some u=>eqV kv.2 u|none=>false
theorem ZgB{kb:List (Key×V)}{vb:List (Key×Value)}(rb:KV kb vb)(fb:∀kv∈kb,Xc kv.2=true){ka:List (Key×V)}{va:List (Key×Value)}(ra:KV ka va)(fa:∀kv∈ka,Xc kv.2=true):
  PySem.W.KeqHits A s vb va (ka.all fun kv=>match Zdc kb kv.1 with|some u=>eqV kv.2 u|none=>false):=by
 induction ra with
 |nil=>exact .nil
 | @cons p q ps qs h t ih=>
  obtain⟨k,v⟩:=p;obtain⟨k',u⟩:=q;obtain⟨e1,e2⟩:=h;have e1:k=k':=e1;subst e1;have e2:Yr v u:=e2;have fr:=ih fun kv hm=>fa kv (List.mem_cons_of_mem _ hm);have fv:Xc v=true:=fa (k,v) (List.mem_cons_self ..);have rv:=KV.val rb k;rw[List.all_cons];cases hv:Zdc kb k with
  |none=>
   rw[hv] at rv
   exact .miss (ZcK.none_of rv)
  |some y=>
   rw[hv] at rv
   cases hw:valueAt vb k with
   |none=>rw[hw] at rv;exact rv.elim
   |some u'=>
    rw[hw] at rv
    have fy:Xc y=true:=by
     unfold Zdc at hv
     cases hf:kb.find? (fun kv=>decide (kv.1=k)) with
     |none=>rw[hf] at hv;exact nomatch hv
     |some p=>rw[hf] at hv;cases hv;exact fb p (List.mem_of_find?_eq_some hf)
    exact .hit hw (ZfO e2 rv fv fy) fr
theorem ZjC{ka kb:List (Key×V)}{va vb:List (Key×Value)}(ha:(l==sysModules)=false)(hb:(b==sysModules)=false)(da:s.heap.DictOf (ZbT P w) l va)(db:s.heap.DictOf (ZbT P w) b vb)(ra:KV ka va)(rb:KV kb vb)
  (fa:∀kv∈ka,Xc kv.2=true)(fb:∀kv∈kb,Xc kv.2=true)(hu:A.units<cLine):RcP P w A s .Eq (.ref l) (.ref b) (dEq ka kb)/\RcP P w A s .NotEq (.ref l) (.ref b) (!dEq ka kb):=by
 have e1:ka.length=va.length:=Paired.length ra;have e2:kb.length=vb.length:=Paired.length rb;unfold dEq;rw[e1,e2];exact⟨fun E Q q=>PySem.W.keq_eq ha hb da db hu (fun _=>ZgB rb fb ra fa) q,fun E Q q=>PySem.W.keq_ne ha hb da db hu (fun _=>ZgB rb fb ra fa) q⟩
end
end L3
namespace L3
open PySem PySem.Spec PyProof.Rows L2
inductive Dt where
 |v (x:V)|lst (ds:List Dt)|tup (ds:List Dt)|dct (kvs:List (Key×V))
inductive Rep (K:PySem.W.Frag) (H:Hp):Dt->V->Prop where
 |flat {x:V} (f:Xc x=true):Rep K H (.v x) x
 |lst {a:Addr} {ds:List Dt} {xs:List V} (h:SqL K H a xs) (r:Paired (Rep K H) ds xs):Rep K H (.lst ds) (.ref a)
 |tup {a:Addr} {ds:List Dt} {xs:List V} (h:SqT K H a xs) (r:Paired (Rep K H) ds xs):Rep K H (.tup ds) (.ref a)
 |dct {a:Addr} {kvs:List (Key×V)} (h:Rd H a (.dK kvs)) (f:∀kv∈kvs,Xc kv.2=true):Rep K H (.dct kvs) (.ref a)
abbrev ZhE(K:PySem.W.Frag)(H:Hp)(ds:List Dt)(xs:List V):Prop:=Paired (Rep K H) ds xs
def Xe:Nat->Dt->Dt->Bool
 |_,.v x,.v y=>eqV x y
 |n+1,.lst a,.lst b=>a.length==b.length&&(a.zip b).all fun p=>Xe n p.1 p.2
 |n+1,.tup a,.tup b=>(a.zip b).all (fun p=>Xe n p.1 p.2)&&a.length==b.length
 |_+1,.dct a,.dct b=>dEq a b
 |_,_,_=>false
def JB:Nat->Dt->Dt->Bool
 |_,.v _,.v _=>true
 |n+1,.lst a,.lst b=>(a.zip b).all fun p=>JB n p.1 p.2
 |n+1,.tup a,.tup b=>(a.zip b).all fun p=>JB n p.1 p.2
 |_+1,.dct _,.dct _=>true
 |_,_,_=>false
theorem Zb3{x:V}(f:Xc x=true):eqV x x=true:=by
 cases x with
 |non=>rfl
 |bl b=>exact beq_self_eq_true b
 |int i=>exact beq_self_eq_true i
 |str z=>exact beq_self_eq_true z
 |_=>exact absurd (show false=true from f) Bool.false_ne_true
theorem ZhF{kvs:List (Key×V)}(nd:(kvs.map (·.1)).Nodup)(f:∀kv∈kvs,Xc kv.2=true):dEq kvs kvs=true:=by
 unfold dEq;rw[beq_self_eq_true,Bool.true_and,List.all_eq_true];intro kv hm;have e:Zdc kvs kv.1=some kv.2:=by
  clear f
  induction kvs with
  |nil=>cases hm
  |cons p r ih=>
   rw[List.map_cons,List.nodup_cons] at nd
   rcases List.mem_cons.mp hm with rfl|more
   ·exact Zfg rfl
   ·rw[Zfh (fun z=>nd.1 (by rw[z];exact List.mem_map.mpr ⟨kv,more,rfl⟩))]
    exact ih nd.2 more
 rw[e];exact Zb3 (f kv hm)
theorem ZjD{H:Hp}{a:Addr}{k1 k2:List (Key×V)}(h1:Rd H a (.dK k1))(h2:Rd H a (.dK k2)):k1=k2:=by
 rcases h1 with h1|⟨o1,h1⟩<;>rcases h2 with h2|⟨o2,h2⟩<;>(rw[h1] at h2;cases h2;try rfl)
section
variable {X:Cx} {pins:List (Addr×Obj)} {σ:L2.St} {H:Hp} {s:Shared}
theorem ZhG{a:Addr}{kvs:List (Key×V)}(I:L2.Inv X pins σ H s)(h:Rd H a (.dK kvs)):(kvs.map (·.1)).Nodup:=by
 obtain⟨_,_,vs,rel,dd⟩:=Zhs I.hok h;rw[KV.keys rel];obtain⟨ep,hat⟩:=dd.dictAt;exact hat.nodup
theorem ZhH(I:L2.Inv X pins σ H s):∀(n:Nat) (d e:Dt) (x:V),Rep X.K H d x->Rep X.K H e x->JB n d e=true->Xe n d e=true:=by
 have ZdO:∀n,(∀(d e:Dt) (x:V),Rep X.K H d x->Rep X.K H e x->JB n d e=true->Xe n d e=true)->∀{ds es:List Dt} {xs:List V},ZhE X.K H ds xs->ZhE X.K H es xs->((ds.zip es).all fun p=>JB n p.1 p.2)=true->
   ds.length=es.length/\((ds.zip es).all fun p=>Xe n p.1 p.2)=true:=by
  intro n ih ds es xs r1
  induction r1 generalizing es with
  |nil=>intro r2 _;cases r2;exact⟨rfl,rfl⟩
  |cons h1 t1 ih2=>
   intro r2 lk;cases r2 with
   |cons h2 t2=>
    rw[List.zip_cons_cons,List.all_cons,Bool.and_eq_true] at lk
    obtain⟨z1,z2⟩:=ih2 t2 lk.2;refine⟨by simp[z1], ?_⟩;rw[List.zip_cons_cons,List.all_cons,Bool.and_eq_true];exact⟨ih _ _ _ h1 h2 lk.1,z2⟩
 intro n
 induction n with
 |zero=>
  intro d e x h1 h2 lk;cases h1 with
  |flat f=>
   cases h2 with
   |flat f2=>exact Zb3 f
   |_=>cases f
  |_=>cases h2<;>cases lk
 |succ n ih=>
  intro d e x h1 h2 lk;cases h1 with
  |flat f=>
   cases h2 with
   |flat f2=>exact Zb3 f
   |_=>cases f
  |lst q1 r1=>
   cases h2 with
   |lst q2 r2=>
    cases I.list_inj q1 q2;obtain⟨z1,z2⟩:=ZdO n ih r1 r2 lk;show(_==_&&_)=true;rw[z1,beq_self_eq_true,Bool.true_and];exact z2
   |_=>cases lk
  |tup q1 r1=>
   cases h2 with
   |tup q2 r2=>
    cases I.tuple_inj q1 q2;obtain⟨z1,z2⟩:=ZdO n ih r1 r2 lk;show(_&&_==_)=true;rw[z1,beq_self_eq_true,Bool.and_true];exact z2
   |_=>cases lk
  |dct q1 f1=>
   cases h2 with
   |dct q2 f2=>
    cases ZjD q1 q2;exact ZhF (ZhG I q1) f1
   |_=>cases lk
theorem ZcW{n:Nat}{f:Nat->Dt->Dt->Bool}:∀(ds es:List Dt),((ds.zip es).all fun p=>f n p.1 p.2)=(List.range (min ds.length es.length)).all fun j=>f n (ds.getD j (.v .non)) (es.getD j (.v .non))
 |[],es=>by simp
 |_::_,[]=>by simp
 |d::ds,e::es=>by
  rw[List.zip_cons_cons,List.all_cons,ZcW ds es,List.length_cons,List.length_cons,Nat.succ_min_succ,List.range_succ_eq_map,List.all_cons,List.all_map]
  rfl
theorem ZeB{K:PySem.W.Frag}:∀{ds:List Dt} {xs:List V} {us:List Value} (_:ZhE K H ds xs) (_:ZZ xs us) (j:Nat) (h:j<us.length),∃x,Rep K H (ds.getD j (.v .non)) x/\Yr x us[j]
 |_,_,_,.nil,.nil,j,h=>absurd h (Nat.not_lt_zero _)
 |_,_,_,.cons r _,.cons v _,0,_=>⟨_,r,v⟩
 |_,_,_,.cons _ t,.cons _ vt,j+1,h=>by
  obtain⟨x,a,b⟩:=ZeB t vt j (by simpa using h);exact⟨x,a,b⟩
theorem ZgC(I:L2.Inv X pins σ H s):∀(n:Nat) (d e:Dt) (x y:V) (u v:Value) (A:Around),Rep X.K H d x->Rep X.K H e y->Yr x u->Yr y v->JB n d e=true->A.units+n<cLine->
  EqP X.prog X.w A s u v (Xe n d e)/\(Xc x=false->RcP X.prog X.w A s .Eq u v (Xe n d e)/\RcP X.prog X.w A s .NotEq u v (!Xe n d e)):=by
 have flatEq:∀{x y:V} {u v:Value} {A:Around},Xc x=true->Xc y=true->Yr x u->Yr y v->EqP X.prog X.w A s u v (eqV x y):=fun fx fy rx ry E Q q=>ZfO rx ry fx fy X.prog X.w E Q q;have refl:∀{n:Nat} {d e:Dt} {a b:Addr} {A:Around},Rep X.K H d (.ref a)->Rep X.K H e (.ref b)->JB n d e=true->(RcP X.prog X.w A s .Eq (.ref a) (.ref b) (Xe n d e)/\RcP X.prog X.w A s .NotEq (.ref a) (.ref b) (!Xe n d e))->
   EqP X.prog X.w A s (.ref a) (.ref b) (Xe n d e)/\(Xc (.ref a)=false->RcP X.prog X.w A s .Eq (.ref a) (.ref b) (Xe n d e)/\RcP X.prog X.w A s .NotEq (.ref a) (.ref b) (!Xe n d e)):=fun{n d e a b A} h1 h2 lk rc=>by
  refine⟨?_,fun _=>rc⟩
  by_cases hab:a=b
  ·subst hab;rw[ZhH I n d e _ h1 h2 lk];exact fun E Q q=>SeqAt.EqAt.same _ X.prog X.w E Q q
  ·exact EqP.refs hab rc.1
 have item:∀n,(∀(d e:Dt) (x y:V) (u v:Value) (A:Around),Rep X.K H d x->Rep X.K H e y->Yr x u->Yr y v->JB n d e=true->A.units+n<cLine->
   EqP X.prog X.w A s u v (Xe n d e)/\(Xc x=false->RcP X.prog X.w A s .Eq u v (Xe n d e)/\RcP X.prog X.w A s .NotEq u v (!Xe n d e)))->∀{A:Around} {ds es:List Dt} {xs ys:List V} {us vs:List Value},ZhE X.K H ds xs->ZhE X.K H es ys->ZZ xs us->ZZ ys vs->
   ((ds.zip es).all fun p=>JB n p.1 p.2)=true->A.units+(n+1)<cLine->∀j (h1:j<us.toArray.size) (h2:j<vs.toArray.size),EqP X.prog X.w A.in1 s us.toArray[j] vs.toArray[j] (Xe n (ds.getD j (.v .non)) (es.getD j (.v .non))):=by
  intro n ih A ds es xs ys us vs r1 r2 v1 v2 lk hu j h1 h2;have l1:j<us.length:=by simpa using h1
  have l2:j<vs.length:=by simpa using h2
  obtain⟨x,a1,b1⟩:=ZeB r1 v1 j l1;obtain⟨y,a2,b2⟩:=ZeB r2 v2 j l2;have e1:=Paired.length r1;have e2:=Paired.length r2;have e3:=v1.length;have e4:=v2.length;rw[ZcW (f:=JB),List.all_eq_true] at lk
  have lkj:=lk j (List.mem_range.mpr (by omega));have:=(ih _ _ x y us[j] vs[j] A.in1 a1 a2 b1 b2 lkj (by show A.units+1+n<cLine;omega)).1
  simpa using this
 intro n
 induction n with
 |zero=>
  intro d e x y u v A h1 h2 rx ry lk hu;cases h1 with
  |flat f=>
   cases h2 with
   |flat f2=>exact⟨flatEq f f2 rx ry,fun z=>by rw[f] at z;cases z⟩
   |_=>cases lk
  |_=>cases h2<;>cases lk
 |succ n ih=>
  intro d e x y u v A h1 h2 rx ry lk hu;have hu0:A.units<cLine:=by omega
  cases h1 with
  |flat f=>
   cases h2 with
   |flat f2=>exact⟨flatEq f f2 rx ry,fun z=>by rw[f] at z;cases z⟩
   |_=>cases lk
  | @lst a ds xs q1 r1=>
   cases h2 with
   | @lst b es ys q2 r2=>
    cases rx;cases ry;refine refl (.lst q1 r1) (.lst q2 r2) lk ?_;obtain⟨us,v1,p1,_⟩:=I.list q1;obtain⟨vs,v2,p2,_⟩:=I.list q2;have e1:=Paired.length r1;have e2:=Paired.length r2;have e3:=v1.length;have e4:=v2.length
    by_cases hz:us.length=vs.length
    ·have rc:=ZhD (P:=X.prog) (w:=X.w) (A:=A) (e:=fun j=>Xe n (ds.getD j (.v .non)) (es.getD j (.v .non))) p1.isList p2.isList (by simpa using hz) hu0 (item n ih r1 r2 v1 v2 lk hu);have ee:Xe (n+1) (.lst ds) (.lst es)=(List.range us.toArray.size).all fun j=>Xe n (ds.getD j (.v .non)) (es.getD j (.v .non)):=by
      show(ds.length==es.length&&((ds.zip es).all fun p=>Xe n p.1 p.2))=_;have el:ds.length=es.length:=by omega
      have eu:us.toArray.size=es.length:=by rw[List.size_toArray];omega
      rw[ZcW (f:=Xe),el,beq_self_eq_true,Bool.true_and,Nat.min_self,eu]
     rw[ee];exact rc
    ·have ee:Xe (n+1) (.lst ds) (.lst es)=false:=by
      show(ds.length==es.length&&((ds.zip es).all fun p=>Xe n p.1 p.2))=false;have el:(ds.length==es.length)=false:=beq_eq_false_iff_ne.mpr (by omega);rw[el,Bool.false_and]
     rw[ee];exact Zed p1.isList p2.isList (by simpa using hz) hu0
   |_=>cases lk
  | @tup a ds xs q1 r1=>
   cases h2 with
   | @tup b es ys q2 r2=>
    cases rx;cases ry;refine refl (.tup q1 r1) (.tup q2 r2) lk ?_;obtain⟨us,v1,p1,_⟩:=I.tuple q1;obtain⟨vs,v2,p2,_⟩:=I.tuple q2;have e1:=Paired.length r1;have e2:=Paired.length r2;have e3:=v1.length;have e4:=v2.length;have rc:=Zkw (P:=X.prog) (w:=X.w) (A:=A) (e:=fun j=>Xe n (ds.getD j (.v .non)) (es.getD j (.v .non))) (show s.heap.IsTuple a us.toArray from p1) (show s.heap.IsTuple b vs.toArray from p2) hu0 (item n ih r1 r2 v1 v2 lk hu)
    have ee:Xe (n+1) (.tup ds) (.tup es)=Js us.toArray vs.toArray (fun j=>Xe n (ds.getD j (.v .non)) (es.getD j (.v .non))) 0:=by
     show(((ds.zip es).all fun p=>Xe n p.1 p.2)&&ds.length==es.length)=_;unfold Js;rw[ZcW (f:=Xe),List.drop_zero,List.size_toArray,List.size_toArray,show us.length=ds.length by omega,show vs.length=es.length by omega]
    rw[ee];exact rc
   |_=>cases lk
  | @dct a ka q1 f1=>
   cases h2 with
   | @dct b kb q2 f2=>
    cases rx;cases ry;refine refl (.dct q1 f1) (.dct q2 f2) lk ?_;obtain⟨_,z1,va,r1,dd1⟩:=Zhs I.hok q1;obtain⟨_,z2,vb,r2,dd2⟩:=Zhs I.hok q2;exact ZjC z1 z2 dd1 dd2 r1 r2 f1 f2 hu0
   |_=>cases lk
end
section
variable {X:Cx}
def Zkx(K:PySem.W.Frag)(neg:Bool):R2:=fun x y H Q=>∃n d e,n<=30/\Xc x=false/\Rep K H d x/\Rep K H e y/\JB n d e=true/\Q (.bl (if neg then !Xe n d e else Xe n d e)) H
theorem ZjE(hu:X.A.units+30<cLine):OpR X (compareOp .Eq) (Zkx X.K false):=by
 intro pins s σ H x y v u Q I rx ry h;obtain⟨n,d,e,hn,fx,r1,r2,lk,q⟩:=h;exact((ZgC I n d e x y v u X.A r1 r2 rx ry lk (by omega)).2 fx).1 _ _ ⟨.bl _,H,I,rfl,q⟩
theorem ZjF(hu:X.A.units+30<cLine):OpR X (compareOp .NotEq) (Zkx X.K true):=by
 intro pins s σ H x y v u Q I rx ry h;obtain⟨n,d,e,hn,fx,r1,r2,lk,q⟩:=h;exact((ZgC I n d e x y v u X.A r1 r2 rx ry lk (by omega)).2 fx).2 _ _ ⟨.bl _,H,I,rfl,q⟩
theorem ZjG{A:Around}{k:Nat}(hr:Xl k A):A.units+30<cLine:=Nat.lt_of_le_of_lt (Nat.add_le_add_left (by decide:30<=64) _) hr.units
end
end L3
namespace M3
open PySem PySem.Spec PyProof.Rows L2 L3
theorem ZhI(ps:List Str):M1.cs (Txt.join Str.empty ps)=(ps.map M1.cs).flatten:=by
 have e:Txt.join Str.empty ps=Str.join Str.empty ps:=StrLaws.glued_eq_join _ _;rw[e];clear e
 induction ps with
 |nil=>rfl
 |cons p r ih=>
  cases r with
  |nil=>show M1.cs p=_;simp
  |cons q r=>
   show M1.cs (p++Str.empty++Str.join Str.empty (q::r))=_;rw[M1.Yu,M1.Yu,ih];simp[show M1.cs Str.empty=[] from rfl]
end M3
namespace M3
open PySem L2 L3
end M3
namespace L3
open PySem PySem.Spec PyProof.Rows L2
end L3
namespace L3
open PySem PySem.Spec PyProof.Rows L2
structure Zg2 (P:Program) (w:World) (K:PySem.W.Frag) (mg:Str->Option Value) (base:Heap) (CX:CXT) (k:Nat) (x:Str) (C:Addr) (ps:List Str) (sp:Sp):Prop where
 ex:∃(f:Addr) (fd:FuncData),mg x=some (.ref C)/\Mk K C f/\Zb0 K fd ps []/\Yx P w K mg base CX k f fd ps sp
structure ZjH (K:PySem.W.Frag) (mg:Str->Option Value) (x:Str) (C:Addr):Prop where
 at_:mg x=some (.ref C)
 makes:PySem.W.makesIn K C=true
 init:PySem.W.findIn K (.ref C) "__init__"=some (some (.builtin "object.__init__"))
 kp:PySem.W.keepIn K (.ref C)=true
structure ZhJ (P:Program) (w:World) (K:PySem.W.Frag) (mg:Str->Option Value) (base:Heap) (CX:CXT) (k:Nat) (m:Str) (ps:List Str) (sp:Addr->Sp) (Fam:Addr->Prop):Prop where
 ex:∀C,Fam C->Cls K C/\∃(f:Addr) (fd:FuncData),Zke K C m f/\Zb0 K fd ps []/\Yx P w K mg base CX k f fd ps (sp C)
theorem ZhK{P:Program}{w:World}{H:Hp}{h:Heap}{a:Addr}{o:HO}(x:Xn P w H h a o):∃ob,h.get? a=some ob:=by
 cases o with
 |lst xs=>obtain⟨_,_,_,_,e⟩:=x;exact⟨_,e⟩
 |tup xs=>obtain⟨_,_,_,ob,e,_⟩:=x;exact⟨ob,e⟩
 |dK kvs=>obtain⟨_,_,_,_,o,_,_,e,_⟩:=x;exact⟨o,e⟩
 |dT kvs=>obtain⟨_,_,_,_,o,_,_,e,_⟩:=x;exact⟨o,e⟩
 |set S n=>obtain⟨o,_,_,_,e,_⟩:=x;exact⟨o,e⟩
 |ins C dx fs=>obtain⟨_,_,_,e,_⟩:=x;exact⟨_,e⟩
 |own y=>exact x
 |xd fs=>obtain⟨_,⟨o,_,_,e,_⟩,_⟩:=x;exact⟨o,e⟩
 |rng lo hi=>obtain⟨_,_,_,e⟩:=x;exact⟨_,e⟩
 |frz ob u=>exact⟨ob,x.1⟩
 |tbl ps=>exact⟨_,x⟩
 |met f y=>exact⟨_,x⟩
 |ext φ=>exact x.2.1
section
variable {X:Cx} {pins:List (Addr×Obj)} {σ:L2.St} {H:Hp} {s:Shared} {n:Addr} {q:HO}
theorem Zdi{σ₁:L2.St}{H₁:Hp}{s':Shared}(I0:L2.Inv X pins σ₁ H₁ s)(I:L2.Inv X pins σ H s')(f0:H n=none)(hn:s.heap.get? n=none)(ok:Xn X.prog X.w (upd H n q) s'.heap n q):L2.Inv X pins σ (upd H n q) s':=by
 have ns:∀b u,H b=some u->b≠n:=fun b u e z=>by subst z;rw[f0] at e;cases e
 have nh:∀b o,s.heap.get? b=some o->b≠n:=fun b o e z=>by subst z;rw[hn] at e;cases e
 have nL:X.env.locals≠n:=by
  obtain⟨m,⟨o,_,_,e,_⟩,_⟩:=I0.loc;exact nh _ o e
 refine⟨I.ok,I.os,I.bare,⟨I.base.keep,I.base.slot,fun b o e m hx=> ?_,I.base.there,fun b xs e=> ?_,fun b o u e=> ?_,fun b ps e=> ?_⟩,I.loc,I.cell, ?_,fun x c e=> ?_,fun z hz=> ?_,fun b u e=> ?_,I.len⟩
 ·refine(Zw ?_).trans (I.base.free b o e m hx);obtain⟨o',z⟩:=I0.base.there b o e hx;exact nh b o' z
 ·rw[Zw (ns b _ (I.base.tups b xs e))];exact I.base.tups b xs e
 ·rw[Zw (ns b _ (I.base.frzs b o u e))];exact I.base.frzs b o u e
 ·obtain⟨m,e2⟩:=I.base.tbls b ps e;exact⟨m,by rw[Zw (ns b _ e2)];exact e2⟩
 ·rw[Zw nL];exact I.free
 ·obtain⟨v,o,z,_⟩:=I0.cell x c e;rw[Zw (nh c o z)];exact I.freeC x c e
 ·obtain⟨z1,z2,z3⟩:=I.pin z hz;exact⟨z1,by rw[Zw (nh z.1 z.2 (I0.pin z hz).1)];exact z2,z3⟩
 ·by_cases hb:b=n
  ·subst hb;rw[Zb] at e
   cases e;exact ok
  ·rw[Zw hb] at e
   exact(I.hok b u e).stay (fun _ _ _ z=>z) (fun c z=>by rw[Zw (ns c _ z)];exact z) fun c xs z=>by rw[Zw (ns c _ z)];exact z
theorem Zg3{s':Shared}(I0:L2.Inv X pins σ H s)(I:L2.Inv X pins σ H s')(hn:s.heap.get? n=none)(ok:Xn X.prog X.w (upd H n q) s'.heap n q):L2.Inv X pins σ (upd H n q) s':=by
 refine Zdi I0 I ?_ hn ok;cases e:H n with
 |none=>rfl
 |some u=>
  obtain⟨ob,z⟩:=ZhK (I0.hok n u e);rw[hn] at z
  cases z
end
section
variable {X:Cx} {CX:CXT} {k:Nat} {x m:Str} {C:Addr} {ps:List Str} {sp:Sp} {sf:Addr->Sp} {Fam:Addr->Prop} {E:XK} {e o:PySem.Expr} {es:List PySem.Expr} {ta:TE} {t:TA} {p pos apos:Pos}
theorem Zg4(c:Zg2 X.prog X.w X.K X.mg X.base CX k x C ps sp)(hr:Xl (k+1) X.A)(hg:Gl X x)(hx:JK CX X E)(ha:PA X (e::es) t)(hdb:(x==("__debug__":Str))=false:=by decide)
  (he:starEach (e::es) X.env=(false,eval e X.env)::starEach es X.env:=by rfl)(hpl:(backTo pos (starEach es X.env)).any (·.1)=false:=by rfl):PE X (.Call (.Name x p) (e::es) [] pos) (Zjb C sp [] E t):=by
 obtain⟨f,fd,hm,M,hb,F⟩:=c.ex;exact Zix M F hr hg hm hb .nil hx ha hdb he hpl
def Zky(C:Addr):TE:=fun _ H Q=>∀x dx,H x=none->H dx=none->dx≠x->Q (.ref x) (upd (upd H dx (.own x)) x (.ins C dx []))
theorem ZiJ(c:ZjH X.K X.mg x C)(hg:Gl X x)(hdb:(x==("__debug__":Str))=false:=by decide):PE X (.Call (.Name x p) [] [] pos) (Zky C):=by
 intro pins s σ H Q I h;refine wpAny_Call_Name_kw (XC I hg c.at_ ?_ hdb);obtain⟨mm,F⟩:=I.fr;refine PySem.W.callWith_K0 I.kIn c.kp (PySem.W.call_cls0 F I.ok.mod.kin Zhg c.makes c.init fun y dy g F' N' hl hlt=> ?_);have I1:L2.Inv X pins σ H {s with heap:=g,toks:=s.toks}:=Zg1 (more:=[(y,PySem.W.instObj C dy),(dy,PySem.W.dictOf [] 0)]) I F.ns F' N';have gy:=N' (y,PySem.W.instObj C dy) (List.mem_cons_self ..)
 have gd:=N' (dy,PySem.W.dictOf [] 0) (List.mem_cons_of_mem _ (List.mem_cons_self ..));have fresh:∀z:Addr,dy<=z->z≠X.env.locals->X.base.get? z=none->s.heap.get? z=none:=fun z hz nl nb=>by
  cases e:s.heap.get? z with
  |none=>rfl
  |some ob=>exact absurd (hl (z,ob) (ZcD nl nb e)) (Nat.not_lt.mpr hz)
 have fd:=fresh dy (Nat.le_refl _) gd.2.1 gd.2.2;have fy:=fresh y (Nat.le_of_lt hlt) gy.2.1 gy.2.2;have I2:=Zg3 (q:=.own y) I I1 fd ⟨_,gd.1⟩;have nH:∀z,s.heap.get? z=none->H z=none:=fun z e=>by
  cases q:H z with
  |none=>rfl
  |some u=>obtain⟨ob,w⟩:=ZhK (I.hok z u q);rw[e] at w;cases w
 have ne:dy≠y:=Nat.ne_of_lt hlt;have I3:L2.Inv X pins σ (upd (upd H dy (.own y)) y (.ins C dy [])) {s with heap:=g,toks:=s.toks}:=by
  have e3:g.Ns dy (fun _=>none):=⟨_, #[],_,gd.1,rfl,(fun e he=>absurd he (by simp)),fun _=>rfl⟩
  have f0:upd H dy (.own y) y=none:=(Zw (Ne.symm ne)).trans (nH y fy);have ok:Xn X.prog X.w (upd (upd H dy (.own y)) y (.ins C dy [])) g y (.ins C dy []):=⟨by rw[Zw ne,Zb],Nat.zero_le _,ne,gy.1,fun _=>none,Heap.Ns1.of_empty e3,fun _=>True.intro,fun z hz=>absurd rfl hz⟩
  have ns:∀b u,upd H dy (.own y) b=some u->b≠y:=fun b u e z=>by subst z;rw[f0] at e;cases e
  have nh:∀b o,s.heap.get? b=some o->b≠y:=fun b o e z=>by subst z;rw[fy] at e;cases e
  refine⟨I2.ok,I2.os,I2.bare,⟨I2.base.keep,I2.base.slot,fun b o e m hx=> ?_,I2.base.there,fun b xs e=> ?_,fun b o u e=> ?_,fun b ps e=> ?_⟩,I2.loc,I2.cell, ?_,fun x c e=> ?_,fun z hz=> ?_,fun b u e=> ?_,I2.len⟩
  ·refine(Zw ?_).trans (I2.base.free b o e m hx);obtain⟨o',z⟩:=I.base.there b o e hx;exact nh b o' z
  ·rw[Zw (ns b _ (I2.base.tups b xs e))];exact I2.base.tups b xs e
  ·rw[Zw (ns b _ (I2.base.frzs b o u e))];exact I2.base.frzs b o u e
  ·obtain⟨m,e2⟩:=I2.base.tbls b ps e;exact⟨m,by rw[Zw (ns b _ e2)];exact e2⟩
  ·rw[Zw (Ne.symm gy.2.1)];exact I2.free
  ·obtain⟨v,o,z,_⟩:=I.cell x c e;rw[Zw (nh c o z)];exact I2.freeC x c e
  ·obtain⟨z1,z2,z3⟩:=I2.pin z hz;exact⟨z1,by rw[Zw (nh z.1 z.2 (I.pin z hz).1)];exact z2,z3⟩
  ·by_cases hb:b=y
   ·subst hb;rw[Zb] at e
    cases e;exact ok
   ·rw[Zw hb] at e
    exact(I2.hok b u e).stay (fun _ _ _ z=>z) (fun c z=>by rw[Zw (ns c _ z)];exact z) fun c xs z=>by rw[Zw (ns c _ z)];exact z
 exact⟨.ref y,_,I3,rfl,h y dy (nH y fy) (nH dy fd) ne⟩
def ZjI(Fam:Addr->Prop)(m:Str)(sf:Addr->Sp)(E:XK)(ta:TE)(t:TA):TE:=fun σ H Q=>ta σ H fun x H1=>∃a C dx fs,x=.ref a/\H1 a=some (.ins C dx fs)/\Fam C/\fs.lookup m=none/\t σ H1 fun vs H2=>sf C (x::vs) H2 Q E
theorem Zc4{pl:Sem Bool}(he:PE X o ta)(d:ZhJ X.prog X.w X.K X.mg X.base CX k m ps sf Fam)(hr:Xl k X.A)(hx:JK CX X E)
  (ht:eval (.Call (.Attribute o m apos) [] [] pos) X.env=(do
   let ov<-eval o X.env
   standAt apos.atName
   let (f,first)<-holding [ov] (getMethod ov m pl)
   callWith pos f first (backTo pos (starEach [] X.env)) (backToKw pos (keywordEach [] X.env))):=by rfl):PE X (.Call (.Attribute o m apos) [] [] pos) (ZjI Fam m sf E ta ZgV):=by
 intro pins s σ H Q I h;refine PySem.W.methodCall_KW (pl:=pl) (thn (he pins s σ H _ I h) fun u s1 ⟨x,H1,I1,rx,a,C,dx,fs,ex,ea,fam,l,q⟩=> ?_) ht;subst ex;obtain rfl:u=Value.ref a:=rx;obtain⟨c,f,fd,hm,hb,F⟩:=d.ex C fam;refine ZfI I1 ea c hm l ?_;exact PySem.W.callWith_K0 (first:=[.ref a]) I1.kIn hm.kp (ZfN (us:=[.ref a]) (vs:=[.ref a]) F hr hb .nil hx I1 (.cons rfl .nil) q)
def ZjJ(K:PySem.W.Frag):R2:=fun x y H Q=>∃a b xs,x=.ref a/\y=.ref b/\SqL K H a xs/\SqL K H b []/\Q (.bl (decide (xs=[]))) H
theorem ZhL(hu:X.A.units+30<cLine):OpR X (compareOp .Eq) (ZjJ X.K):=by
 intro pins s σ H x y v u Q I rx ry h;obtain⟨a,b,xs,rfl,rfl,h1,h2,q⟩:=h;cases rx;cases ry;obtain⟨us,v1,p1,_⟩:=I.list h1;obtain⟨vs,v2,p2,_⟩:=I.list h2;have e1:=v1.length;have e2:=v2.length;have hu0:X.A.units<cLine:=by omega
 cases xs with
 |nil=>
  have el:us.toArray.size=vs.toArray.size:=by rw[List.size_toArray,List.size_toArray,<-e1,<-e2]
  have z:us.toArray.size=0:=by rw[List.size_toArray,<-e1];rfl
  refine(ZhD (P:=X.prog) (w:=X.w) (e:=fun _=>true) p1.isList p2.isList el hu0 fun j h1 _=>absurd h1 (by omega)).1 _ _ ⟨.bl _,H,I, ?_,q⟩;rw[z]
  rfl
 |cons y r=>exact(Zed (P:=X.prog) (w:=X.w) p1.isList p2.isList (by rw[List.size_toArray,List.size_toArray,<-e1,<-e2];exact Nat.succ_ne_zero _) hu0).1 _ _ ⟨.bl _,H,I,rfl,q⟩
end
end L3
namespace L3
open PySem PySem.Spec PyProof.Rows L2
theorem Zbv{P:Program}{w:World}{K:PySem.W.Frag}{mg:Str->Option Value}{base:Heap}{CX:CXT}{k:Nat}{f:Addr}{fd:FuncData}{ps:List Str}{sp:Sp}(h:∀vs H Q E,¬sp vs H Q E):Yx P w K mg base CX k f fd ps sp:=
 ⟨fun vs H Q E z=>(h vs H Q E z).elim,fun _ _ _ H _ _ vs Q E _ _ _ _ z=>(h vs H Q E z).elim⟩
structure TyC (K:PySem.W.Frag) (C:Addr):Prop where
 cl:Cls K C
 ha:PySem.W.findIn K (.ref C) "__class__"=some (some (.builtin "object.__class__"))
 hn:PySem.W.specialIn K (.builtin "object.__class__") "__get__"=some (some (.builtin "getset_descriptor.__get__"))
 htk:PySem.W.takesIn K (.builtin "object.__class__")=some true
 hm:PySem.W.mroIn K C (.type "object")=some true
theorem Zee{c A B:Prop} [Decidable c](hc:¬c)(h:B):if decide c=true then A else B:=by
 rw[decide_eq_false hc];exact YT h
theorem Zl3{α:Type}{P:List α->Prop}(h:P []):∀us:List α,us.length=0->P us
 |[],_=>h
theorem Jd{α:Type}{P:List α->Prop}(h:∀a,P [a]):∀us:List α,us.length=1->P us
 |[a],_=>h a
theorem ZdO{α:Type}{P:List α->Prop}(h:∀a b,P [a,b]):∀us:List α,us.length=2->P us
 |[a,b],_=>h a b
theorem ZiK{α:Type}{P:List α->Prop}(h:∀a b c,P [a,b,c]):∀us:List α,us.length=3->P us
 |[a,b,c],_=>h a b c
end L3
namespace L3
open PySem PySem.Spec PyProof.Rows L2
theorem ZhM:typeLookup (.type "list_reverseiterator") "__len__"=pure none:=by rw[typeLookup_type,builtinLookup_eq_fast];kernel_rfl
theorem ZiL:typeLookup (.type "list_reverseiterator") "__length_hint__"=pure (some (.builtin "list_reverseiterator.__length_hint__")):=by rw[typeLookup_type,builtinLookup_eq_fast];kernel_rfl
theorem ZiM:isSubtype (.type "list_reverseiterator") (.type "list_reverseiterator")=pure true:=by rw[isSubtype_type];kernel_rfl
section
variable {prog:Program} {w:World} {A:Around} {E:Value->Shared->Prop} {s:Shared} {it l S:Addr} {items:Array Value}
theorem ZiN{i:Int}{Q:Bool->Shared->Prop}(x:s.heap.IsRevIter it l i)(q:Q false s):wpAny (model prog w) A (Builtin.List.listLengthHint (.ref it)) Q E s:=by
 have ty:=x.typeIs
 delta Builtin.List.listLengthHint
 refine wpAny_bind (wpAny_specialOf ty ZhM (show wpAny _ A (specialOf _ (Str.ofString "__length_hint__")>>=_) _ _ s from wpAny_bind (wpAny_specialOf ty ZiL ?_)));generalize hid:"list_reverseiterator.__length_hint__"=d
 wp_delta
 rw[show splitId d=some ("list_reverseiterator","__length_hint__") by subst hid;decide+kernel]
 subst hid;exact wpAny_bind (wpAny_isInstance ty ZiM (wpAny_pure q))
theorem ZiO{R:Result->Shared->Prop}{c:Nat}{res:Value}(hh:A.handled=none)(x:s.heap.IsRevIter it l ((items.size:Int)-1))(hl:s.heap.IsList l items)(hn:items.size<=sizeLine)(n1:S≠it)(n2:S≠l)(n3:l≠it)
  (hS:s.heap.get? S=some {cls:=.type "list",data:=.seq #[] c})
  (r:∀h' tk out c',(∀b o,b≠S->b≠it->s.heap.get? b=some o->h'.get? b=some o)->h'.get? S=some {cls:=.type "list",data:=.seq out c'}->ItemsOf (fun i v=>items[items.size-1-i]? =some v) out items.size->R (.ok (.ret res)) {s with heap:=h',toks:=tk}):
  wpAny (model prog w) A.in1 (Builtin.List.listExtendWith (.ref S) (.ref it) res) (fun fin s'=>match fin with| .done f=>R (.ok f) s'| .again c'=>c'.quiet=true/\codeAny (model prog w) A c' R s') (fun e s'=>R (.error e) s') s:=by
 have W:=(Walks.listRev (prog:=prog) (w:=w) (A:=A.in1) hh it l n3 items).toS;have off:Builtin.List.listSameRef (.ref S) (.ref it)=false:=by simp[Builtin.List.listSameRef,n1]
 have st0:0<=items.size/\s.heap.IsRevIter it l ((items.size:Int)-1-((0:Nat):Int))/\s.heap.IsList l items:=⟨Nat.zero_le _,by simpa using x,hl⟩
 delta Builtin.List.listExtendWith
 refine wpAny_bind (wpAny_typeOf x.typeIs ?_);rw[if_neg (by rw[off];decide)]
 refine wpAny_bind (wpAny_pyIter_revIter x (wpAny_bind (wpAny_holding (ZiN x ?_))));rw[if_neg (by decide)];refine wpAny_pure ⟨plainId_quiet F.plain_extend_loop _,codeAny_extend_loopS W hn S (by simp[n1,n2]) res _ 0 s #[] c rfl (Nat.zero_le _) st0 hS (ItemsOf.nil _) fun s' out c' mv e1 e2=> ?_⟩;rw[mv.eq_with];exact r _ _ out c' (fun b o b1 b2 e=>mv.heap b o (by simp[b1,b2]) e) e1 e2
theorem ZiP{Q:Value->Shared->Prop}(hh:A.handled=none)(x:s.heap.IsRevIter it l ((items.size:Int)-1))(hl:s.heap.IsList l items)(hn:items.size<=sizeLine)(n3:l≠it)
  (q:∀h' tk out c',(∀b o,b≠it->s.heap.get? b=some o->h'.get? b=some o)->h'.get? s.heap.objs.size=some {cls:=.type "list",data:=.seq out c'}->ItemsOf (fun i v=>items[items.size-1-i]? =some v) out items.size->Q (.ref s.heap.objs.size) {s with heap:=h',toks:=tk}):wpAny (model prog w) A (call (.type "list") [.ref it]) Q E s:=by
 generalize hD:s.heap.objs.size=D at q
 have off:∀b o,s.heap.get? b=some o->D≠b:=fun b o e z=>by
  have y:=Heap.lt_size e;rw[hD,z] at y
  exact Nat.lt_irrefl b y
 obtain⟨ox,ex,_⟩:=id x;obtain⟨ol,el,_⟩:=id hl;have e0:(s.heap.push {cls:=.type "list",data:=.seq #[]}).get? D=some {cls:=.type "list",data:=.seq #[]}:=by subst hD;exact Heap.get?_push_size _ rfl
 have e1:=Heap.get?_update_self (Obj.mapSeq fun _=>(#[]:Array Value)) e0 rfl;have up:∀b o,s.heap.get? b=some o->((s.heap.push {cls:=.type "list",data:=.seq #[]}).update D (Obj.mapSeq fun _=>(#[]:Array Value))).get? b=some o:=fun b o e=>(Heap.get?_update_other _ _ (off b o e)).trans (Heap.get?_push_of_some _ e);refine callType_codes (Q₁:=fun u s1=>u=.ref D/\s1={s with heap:=s.heap.push {cls:=.type "list",data:=.seq #[]}}) F.called_list (F.typeCall_list_1 _) F.entry_list_init (code_list_new _ ⟨congrArg Value.ref hD,rfl⟩) ?_
 rintro _ _ ⟨rfl,rfl⟩;refine⟨⟨_,e0,rfl⟩,F.args_list_init_2 _ _, ?_⟩;show wpAny _ _ ((seqItems? (.ref D)>>=_)>>=fun(old:Array Value)=>updateSeq D (fun _=> #[])>>=fun _=>letGo old.toList.reverse>>=fun _=>Builtin.List.listExtendWith (.ref D) (.ref it) .none) _ _ _;refine wpAny_bind (wpAny_bind (wpAny_seqItems e0 rfl (wpAny_pure (wpAny_bind (wpAny_updateSeq e0 rfl (wpAny_bind (wpAny_letGo ?_)))))));exact ZiO (A:=A.in1) hh (x.at fun o e=>up _ o e) (hl.at fun o e=>up _ o e) hn (off _ _ ex) (off _ _ el) n3 e1 fun h' tk out c' k z1 z2=>⟨rfl,q h' tk out c' (fun b o b1 e=>k b o (Ne.symm (off b o e)) b1 (up b o e)) z1 z2⟩
end
section
variable {X:Cx} {e:PySem.Expr} {te:TE} {p p2 pos pos2:Pos}
theorem ZhN{ys:List V}{us:List Value}{out:Array Value}(r:ZZ ys us)(h:ItemsOf (fun i v=>us.toArray[us.toArray.size-1-i]? =some v) out us.toArray.size):ZZ ys.reverse out.toList:=by
 have e:out.toList=us.reverse:=by
  refine List.ext_getElem? fun i=> ?_
  by_cases hi:i<us.length
  ·have z:i<out.toList.length:=by rw[Array.length_toList,h.1,List.size_toArray];exact hi
   have y:=h.2 i _ (by rw[<-Array.getElem?_toList,List.getElem?_eq_getElem z]);rw[List.getElem?_eq_getElem z,List.getElem?_reverse hi,<-y];simp
  ·rw[List.getElem?_eq_none (by rw[Array.length_toList,h.1,List.size_toArray];omega),List.getElem?_eq_none (by rw[List.length_reverse];omega)]
 rw[e];exact r.reverse
def ZhO(te:TE)(K:PySem.W.Frag):TE:=fun σ H Q=>te σ H fun v H1=>∃a ys,v=.ref a/\SqL K H1 a ys/\∀l,H1 l=none->Q (.ref l) (upd H1 l (.lst ys.reverse))
theorem Zdj(hc:X.calm=true)(g1:Gl X "list")(z1:X.mg "list"=none)(g2:Gl X "reversed")(z2:X.mg "reversed"=none)(ha:PE X e te)
  (s1:starEach [e] X.env=(false,eval e X.env)::starEach [] X.env:=by rfl):PE X (.Call (.Name "list" p) [.Call (.Name "reversed" p2) [e] [] pos2] [] pos) (ZhO te X.K):=by
 intro pins s σ H Q I h;refine wpAny_Call_Name_kw (Zci I g1 z1 ZiG ?_);refine PyProof.Rows.callWith_type1 ?_ rfl rfl;show wpAny _ _ (spliced ((false,eval (.Call (.Name "reversed" p2) [e] [] pos2) X.env)::[])) _ _ s;refine Calls.spliced_cons (wpAny_Call_Name_kw (Zci I g2 z2 Zfl ?_));refine PyProof.Rows.callWith_type1 ?_ s1 rfl;rw[s1];show wpAny _ _ (spliced ((false,eval e X.env)::[])) _ _ s;refine Calls.spliced_cons (thn (ha pins s σ H _ I h) fun u s' ⟨x,H1,I1,r1,a,ys,ex,hq,q⟩=>Calls.spliced_nil ?_)
 subst ex;cases r1;obtain⟨us,r,pl,hz⟩:=I1.list hq;have hlen:=r.length;have hl:=pl.isList;refine call_reversed_list hl (Calls.spliced_nil ?_);have hl1:=hl.at fun o e=>Heap.get?_push_of_some (revObj a ((us.toArray.size:Int)-1)) e
 have na:a≠s'.heap.objs.size:=by obtain⟨o,e,_⟩:=hl;exact Nat.ne_of_lt (Heap.lt_size e)
 refine ZiP (I1.ok.hd hc) ⟨_,Heap.get?_push_size _ rfl,rfl,rfl⟩ hl1 (by simp only [List.size_toArray];omega) na fun h' tk out c k e1 e2=> ?_
 have kp:∀b o,s'.heap.get? b=some o->h'.get? b=some o:=fun b o e=>k b o (Nat.ne_of_lt (Heap.lt_size e)) (Heap.get?_push_of_some _ e);refine⟨.ref _,_,I1.laid (o:=.lst ys.reverse) (t':=tk) kp (by show s'.heap.objs.size<=(s'.heap.push _).objs.size;rw[size_push'];omega) ⟨by rw[List.length_reverse];exact hz,out.toList,c,ZhN r e2,e1⟩,rfl,q _ (I1.hok.fresh (by rw[size_push'];omega))⟩
end
end L3
namespace L3
open PySem PySem.Spec PyProof.Rows L2 PySem.W PySem.Calls
section
variable {X:Cx}
theorem ZcX{e:PySem.Expr}{te:TE}{pos:Pos}(he:PE X e te):PF1 X (.FormattedValue e 114 none pos) (fun σ H Q=>te σ H fun v H1=>∃y,v=.str y/\y.length<=100000/\(∀c∈y.cps.toList,c<16^8)/\Q (reprText y) H1):=by
 intro pins s σ H Q I h;refine wpAny_FormattedValue_repr (thn (he pins s σ H _ I h) fun v s1 ⟨x,H1,I1,r1,q1⟩=> ?_);obtain⟨y,rfl,hy,hc,q⟩:=q1;obtain⟨t,rfl⟩:=r1;have l:=StrLaws.reprText_len y hc;have z:(reprText y).length<=sizeLine:=by rw[sizeLine_eq];omega
 exact wpAny_pyReprObj_str (formatField_str (fun t' tk=>⟨_,t',H1,rfl,I1.tok _,q⟩) z) z
end
def Za4(o:Obj):Option Value:=match o.data with
 | .fields vs=>vs[2]?
 |_=>none
def ChL(h:Heap):List (Addr×Obj)->Value->Prop
 |[],v=>v=.none
 |(a,o)::r,v=>v=.ref a/\h.get? a=some o/\∃x,Za4 o=some x/\ChL h r x
def Chn(H:Hp)(h:Heap)(v:Value):Prop:=∃l,ChL h l v/\∀p∈l,H p.1=none
def Kd{α:Type}:Sem α->Prop
 | .pure _=>True
 | .raise _=>True
 | .unsupported _=>True
 | .finish _=>True
 | .rule _ k=>Kd (k ())
 | .at _ k=>Kd (k ())
 | .point _ k=>Kd (k ())
 | .load _ _ k=>∀o,Kd (k o)
 | .loadIfAlive _ k=>∀o,Kd (k o)
 | .update _ _ f k=>(∀o,(f o).dict=o.dict/\Za4 (f o)=Za4 o/\(f o).isFreed=o.isFreed)/\Kd (k ())
 | .alloc _ k=>∀a,Kd (k a)
 | .fresh k=>∀t,Kd (k t)
 | .ask k=>∀t,Kd (k t)
 | .stack k=>∀l,Kd (k l)
 |_=>False
def DK(h h':Heap):Prop:=∀b o,h.get? b=some o->∃o',h'.get? b=some o'/\o'.dict=o.dict/\Za4 o'=Za4 o
theorem DK.trans{h1 h2 h3:Heap}(x:DK h1 h2)(y:DK h2 h3):DK h1 h3:=fun b o e=>
 let ⟨o1,e1,d1⟩:=x b o e
 let ⟨o2,e2,d2⟩:=y b o1 e1
 ⟨o2,e2,d2.1.trans d1.1,d2.2.trans d1.2⟩
theorem DK.upd{h:Heap}{a:Addr}{f:Obj->Obj}(hf:∀o,(f o).dict=o.dict/\Za4 (f o)=Za4 o/\(f o).isFreed=o.isFreed):DK h (h.update a f):=fun b o e=>by
 by_cases q:a=b
 ·subst q;exact⟨f o,Heap.get?_update_self f e ((hf o).2.2.trans (Heap.get?_some_iff.mp e).2),(hf o).1,(hf o).2.1⟩
 ·exact⟨o,(Heap.get?_update_other h f q).trans e,rfl,rfl⟩
theorem Kd.wp{α:Type}{M:Model}{Γ:PySem.Ctx}{Q:α->Pos->Shared->Prop}{E:Value->Pos->Shared->Prop}{h0:Heap}(t:Sem α):∀(p:Pos) (s:Shared),Kd t->DK h0 s.heap->Sem.wp M Γ t Q E p s->
  Sem.wp M Γ t (fun a p' s'=>Q a p' s'/\DK h0 s'.heap) (fun e p' s'=>E e p' s'/\DK h0 s'.heap) p s:=by
 induction t with
 |pure a=>exact fun p s _ d w=>⟨w,d⟩
 |raise e=>exact fun p s _ d w=>⟨w,d⟩
 |unsupported|finish=>exact fun p s _ _ w=>w
 |rule _ k ih|point _ k ih=>exact fun p s c d w=>ih () p s c d w
 |«at» p' k ih=>exact fun p s c d w=>ih () p' s c d w
 |load a _ k ih=>exact fun p s c d ⟨o,ho,w⟩=>⟨o,ho,ih o p s (c o) d w⟩
 |loadIfAlive a k ih=>exact fun p s c d w=>ih _ p s (c _) d w
 |update a _ f k ih=>exact fun p s c d ⟨ha,w⟩=>⟨ha,ih () p _ c.2 (d.trans (DK.upd c.1)) w⟩
 |alloc o k ih=>exact fun p s c d w=>ih _ p _ (c _) (d.trans fun b o' e=>⟨o',Heap.get?_push_of_some o e,rfl,rfl⟩) w
 |fresh k ih=>exact fun p s c d w=>ih _ p _ (c _) d w
 |ask k ih=>exact fun p s c d w=>ih _ p s (c _) d w
 |stack k ih=>exact fun p s c d w=>ih _ p s (c _) d w
 |_=>exact fun p s c=>c.elim
theorem Kd.any{α:Type}{M:Model}{A:Around}{Q:α->Shared->Prop}{E:Value->Shared->Prop}{s:Shared}{t:Sem α}(c:Kd t)(h:wpAny M A t Q E s):wpAny M A t (fun a s'=>Q a s'/\DK s.heap s'.heap) (fun e s'=>E e s'/\DK s.heap s'.heap) s:=
 fun Γ p hΓ=>Kd.wp t p s c (fun _ o e=>⟨o,e,rfl,rfl⟩) (h Γ p hΓ)
theorem Kd.bind{α β:Type}{k:α->Sem β}(t:Sem α):Kd t->(∀a,Kd (k a))->Kd (t>>=k):=by
 show Kd t->(∀a,Kd (k a))->Kd (Sem.bind t k)
 induction t with
 |pure a=>exact fun _ z=>z a
 |raise|unsupported|finish=>exact fun _ _=>trivial
 |rule _ k ih|point _ k ih|«at» _ k ih=>exact fun c z=>ih () c z
 |load _ _ k ih|loadIfAlive _ k ih|alloc _ k ih|fresh k ih|ask k ih|stack k ih=>exact fun c z o=>ih o (c o) z
 |update _ _ f k ih=>exact fun c z=>⟨c.1,ih () c.2 z⟩
 |_=>exact fun c=>c.elim
theorem ZeC{α:Type}{a:Addr}{k:Obj->Sem α}(h:∀o,Kd (k o)):Kd (load a>>=k):=Kd.bind _ (fun _=>trivial) h
theorem Zc5(v:Value)(i:Nat):Kd (field v i):=by
 unfold field fieldsOf;refine Kd.bind _ ?_ fun x=>by split<;>exact trivial
 cases v<;>first|exact trivial|(refine ZeC fun o=> ?_;split<;>exact trivial)
theorem ZjK{i:Nat}(x:Value)(hi:i≠2)(o:Obj):(Obj.mapFields (·.setIfInBounds i x) o).dict=o.dict/\Za4 (Obj.mapFields (·.setIfInBounds i x) o)=Za4 o/\(Obj.mapFields (·.setIfInBounds i x) o).isFreed=o.isFreed:=by
 obtain⟨c,d,y,l⟩:=o;cases y with
 |fields vs=>exact⟨rfl,Array.getElem?_setIfInBounds_ne hi,rfl⟩
 |_=>exact⟨rfl,rfl,rfl⟩
theorem Zg5(v:Value){i:Nat}(hi:i≠2)(x:Value):Kd (setField v i x):=by
 unfold setField updateField;cases v<;>first|exact trivial|skip
 refine ZeC fun o=> ?_
 split
 ·split
  ·exact⟨ZjK _ hi,trivial⟩
  ·exact trivial
 ·exact trivial
theorem Zaw(e:Value)(f:Option Addr):Kd (setFlight e f):=by
 unfold setFlight;refine Kd.bind _ (Zc5 _ _) fun tb=> ?_
 split
 ·exact Zg5 _ (by decide) _
 ·exact trivial
theorem ZhP(a b c d e:Value)(l:List Value):Kd (EntryCells.newEntry a b c d e l):=by
 unfold EntryCells.newEntry newFields newObj newObjAsIs
 dsimp only
 generalize [a,b,c,d,e]++_=vs
 split
 ·exact trivial
 ·exact fun _=>trivial
theorem Zh0(env:Env)(outer:List Env):Kd (behindIsImport env outer):=by
 unfold behindIsImport
 split
 ·exact trivial
 ·split
  ·exact trivial
  ·exact Kd.bind _ (Zc5 _ _) fun _=>trivial
theorem ZiQ(env:Env)(b:Bool):∀outer:List Env,Kd (keptBack env b outer)
 |[]=>by
  show Kd (if(env.scope.isGenerator||env.scope.isCoroutine)=true then pure Value.none else _)
  split
  ·exact trivial
  ·exact fun _=>trivial
 |_::_=>trivial
theorem Zfn:∀l:List Env,Kd (readyFrames l)
 |[]=>trivial
 |env::outer=>by
  unfold readyFrames
  split
  ·refine ZeC fun o=> ?_
   split
   ·exact trivial
   ·exact Kd.bind _ (Zh0 _ _) fun _=>Kd.bind _ (ZiQ _ _ _) fun _=>⟨fun o=>⟨rfl,rfl,by obtain⟨c,d,x,l⟩:=o;cases x<;>rfl⟩,Zfn outer⟩
  ·exact trivial
theorem ZhQ(env:Env):Kd (PySem.frameOf env):=by
 unfold PySem.frameOf;refine Kd.bind _ (fun _=>trivial) fun l=> ?_;refine Kd.bind _ ?_ fun x=>by split<;>exact trivial
 cases l.dropWhile (·.frame !=env.frame) with
 |nil=>exact trivial
 |cons a r=>exact Kd.bind _ (Zfn _) fun _=>trivial
theorem ZhR(f:Addr)(b:Bool):Kd (entryPlaceOf f b):=by
 unfold entryPlaceOf;refine Kd.bind _ (fun _=>trivial) fun l=> ?_
 split<;>exact trivial
theorem ZeD(e:Value)(env:Env):Kd (noteFrame e env):=by
 unfold noteFrame;have rest:∀(f:Addr) (head:Value),Kd (do let a<-PySem.frameOf env;let pl<-entryPlaceOf f (head !=.none);let b<-EntryCells.newEntry head a .none (rawInt f) .none pl;setField e 1 b):=fun f head=>
  Kd.bind _ (ZhQ _) fun _=>Kd.bind _ (ZhR _ _) fun _=>Kd.bind _ (ZhP _ _ _ _ _ _) fun _=>Zg5 _ (by decide) _
 split
 ·refine Kd.bind _ (Zc5 _ _) fun head=> ?_
  dsimp only
  split
  ·refine Kd.bind _ (Zc5 _ _) fun x=> ?_
   split
   ·exact trivial
   ·exact Kd.bind _ (Zg5 _ (by decide) _) fun _=>rest _ _
  ·exact rest _ _
 ·exact trivial
theorem ZbI(env:Env)(e:Value):Kd (leaving env e):=Kd.bind _ (ZeD _ _) fun _=>Zaw _ _
structure Kp (fs:List Addr) (H H':Hp) (h h' B:Heap):Prop where
 keep:∀b o,h.get? b=some o->H b=none->b∉fs->B.get? b=some o/\H' b=none
 slot:∀b o,h.get? b=some o->H b=none->b∈fs->(∃sl,h'.get? b=some {o with slots:=sl})/\H' b=none
 there:∀b o,h.get? b=some o->b∉fs->∃o',B.get? b=some o'
 tups:∀b xs,H b=some (.tup xs)->H' b=some (.tup xs)
 frzs:∀b o u,H b=some (.frz o u)->H' b=some (.frz o u)
 tbls:∀b ps,H b=some (.tbl ps)->∃more,H' b=some (.tbl (ps++more))
def CXr(P:Program)(w:World):CXT:=fun outer H s E ev s'=>∃(e D:Addr) (a0:Value) (H':Hp) (B:Heap),ev=.ref e/\s'.os=s.os/\AllBare s'.gens/\Heap.FlyingW B outer e (.ref D) a0 s'.heap/\
 Kp (frs outer) H H' s.heap s'.heap B/\HOk P w H' B/\∃d cx,(∃ob,s'.heap.get? e=some ob/\ob.dict=d/\Za4 ob=some cx)/\Chn H' B cx/\E (.ref D) d H'
section
variable {P:Program} {w:World} {K:Frag} {mg:Str->Option Value} {base:Heap} {N:List Str} {qual:Str} {scope:Scope} {f:Addr} {cdv:Value} {A:Around} {outer:List Env} {s₀:Shared} {H₀:Hp} {E:XK}
theorem ZeE{pins:List (Addr×Obj)}{σ:L2.St}{H:Hp}{s:Shared}{h':Heap}{e D:Addr}{us:List Value}(I:L2.Inv (Yh (CXr P w) P w K mg base N qual scope f cdv A outer s₀ H₀ E) pins σ H s)
  (hx:Heap.MadeExcOf s.heap h' e (.ref D) us)(q:E (.ref D) none H):(Yh (CXr P w) P w K mg base N qual scope f cdv A outer s₀ H₀ E).xe (.ref e) {s with heap:=h'}:=by
 have neL:∀b o,s₀.heap.get? b=some o->b≠s₀.heap.objs.size:=fun b o e=>Nat.ne_of_lt (Heap.lt_size e);have nst:∀b o,s₀.heap.get? b=some o->b∉frs outer->b∉frs (Yh (CXr P w) P w K mg base N qual scope f cdv A outer s₀ H₀ E).stack:=fun b o eb nb hb=>by
  rcases List.mem_cons.mp (I.stkSub b hb) with z|z
  ·exact neL b o eb z
  ·exact nb z
 have hin:∀env∈(Yh (CXr P w) P w K mg base N qual scope f cdv A outer s₀ H₀ E).stack,∀a,env.frame=some a->a∈frs (Yh (CXr P w) P w K mg base N qual scope f cdv A outer s₀ H₀ E).stack:=fun env he a ha=>List.mem_filterMap.mpr ⟨env,he,ha⟩;refine wpAny_mono (Kd.any (ZbI _ _) (wpAny_leaves_madeW (Q:=fun _ s2=>∃h'' t,s2={s with heap:=h''}/\Heap.FlyingW (hideAll s.heap (frs (Yh (CXr P w) P w K mg base N qual scope f cdv A outer s₀ H₀ E).stack)) outer e (.ref D) (.ref t) h''/\Heap.UpToSlots h' h'') (base:=hideAll s.heap (frs (Yh (CXr P w) P w K mg base N qual scope f cdv A outer s₀ H₀ E).stack)) (h:=s.heap) I.ok.frames rfl (fun b o z=>of_hideAll _ z) (funFrames_hide I.stack hin) hx fun h'' t fl tup tn ups=>⟨h'',t,rfl,fl,ups⟩)) (fun _ s2 z=> ?_) fun _ _ z=>z.1
 obtain⟨⟨h'',t,rfl,fl,ups⟩,dk⟩:=z;have dn:∃ob,h''.get? e=some ob/\ob.dict=none/\Za4 ob=some .none:=by
  obtain⟨t',e1,_⟩:=hx.there;exact dk e _ e1
 refine⟨e,D,_,H,_,rfl,I.os,I.bare,fl,⟨fun b o eb nb hb=>⟨hideAll_get _ (I.base.keep b o eb nb hb (by intro z;cases z)) (nst b o eb hb),I.base.free b o eb nb (by intro z;cases z)⟩,fun b o eb nb hb=> ?_,fun b o eb hb=> ?_,I.base.tups,I.base.frzs,I.base.tbls⟩,
  fun b u eb=>(I.hok b u eb).stay (fun c v hc z=>hideAll_get _ z fun hm=> ?_) (fun _ z=>z) (fun _ _ z=>z),none,.none,dn,⟨[],rfl,fun _ z=>nomatch z⟩,q⟩
 ·obtain⟨sl,e1⟩:=I.base.slot b o eb nb hb (by intro z;cases z)
  obtain⟨_,o2,e2,hd⟩:=I.ok.funs.mem hb;have e2:s₀.heap.get? b=some o2:=e2;rw[eb] at e2
  cases e2;obtain⟨sl2,e3⟩:=ups b _ (hx.keeps b _ e1) hd;exact⟨⟨sl2,e3⟩,I.base.free b o eb nb (by intro z;cases z)⟩
 ·obtain⟨o',e1⟩:=I.base.there b o eb (by intro z;cases z)
  exact⟨o',hideAll_get _ e1 (nst b o eb hb)⟩
 ·have nn:=I.stkFree c hm;rcases hc with rfl|hc
  ·rw[nn] at eb;cases eb
  ·rw[nn] at hc;cases hc
theorem Jk:JK (CXr P w) (Yh (CXr P w) P w K mg base N qual scope f cdv A outer s₀ H₀ E) E:=by
 intro pins σ H s ev s' I hcx;obtain⟨e,D,a0,H',B,rfl,os,bare,fl,kp,hok,d,cx,⟨ob,eb0,db0,fb0⟩,ch,q⟩:=hcx;have neL:∀b o,s₀.heap.get? b=some o->b≠s₀.heap.objs.size:=fun b o e=>Nat.ne_of_lt (Heap.lt_size e);have nst:∀b o,s₀.heap.get? b=some o->b∉frs outer->b∉frs (Yh (CXr P w) P w K mg base N qual scope f cdv A outer s₀ H₀ E).stack:=fun b o eb nb hb=>by
  rcases List.mem_cons.mp (I.stkSub b hb) with z|z
  ·exact neL b o eb z
  ·exact nb z
 have nex:∀b,b∉(Yh (CXr P w) P w K mg base N qual scope f cdv A outer s₀ H₀ E).ex:=fun b z=>by cases z
 have sub:∀b∈frs outer,b∈frs (Yh (CXr P w) P w K mg base N qual scope f cdv A outer s₀ H₀ E).stack:=fun b hb=>List.mem_cons_of_mem _ hb;refine wpAny_mono (Kd.any (ZbI _ _) (wpAny_leaves_onW (Q:=fun _ s2=>∃h'',s2={s' with heap:=h''}/\Heap.FlyingW B outer e (.ref D) a0 h''/\s'.heap.UpToSlots h'') I.ok.frames rfl fl fun h'' fl2 ups=>⟨h'',rfl,fl2,ups⟩)) (fun _ s2 z=> ?_) fun _ _ z=>z.1;obtain⟨⟨h'',rfl,fl2,ups⟩,dk⟩:=z
 obtain⟨ob2,eb2,db2,fb2⟩:=dk e ob eb0;refine⟨e,D,a0,H',B,rfl,os.trans I.os,bare,fl2,⟨fun b o eb nb hb=> ?_,fun b o eb nb hb=> ?_,fun b o eb hb=> ?_,fun b xs z=>kp.tups b xs (I.base.tups b xs z),fun b o u z=>kp.frzs b o u (I.base.frzs b o u z),fun b ps z=> ?_⟩,hok,d,cx,⟨ob2,eb2,db2.trans db0,fb2.trans fb0⟩,ch,q⟩
 ·exact kp.keep b o (I.base.keep b o eb nb hb (nex b)) (I.base.free b o eb nb (nex b)) (nst b o eb hb)
 ·obtain⟨sl,e1⟩:=I.base.slot b o eb nb hb (nex b);obtain⟨⟨sl2,e2⟩,n2⟩:=kp.slot b _ e1 (I.base.free b o eb nb (nex b)) (sub b hb);obtain⟨_,o2,e3,hd⟩:=I.ok.funs.mem hb;have e3:s₀.heap.get? b=some o2:=e3;rw[eb] at e3
  cases e3;obtain⟨sl3,e4⟩:=ups b _ e2 hd;exact⟨⟨sl3,e4⟩,n2⟩
 ·obtain⟨o',e1⟩:=I.base.there b o eb (nex b);exact kp.there b o' e1 (nst b o eb hb)
 ·obtain⟨m1,e1⟩:=I.base.tbls b ps z;obtain⟨m2,e2⟩:=kp.tbls b _ e1;exact⟨m1++m2,by rw[e2,Array.append_assoc]⟩
end
theorem okX{P:Program}{w:World}{K:Frag}{mg:Str->Option Value}{base:Heap}{x qual:Str}{st:Stmt}{f:Addr}{fd:FuncData}{N ps:List Str}{k:Nat}{sp:Sp}(F:Fun K x qual st f fd)(S:ZV N ps (Zz st))(len:∀vs H Q E,sp vs H Q E->vs.length=ps.length)
  (hbody:∀(cdv:Value) (A:Around) (outer:List Env) (s:Shared) (H:Hp) (vs:List V) (Q:VK) (E:XK),Xl k (A.deeper (envOfC qual (Zz st) s.heap.objs.size f cdv))->sp vs H Q E->
   ∃t,PSs (Yh (CXr P w) P w K mg base N qual (Zz st) f cdv A outer s H E) (Jj st) t/\t {nx:=fun _ H'=>Q .non H',rt:=Q} (Zb1 N vs) H):Yx P w K mg base (CXr P w) (k+1) f fd ps sp:=by
 obtain⟨oc,od,kV,doc,pm,an,cdv,ct,osl,rfl,lk,hcd⟩:=F.ex;exact Zjc lk hcd S len fun A outer s H vs Q E hr hsp=>hbody cdv A outer s H vs Q E hr hsp
abbrev ZcM(x:Str)(D:Addr)(mg:Str->Option Value)(base:Heap):Prop:=OwnCls x D [.type "ValueError",.type "Exception",.type "BaseException",.type "object"] "ValueError.__new__" mg base
def ZhS(X:Cx)(E:XK):Prop:=∀(pins:List (Addr×Obj)) (σ:L2.St) (H:Hp) (s:Shared) (h':Heap) (e D:Addr) (us:List Value),L2.Inv X pins σ H s->Heap.MadeExcOf s.heap h' e (.ref D) us->E (.ref D) none H->X.xe (.ref e) {s with heap:=h'}
theorem Je{P:Program}{w:World}{K:Frag}{mg:Str->Option Value}{base:Heap}{N:List Str}{qual:Str}{scope:Scope}{f:Addr}{cdv:Value}{A:Around}{outer:List Env}{s₀:Shared}{H₀:Hp}{E:XK}:
  ZhS (Yh (CXr P w) P w K mg base N qual scope f cdv A outer s₀ H₀ E) E:=fun _ _ _ _ _ _ _ _ I hx q=>ZeE I hx q
def ZjL(D:Addr)(E:XK)(t:TA):TS:=fun _ σ H=>t σ H fun vs H1=>vs.length<=sizeLine/\E (.ref D) none H1
theorem Zax{X:Cx}{E:XK}{D:Addr}{x:Str}{np cpos pos:Pos}{e:PySem.Expr}{es:List PySem.Expr}{t:TA}(hr:ZhS X E)(O:ZcM x D X.mg X.base)(hc:X.calm=true)(hg:Gl X x)(ha:PA X (e::es) t)
  (hdb:(x==("__debug__":Str))=false:=by decide)(hs:starEach (e::es) X.env=(false,eval e X.env)::starEach es X.env:=by rfl)(hpl:(backTo cpos (starEach es X.env)).any (·.1)=false:=by rfl):PS X (.Raise (some (.Call (.Name x np) (e::es) [] cpos)) none pos) (ZjL D E t):=by
 intro pins s σ H D' I h;obtain⟨bm,_,_,_,_,_,_,_,_,_,_,_,_,_,_,_,_,at_,names,plain,above⟩:=O.obj;have pl:(backTo cpos (starEach (e::es) X.env)).any (·.1)=false:=by rw[hs];exact hpl
 have go:=ha cpos pins s σ H _ I h;rw[hs] at go
 refine' wpAny_Raise_call_subT PySem.F.excBase_ValueError (above.hasType PySem.F.excBase_ValueError.hasBase) (I.ok.hd hc) pl plain (XC I hg O.bound ⟨rfl, ?go⟩ hdb)
 case go=>
  rw[hs];refine Calls.evalArgs_plain (thn go fun us s1 z=> ?_);obtain⟨vs,H1,I1,r1,hz,q1⟩:=z;exact⟨rfl,r1.length▸hz,I1.bk _ _ at_,names.keeps I1.bk,above.keeps I1.bk,fun h' ex mk=>hr pins σ H1 s1 h' ex D us I1 mk q1⟩
end L3
namespace L3
open PySem PySem.Spec PyProof.Rows L2 PySem.W PySem.Calls
section
variable {P:Program} {w:World} {K:Frag} {mg:Str->Option Value} {base:Heap} {N:List Str} {qual:Str} {scope:Scope} {f:Addr} {cdv:Value} {A:Around} {outer:List Env} {s₀:Shared} {H₀:Hp} {E:XK} {CX:CXT}
theorem Zg6{pins:List (Addr×Obj)}{σ:L2.St}{H H':Hp}{s s':Shared}{B h5:Heap}(I:L2.Inv (Yh CX P w K mg base N qual scope f cdv A outer s₀ H₀ E) pins σ H s)(os:s'.os=s.os)(bare:AllBare s'.gens)(kp:Kp (frs (Yh CX P w K mg base N qual scope f cdv A outer s₀ H₀ E).stack) H H' s.heap s'.heap B)(hok:HOk P w H' B)(st:B.StaysIn h5)(sm:s'.heap.UpToSlots h5){tk:Nat}:
  L2.Inv (Yh CX P w K mg base N qual scope f cdv A outer s₀ H₀ E) pins σ H' {s' with heap:=h5,toks:=tk}:=by
 have dat:∀b∈frs (Yh CX P w K mg base N qual scope f cdv A outer s₀ H₀ E).stack,∀o,s.heap.get? b=some o->∀vs,o.data≠.fields vs:=fun b hb o eb=>by
  obtain⟨_,o2,e2,hd⟩:=I.stack.mem hb;rw[eb] at e2
  cases e2;exact hd
 have slots:∀b o,s.heap.get? b=some o->H b=none->b∈frs (Yh CX P w K mg base N qual scope f cdv A outer s₀ H₀ E).stack->∃sl,h5.get? b=some {o with slots:=sl}:=fun b o eb nb hb=>by
  obtain⟨⟨sl,e1⟩,_⟩:=kp.slot b o eb nb hb;obtain⟨sl2,e2⟩:=sm b _ e1 (dat b hb o eb);exact⟨sl2,e2⟩
 refine I.call' (s':={s' with heap:=h5,toks:=tk}) (ch:=[]) os ⟨fun b o eb nb hb _=>st _ _ (kp.keep b o eb nb hb).1,fun b o eb nb hb _=>slots b o eb nb hb,fun b o eb nb _=> ?_,fun b o eb _=> ?_,kp.tups,kp.frzs,kp.tbls⟩ (hok.kept st) bare fun b hb=>nomatch hb
 ·by_cases hb:b∈frs (Yh CX P w K mg base N qual scope f cdv A outer s₀ H₀ E).stack
  ·exact(kp.slot b o eb nb hb).2
  ·exact(kp.keep b o eb nb hb).2
 ·by_cases hb:b∈frs (Yh CX P w K mg base N qual scope f cdv A outer s₀ H₀ E).stack
  ·obtain⟨sl,e1⟩:=slots b o eb (I.stkFree b hb) hb;exact⟨_,e1⟩
  ·obtain⟨o',e1⟩:=kp.there b o eb hb;exact⟨o',st _ _ e1⟩
theorem Zkz{pins:List (Addr×Obj)}{σ:L2.St}{H:Hp}{s s':Shared}{ev:Value}{E':XK}{Q:Unit->Shared->Prop}{EE:Value->Shared->Prop}(I:L2.Inv (Yh CX P w K mg base N qual scope f cdv A outer s₀ H₀ E) pins σ H s)(hcx:CXr P w (Yh CX P w K mg base N qual scope f cdv A outer s₀ H₀ E).stack H s E' ev s')
  (k:∀(e D:Addr) (a0:Value) (H':Hp) (B h':Heap) (d:Option Addr),ev=.ref e->(∀(h5:Heap) (tk:Nat),B.StaysIn h5->h'.UpToSlots h5->L2.Inv (Yh CX P w K mg base N qual scope f cdv A outer s₀ H₀ E) pins σ H' {s' with heap:=h5,toks:=tk})->Heap.FlyingW B (Yh CX P w K mg base N qual scope f cdv A outer s₀ H₀ E).stack e (.ref D) a0 h'->HOk P w H' B->s.heap.get? e=none->(∃ob cx,h'.get? e=some ob/\ob.dict=d/\Za4 ob=some cx/\Chn H' B cx)->E' (.ref D) d H'->Q () {s' with heap:=h'}):
  wpAny (model P w) (Yh CX P w K mg base N qual scope f cdv A outer s₀ H₀ E).A (noteFrame ev (Yh CX P w K mg base N qual scope f cdv A outer s₀ H₀ E).env) (fun _ s2=>wpAny (model P w) (Yh CX P w K mg base N qual scope f cdv A outer s₀ H₀ E).A (setFlight ev none) Q EE s2) EE s':=by
 obtain⟨e,D,a0,H',B,rfl,os,bare,fl,kp,hok,d,cx,⟨ob,eb,db,fb⟩,ch,q⟩:=hcx;have fresh:s.heap.get? e=none:=by
  cases z:s.heap.get? e with
  |none=>rfl
  |some o=>
   by_cases hb:e∈frs (Yh CX P w K mg base N qual scope f cdv A outer s₀ H₀ E).stack
   ·obtain⟨_,o2,e2,hd⟩:=fl.2.2.1.mem hb;obtain⟨oe,vs,e3,_,e4,_⟩:=fl.first;rw[e2] at e3
    cases e3;exact absurd e4 (hd vs)
   ·obtain⟨o',e1⟩:=kp.there e o z hb;have n:=fl.2.1;rw[e1] at n
    cases n
 refine wpAny_mono (Kd.any (ZeD _ _) (wpAny_looks_onW (Q:=fun _ s2=>∃h4,s2={s' with heap:=h4}/\Heap.HeldW B (Yh CX P w K mg base N qual scope f cdv A outer s₀ H₀ E).stack e (.ref D) a0 _ h4/\s'.heap.UpToSlots h4) I.ok.frames rfl fl fun h4 held sm4=>⟨h4,rfl,held,sm4⟩)) (fun _ s2 z=> ?_) fun _ _ z=>z.1;obtain⟨⟨h4,rfl,held,sm4⟩,dk4⟩:=z;refine wpAny_mono (Kd.any (Zaw _ _) (wpAny_landsW (Q:=fun _ s3=>∃h5,s3={s' with heap:=h5}/\Heap.FlyingW B (Yh CX P w K mg base N qual scope f cdv A outer s₀ H₀ E).stack e (.ref D) a0 h5/\h4.UpToSlots h5) held fun h5 fl5 sm5=>⟨h5,rfl,fl5,sm5⟩)) (fun _ s3 z=> ?_) fun _ _ z=>z.1
 obtain⟨⟨h5,rfl,fl5,sm5⟩,dk5⟩:=z;obtain⟨ob4,eb4,db4,fb4⟩:=dk4 e ob eb;obtain⟨ob5,eb5,db5,fb5⟩:=dk5 e ob4 eb4;exact k e D a0 H' B h5 d rfl (fun h6 tk st sm6=>Zg6 I os bare kp hok st ((sm4.trans sm5).trans sm6)) fl5 hok fresh ⟨ob5,cx,eb5,(db5.trans db4).trans db,(fb5.trans fb4).trans fb,ch⟩ q
end
section
variable {X:Cx} {pins:List (Addr×Obj)} {σ:L2.St} {H:Hp} {s:Shared}
abbrev ZaC(X:Cx)(e:Value)(E:Value->Shared->Prop):Cx:={X with A:=X.A.mark (some e),calm:=false,xe:=E}
theorem ZiR{e:Value}{E:Value->Shared->Prop}(o:X.Ok):(ZaC X e E).Ok:=⟨o.mod,o.kind,o.glob,o.blt,o.above,o.inj,o.has,o.cab,(fun z=>nomatch z),o.frames,o.stk,o.exf,o.bs,o.bsz,o.noex,o.exfs,o.funs,o.frf⟩
theorem ZcY{e:Value}{E:Value->Shared->Prop}(I:L2.Inv X pins σ H s):L2.Inv (ZaC X e E) pins σ H s:=⟨ZiR I.ok,I.os,I.bare,I.base,I.loc,I.cell,I.free,I.freeC,I.pin,I.hok,I.len⟩
theorem Zb4{e:Value}{E:Value->Shared->Prop}(o:X.Ok)(I:L2.Inv (ZaC X e E) pins σ H s):L2.Inv X pins σ H s:=⟨o,I.os,I.bare,I.base,I.loc,I.cell,I.free,I.freeC,I.pin,I.hok,I.len⟩
theorem ZhT{M:Model}{h:Heap}{e:Addr}{c:Value}(x:∃ob,h.get? e=some ob/\ob.cls=c):Looks M h (typeOf (.ref e)) c:=by
 obtain⟨ob,e1,rfl⟩:=x;exact(Looks.ld e1).andThen .now
end
theorem Zbw{X:Cx}{pins:List (Addr×Obj)}{σ:L2.St}{H:Hp}{s:Shared}{M:Model}{A:Around}{E:Value->Shared->Prop}{i:Nat}{x:Str}{pos:Pos}{Q:Unit->Shared->Prop}(I:L2.Inv X pins σ H s)(hN:X.N.Nodup)(hi:X.N[i]? =some x)(hk:X.env.scope.names.lookup x=some .local)
  (h:∀s',L2.Inv X pins (σ.set i none) H s'->Q () s'):wpAny M A (do bindName X.env x .none;unbindBehindTheSuite X.env x pos) Q E s:=by
 obtain⟨m,hn,hl⟩:=id I.loc;refine wpAny_nameGoes_keeps hk hn (by rw[I.ok.kind];rfl) fun h' v hn' sb=>h _ ?_
 have same:∀b,b≠X.env.locals->h'.get? b=s.heap.get? b:=fun b n=>sb.2 b n;have old:∀b o,X.s₀.heap.get? b=some o->h'.get? b=s.heap.get? b:=fun b o e=>same b (Nat.ne_of_lt (Nat.lt_of_lt_of_le (Heap.lt_size e) I.ok.above));refine⟨I.ok,I.os,I.bare,⟨?k, ?sl,I.base.free, ?th,I.base.tups,I.base.frzs,I.base.tbls⟩,⟨_,hn', ?lc⟩, ?ce,I.free,I.freeC, ?pn, ?ho,by simpa using I.len⟩
 case k=>exact fun b o e n f y=>(old b o e).trans (I.base.keep b o e n f y)
 case sl=>exact fun b o e n f y=>(I.base.slot b o e n f y).elim fun z q=>⟨z,(old b o e).trans q⟩
 case th=>exact fun b o e y=>(I.base.there b o e y).elim fun z q=>⟨z,(old b o e).trans q⟩
 case pn=>exact fun p hp=>let ⟨e,n,ne,r⟩:=I.pin p hp;⟨(same p.1 ne).trans e,n,ne,r⟩
 case ce=>exact fun y c e=>(I.cell y c e).elim fun z q=>⟨z,q.sameBut sb (I.cne y c e)⟩
 case ho=>
  refine fun b o e=>(I.hok b o e).stay (fun c u hc q=>(same c fun z=> ?_).trans q) (fun _ q=>q) fun _ _ q=>q;have fr:=I.free;rcases hc with rfl|hc
  ·rw[z,fr] at e;cases e
  ·rw[z,fr] at hc;cases hc
 case lc=>
  intro j y v' e1 e2 e3;have ji:j≠i:=fun z=>by
   subst z;have lt:j<σ.length:=by rw[I.len];exact(List.getElem?_eq_some_iff.mp hi).1
   rw[List.getElem?_set_self lt] at e2
   cases e2
  rw[List.getElem?_set_ne (Ne.symm ji)] at e2
  obtain⟨u,r,q⟩:=hl j y v' e1 e2 e3;refine⟨u,r,q.imp (fun⟨k1,k2⟩=>⟨k1, ?_⟩) fun⟨k1,c,k2,k3⟩=>⟨k1,c,k2,k3.sameBut sb (I.cne y c k2)⟩⟩;have yx:y≠x:=fun z=>ji (Zd1 hN e1 (z▸hi));simp[yx,k2]
def ZhU(D:ZbV)(i:Nat):ZbV:={nx:=fun σ H=>D.nx (σ.set i none) H,bk:=fun σ H=>D.bk (σ.set i none) H,ct:=fun σ H=>D.ct (σ.set i none) H,rt:=D.rt}
def XO(e D:Addr)(d:Option Addr):HO:=.ext fun h=>∃ob,h.get? e=some ob/\ob.cls=.ref D/\ob.dict=d/\notCls ob=true
theorem ZkA{P:Program}{w:World}{H:Hp}{B h:Heap}{l:List Env}{e D:Addr}{a0:Value}{d:Option Addr}(fl:Heap.FlyingW B l e (.ref D) a0 h)(dk:∃ob,h.get? e=some ob/\ob.dict=d):Xn P w H h e (XO e D d):=by
 obtain⟨oe,vs,e1,e2,e3,_⟩:=fl.first;obtain⟨ob,e4,e5⟩:=dk;rw[e1] at e4
 cases e4;refine⟨⟨oe,e1,e2,e5, ?_⟩,⟨oe,e1⟩,fun h1 h2 ⟨o,q1,q2⟩ z=>⟨o,z o q1,q2⟩⟩;unfold notCls;rw[e3]
theorem ZhV{X:Cx}{pins:List (Addr×Obj)}{σ σ₁:L2.St}{H H₁:Hp}{s s₁:Shared}{B h:Heap}{l:List Env}{e C D:Addr}{a0:Value}{d:Option Addr}{cn n:Str}{np hpos:Pos}{b0:Stmt}{suite:List Stmt}{rest:List ExceptHandler}{i:Nat}{ts:TS}{D':ZbV}{EE:Value->Shared->Prop}
  (ok:X.Ok)(again:∀(h5:Heap) (tk:Nat),B.StaysIn h5->h.UpToSlots h5->L2.Inv X pins σ H {s with heap:=h5,toks:=tk})(fl:Heap.FlyingW B l e (.ref D) a0 h)(I₁:L2.Inv X pins σ₁ H₁ s₁)(new:s₁.heap.get? e=none)(free:H e=none)(dk:∃ob,h.get? e=some ob/\ob.dict=d)(hg:Gl X cn)(hm:X.mg cn=some (.ref C))(hx:exmOne X.K (.ref D) (.ref C)=some true)
  (hN:X.N.Nodup)(hi:X.N[i]? =some n)(hk:X.env.scope.names.lookup n=some .local)(hs:PSs (ZaC X (.ref e) fun _ _=>False) (b0::suite) ts)(q:ts (ZhU D' i) (σ.set i (some (.ref e))) (upd H e (XO e D d)))(hdb:(cn==("__debug__":Str))=false:=by decide):
  wpAny (model X.prog X.w) X.A (handleBy (.ref e) X.env (.ExceptHandler (some (.Name cn np)) (some n) (b0::suite) hpos::rest)) (SP X pins D') EE {s with heap:=h}:=by
 have I0:=again h s.toks fl.1 (fun _ o z _=>⟨o.slots,z⟩);refine wpAny_handleBy_cons (codeAny_handlers_test (XC (ZcY (e:=.ref e) (E:=fun _ _=>False) I0) hg hm ?_ hdb)) (fun z=>nomatch z);refine exm_one I0.kIn (ZhT fl.there) hx _ _ _ _ (fun _ _ z=>z) ?_;refine codeAny_handlers_suite_as (wpAny_mono (Kd.any (Zaw _ _) (lands_againW (Q:=fun _ s2=>∃h6,s2={s with heap:=h6}/\Heap.FlyingW B l e (.ref D) a0 h6/\h.UpToSlots h6) fl fun h6 fl6 sm6=>⟨h6,rfl,fl6,sm6⟩)) (fun _ s2 z=> ?_) fun _ _ z=>z.1)
 obtain⟨⟨h6,rfl,fl6,sm6⟩,dk6⟩:=z;obtain⟨ob,e1,e2⟩:=dk;obtain⟨ob6,e3,e4,_⟩:=dk6 e ob e1;have I6:=Zdi (q:=XO e D d) I₁ (again h6 s.toks fl6.1 sm6) free new (ZkA fl6 ⟨ob6,e3,e4.trans e2⟩);refine ZbU I6 hN hi (.inl hk) (v:=.ref e) rfl (fun s2 I2=> ?_) (.inr hk);refine wpAny_mono (hs pins s2 _ _ _ (ZcY I2) q) (fun f s3 z=> ?_) fun _ _ z=>z.elim;cases f with
 |next=>obtain⟨σ2,H2,I3,q3⟩:=z;exact Zbw (Zb4 ok I3) hN hi hk fun s4 I4=>⟨_,H2,I4,q3⟩
 |brk=>obtain⟨σ2,H2,I3,q3⟩:=z;exact Zbw (Zb4 ok I3) hN hi hk fun s4 I4=>⟨_,H2,I4,q3⟩
 |cont=>obtain⟨σ2,H2,I3,q3⟩:=z;exact Zbw (Zb4 ok I3) hN hi hk fun s4 I4=>⟨_,H2,I4,q3⟩
 |ret u=>obtain⟨v,σ2,H2,I3,r,q3⟩:=z;exact Zbw (Zb4 ok I3) hN hi hk fun s4 I4=>⟨v,_,H2,I4,r,q3⟩
theorem Zh1{P:Program}{w:World}{H:Hp}{h:Heap}{a:Addr}:∀{o:HO},Xn P w H h a o->∃ob,h.get? a=some ob
 | .lst _,⟨_,_,_,_,e⟩=>⟨_,e⟩
 | .tup _,⟨_,_,_,p⟩=>p.elim fun ob q=>⟨ob,q.1⟩
 | .dK _,⟨_,_,_,_,ob,_,_,e,_⟩=>⟨ob,e⟩
 | .dT _,⟨_,_,_,_,ob,_,_,e,_⟩=>⟨ob,e⟩
 | .set _ _,⟨ob,_,_,_,e,_⟩=>⟨ob,e⟩
 | .ins _ _ _,⟨_,_,_,e,_⟩=>⟨_,e⟩
 | .own _,x=>x
 | .xd _,⟨_,⟨ob,_,_,e,_⟩,_⟩=>⟨ob,e⟩
 | .met _ _,e=>⟨_,e⟩
 | .rng _ _,⟨_,_,_,e⟩=>⟨_,e⟩
 | .frz _ _,⟨e,_⟩=>⟨_,e⟩
 | .tbl _,e=>⟨_,e⟩
 | .ext _,⟨_,e,_⟩=>e
theorem apart{P:Program}{w:World}{H:Hp}{B h:Heap}{l:List Env}{e:Addr}{c a0:Value}(hok:HOk P w H B)(fl:Heap.FlyingW B l e c a0 h):H e=none:=by
 cases q:H e with
 |none=>rfl
 |some o=>
  obtain⟨ob,z⟩:=Zh1 (hok e o q);have n:=fl.2.1;rw[z] at n
  cases n
end L3
namespace L3
open PySem PySem.Spec PyProof.Rows L2 PySem.W PySem.Calls
section
variable {P:Program} {w:World} {K:Frag} {mg:Str->Option Value} {base:Heap} {N:List Str} {qual:Str} {scope:Scope} {f:Addr} {cdv:Value} {A:Around} {outer:List Env} {s₀:Shared} {H₀:Hp} {E:XK} {CX:CXT}
def Zfo(K:Frag)(C:Addr)(iy i:Nat)(sp:Sp)(t:TA)(ts:TS):TS:=fun D σ H=>t σ H fun vs H1=>sp vs H1 (fun v H2=>D.nx (σ.set iy (some v)) H2) (fun c d H2=>∀e,H2 e=none->∃B,c=.ref B/\exmOne K (.ref B) (.ref C)=some true/\ts (ZhU D i) (σ.set i (some (.ref e))) (upd H2 e (XO e B d)))
theorem ZhW{X:Cx}(eX:X=Yh CX P w K mg base N qual scope f cdv A outer s₀ H₀ E){C:Addr}{iy i k:Nat}{fn cn n y:Str}{ps:List Str}{sp:Sp}{t:TA}{ts:TS}{p py np cpos apos hpos pos:Pos}{e1:PySem.Expr}{es:List PySem.Expr}{b0:Stmt}{suite:List Stmt}{rest:List ExceptHandler}{EE:Value->Shared->Prop}
  (c:Cal P w K mg base (CXr P w) k fn ps sp)(hr:Xl k X.A)(hgf:Gl X fn)(ha:PA X.nox (e1::es) t)(hN:X.N.Nodup)(hiy:X.N[iy]? =some y)(hy:X.env.scope.names.lookup y=some .local)(hgc:Gl X cn)(hm:mg cn=some (.ref C))(hi:X.N[i]? =some n)(hk:X.env.scope.names.lookup n=some .local)
  (hs:∀e,PSs (ZaC X e fun _ _=>False) (b0::suite) ts)(hsw:swapsWith (.Call (.Name fn p) (e1::es) [] cpos) (some (.Name y py)) apos.line X.env=pure false:=by rfl)(hd1:(fn==("__debug__":Str))=false:=by decide)(hd2:(cn==("__debug__":Str))=false:=by decide)
  (he:starEach (e1::es) X.env=(false,eval e1 X.env)::starEach es X.env:=by rfl)(hpl:(backTo cpos (starEach es X.env)).any (·.1)=false:=by rfl){pins:List (Addr×Obj)}{s:Shared}{σ:L2.St}{H:Hp}{D:ZbV}(I:L2.Inv X pins σ H s)(h:Zfo K C iy i sp t ts D σ H):
  wpAny (model X.prog X.w) X.A (exec (.Try [.Assign [.Name y py] (.Call (.Name fn p) (e1::es) [] cpos) apos] (.ExceptHandler (some (.Name cn np)) (some n) (b0::suite) hpos::rest) [] [] pos) X.env) (SP X pins D) EE s:=by
 subst eX;obtain⟨g,fd,hmg,hkp,hb,F⟩:=c.ex;refine wpAny_Try_except (wpAny_execs_cons ?_);refine wpAny_Assign_Name (wpAny_Call_Name_kw (XC I hgf hmg ?_ hd1)) hsw;refine PySem.W.callWith_K (h₀:=base) I.ok.mod.kin hkp (wpAny_mono (ha cpos pins s σ H _ (I.wish _) h) (fun us s1 z=> ?_) fun _ _ z=>z.elim) he hpl;obtain⟨vs,H1,I1,r1,q1⟩:=z;have I1:=I1.unwish;refine⟨I1.kIn, ?_⟩;have hl:us.length=ps.length:=by rw[<-r1.length];exact F.len _ _ _ _ q1
 have bd:=hb s1 us I1.kIn (by rw[List.append_nil];exact hl)
 rw[List.append_nil] at bd
 refine wpAny_call (codeAny_mono (F.run _ _ s1 H1 ⟨us,[]⟩ us vs _ _ hr I1.env0 bd r1 q1) fun r s2 z=> ?_);cases r with
 |ok fl=>
  cases fl with
  |ret u=>
   obtain⟨v,H2,I2,r2,q2⟩:=I1.after z;exact ZbU I2 hN hiy (.inl hy) r2 (fun s3 I3=>wpAny_execs_nil (wpAny_execs_nil ⟨_,H2,I3,q2⟩)) (.inr hy)
  |next=>exact False.elim z
  |brk=>exact False.elim z
  |cont=>exact False.elim z
 |error ev=>
  dsimp only [CR] at z
  refine Zkz (P:=P) (w:=w) I1 z fun e D2 a0 H2 B h2 d ee again fl hok new ⟨ob,_,k1,k2,_⟩ q2=> ?_;subst ee;obtain⟨B2,eb,mt,q3⟩:=q2 e (apart hok fl);cases eb;exact ZhV I.ok again fl I1 new (apart hok fl) ⟨ob,k1,k2⟩ hgc hm mt hN hi hk (hs _) q3 hd2
theorem Zfp{X:Cx}(eX:X=(Yh CX P w K mg base N qual scope f cdv A outer s₀ H₀ E).nox){C:Addr}{iy i k:Nat}{fn cn n y:Str}{ps:List Str}{sp:Sp}{t:TA}{ts:TS}{p py np cpos apos hpos pos:Pos}{e1:PySem.Expr}{es:List PySem.Expr}{b0:Stmt}{suite:List Stmt}{rest:List ExceptHandler}
  (c:Cal P w K mg base (CXr P w) k fn ps sp)(hr:Xl k X.A)(hgf:Gl X fn)(ha:PA X.nox (e1::es) t)(hN:X.N.Nodup)(hiy:X.N[iy]? =some y)(hy:X.env.scope.names.lookup y=some .local)(hgc:Gl X cn)(hm:mg cn=some (.ref C))(hi:X.N[i]? =some n)(hk:X.env.scope.names.lookup n=some .local)
  (hs:∀e,PSs (ZaC X e fun _ _=>False) (b0::suite) ts)(hsw:swapsWith (.Call (.Name fn p) (e1::es) [] cpos) (some (.Name y py)) apos.line X.env=pure false:=by rfl)(hd1:(fn==("__debug__":Str))=false:=by decide)(hd2:(cn==("__debug__":Str))=false:=by decide)
  (he:starEach (e1::es) X.env=(false,eval e1 X.env)::starEach es X.env:=by rfl)(hpl:(backTo cpos (starEach es X.env)).any (·.1)=false:=by rfl):
  PS X (.Try [.Assign [.Name y py] (.Call (.Name fn p) (e1::es) [] cpos) apos] (.ExceptHandler (some (.Name cn np)) (some n) (b0::suite) hpos::rest) [] [] pos) (Zfo K C iy i sp t ts):=by
 subst eX;intro pins s σ H D I h;refine wpAny_mono (ZhW rfl c hr hgf ha hN hiy hy hgc hm hi hk hs hsw hd1 hd2 he hpl (EE:=fun _ _=>False) I.unwish h) (fun fl s2 z=> ?_) fun _ _ z=>z.elim;cases fl with
 |next=>obtain⟨σ2,H2,I3,q3⟩:=z;exact⟨σ2,H2,I3.wish _,q3⟩
 |brk=>obtain⟨σ2,H2,I3,q3⟩:=z;exact⟨σ2,H2,I3.wish _,q3⟩
 |cont=>obtain⟨σ2,H2,I3,q3⟩:=z;exact⟨σ2,H2,I3.wish _,q3⟩
 |ret u=>obtain⟨v,σ2,H2,I3,r,q3⟩:=z;exact⟨v,σ2,H2,I3.wish _,r,q3⟩
end
end L3
namespace L3
open PySem PySem.Spec PyProof.Rows L2 PySem.W PySem.Calls
structure Jt (K:Frag) (D:Addr):Prop where
 ck:(kitCls K (.ref D) (.ref D)).isSome=true
 ga:findIn K (.ref D) "__getattribute__"=some (some (.builtin "BaseException.__getattribute__"))
 gt:findIn K (.ref D) "__getattr__"=some none
 cs:findIn K (.ref D) "__class__"=some (some (.builtin "object.__class__"))
 gg:specialIn K (.builtin "object.__class__") "__get__"=some (some (.builtin "getset_descriptor.__get__"))
 tk:takesIn K (.builtin "object.__class__")=some true
 mo:mroIn K D (.type "object")=some true
 mb:subIn K (.ref D) (.type "BaseException")=some true
theorem Jt.cl{K:Frag}{D:Addr}(Z:Jt K D):∃c d cd sl,K.lookup D=some ⟨c,d,.cls cd,sl⟩:=by
 have z:=Z.ck;simp only [kitCls] at z
 split at z
 ·rename_i q
  have q:=(Bool.and_eq_true_iff.mp q).1;unfold clsIn at q
  split at q
  ·rename_i h
   exact⟨_,_,_,_,h⟩
  ·cases q
 ·cases z
theorem Jt.find{K:Frag}{D:Addr}(Z:Jt K D)(od:Option Obj):findObj K D od "__class__"=some (.bind (.builtin "getset_descriptor.__get__") (.builtin "object.__class__")):=by
 obtain⟨c,d,cd,sl,h⟩:=Z.cl;have hc:clsIn K D=some cd:=by unfold clsIn;rw[h]
 simp[findObj,hc,Z.cs,Z.gg,Z.tk]
section
variable {prog:Program} {w:World} {A:Around} {E:Value->Shared->Prop} {s:Shared} {K:Frag} {x D:Addr} {ox:Obj} {od:Option Obj}
theorem Zh2{tk:Tok}{Q:Fin->Shared->Prop}(Z:Jt K D)(X:K.In s.heap)(I:InstAt s.heap x ox D od)(hq:Q (.done (.ret (.ref D))) s):wpAny (model prog w) A (Builtin.«object.__getattribute__» ⟨[.ref x,.str "__class__" tk],[]⟩) Q E s:=by
 obtain⟨h,g,d,t,os⟩:=s;refine wpAny_bind (wpAny_pure ?_);refine wpAny_bind (wpAny_pure ?_);refine wpAny_bind (I.type.at ?_);refine wpAny_bind ((looks_find X I (Z.find od)).at ?_);exact wpAny_bind (wpAny_holding (wpAny_call (class_get X I Z.mo (wpAny_pure hq))))
theorem ZhX:builtinKind "BaseException.__getattribute__"=some .slot:=by decide+kernel
theorem Zh3:splitId "BaseException.__getattribute__"=some ("BaseException","__getattribute__"):=by decide+kernel
theorem Zh4{M:Model}{nm:Value}{Q:Unit->Shared->Prop}(Z:Jt K D)(X:K.In s.heap)(I:InstAt s.heap x ox D od)(hq:Q () s):wpAny M A (checkBuiltinCall "BaseException.__getattribute__" ⟨[.ref x,nm],[]⟩) Q E s:=by
 have l0:Looks M s.heap (typeOf (.ref x)) (.ref D):=I.type;have l1:Looks M s.heap (isSubtype (.ref D) (.type "BaseException")) true:=looks_subIn X Z.mb;have l2:Looks M s.heap (isInstance (.ref x) (.type "BaseException")) true:=l0.andThen l1;exact @check_slot M A E s "BaseException.__getattribute__" "BaseException" "__getattribute__" (.ref x) [nm] [] Q ZhX Zh3 l2 (PySem.F.args_bexc_ga _ _) hq
theorem ZiS{tk:Tok}{fill:Bool}{Q:Value->Shared->Prop}(Z:Jt K D)(X:K.In s.heap)(I:InstAt s.heap x ox D od)(hq:Q (.ref D) s):wpAny (model prog w) A (getAttrByItsOwn (.ref x) (.str "__class__" tk) (.ref D) (.builtin "BaseException.__getattribute__") fill false) Q E s:=by
 obtain⟨h,g,d,t,os⟩:=s;have hook:Looks (model prog w) h (hookBefore (.ref D)) none:=looks_findIn X Z.gt;refine wpAny_bind (hook.at (wpAny_bind (wpAny_attempt (wpAny_holding ?_))));have called:wpAny (model prog w) A (call (.builtin "BaseException.__getattribute__") [.ref x,.str "__class__" tk]) (fun v s'=>wpAny (model prog w) A (handedOut v) Q E s') (fun _ _=>False) ⟨h,g,d,t,os⟩:=
  wpAny_call (codeAny_call_builtin PySem.F.attr_ValueError.ga.plain PySem.F.entry_bexc_ga (Zh4 (s:=⟨h,g,d,t,os⟩) Z X I (Zh2 (s:=⟨h,g,d,t,os⟩) Z X I (handed_on rfl hq))))
 exact wpAny_bind (wpAny_of_eq (PySem.F.attr_ValueError.ga.bind (.ref x)) (wpAny_mono called (fun _ _ z=>z) fun _ _ z=>z.elim))
theorem Zh5{Q:Option Value->Shared->Prop}(Z:Jt K D)(X:K.In s.heap)(I:InstAt s.heap x ox D od)(hq:Q (some (.ref D)) {s with toks:=s.toks+1}):wpAny (model prog w) A (getAttr? (.ref x) "__class__") Q E s:=by
 obtain⟨h,g,d,t,os⟩:=s;have its:Looks (model prog w) h (typeLookup (.ref D) "__getattribute__") (some (.builtin "BaseException.__getattribute__")):=looks_findIn X Z.ga;have by_:wpAny (model prog w) A (getAttrBy (.ref x) (.str "__class__" t) false) (fun v s'=>v=.ref D/\s'=⟨h,g,d,t+1,os⟩) (fun _ _=>False) ⟨h,g,d,t+1,os⟩:=
  wpAny_holding (wpAny_bind (I.type.at (wpAny_bind (its.at (ZiS (s:=⟨h,g,d,t+1,os⟩) Z X I ⟨rfl,rfl⟩)))))
 refine wpAny_bind (wpAny_mkText (wpAny_bind (wpAny_attempt (wpAny_mono by_ (fun v s' z=> ?_) fun _ _ z=>z.elim))));obtain⟨rfl,rfl⟩:=z;exact wpAny_pure hq
theorem ZhY(Z:Jt K D):KitX K (.ref x) (.ref D) (fun h=>∃ox od,InstAt h x ox D od) where
 ty:=fun _ _ _ ⟨_,_,I⟩=>I.type
 it:=fun _ _ X _=>by
  obtain⟨v,e⟩:=Option.isSome_iff_exists.mp Z.ck;exact(kit_cls X e).2.1
 ne:=fun _ _ _ _ _ _ X tup=>by
  obtain⟨c,d,cd,sl,e⟩:=Z.cl;refine beq_eq_false_iff_ne.mpr fun same=> ?_;cases same;cases(X _ _ e).symm.trans tup
 ca:=fun X ⟨_,_,I⟩ k=>Zh5 Z X I k
end
section
variable {X:Cx} {pins:List (Addr×Obj)} {σ:L2.St} {H:Hp} {s:Shared}
theorem ZiT{e D:Addr}(I:L2.Inv X pins σ H s)(h:H e=some (XO e D none)):∃ox od,InstAt s.heap e ox D od:=by
 obtain⟨⟨ob,e1,e2,e3,e4⟩,_⟩:=I.hok e _ h;exact⟨ob,none,⟨e1,e2,e4,by rw[e3];trivial⟩⟩
theorem ZX:ZbY X (.builtin "isinstance") (fun xs H Q=>∃e D y c b,xs=[.ref e,y]/\H e=some (XO e D none)/\Jt X.K D/\Zko y=some c/\kitOne X.K (.ref D) c=some b/\Q (.bl b) H):=by
 intro pins s σ H xs us Q I r h;obtain⟨e,D,y,c,b,rfl,he,Z,hy,hb,q⟩:=h;obtain⟨u,u2,rfl,rx,ry⟩:=Zkd r;cases rx;have ec:u2=c:=by
  cases y with
  |ty n=>cases hy;exact ry
  |ref a=>cases hy;exact ry
  |_=>cases hy
 subst ec;exact kia_one (ZhY Z) I.kIn (ZiT I he) hb (fun z=>nomatch z) fun tk=>⟨.bl b,H,I.tok _,rfl,q⟩
end
section
variable {X:Cx}
def ZeF:List PySem.Expr->Option (List Str)
 |[]=>some []
 | .Constant (.str x) _ _::r=>(ZeF r).map (x:: ·)
 |_=>none
theorem ZgD:∀{es:List PySem.Expr} {xs:List Str},ZeF es=some xs->PA X es (fun _ H Q=>Q (xs.map V.str) H)
 |[],xs,h=>by
  cases h;exact Zf
 | .Constant (.str x) k pos::r,xs,h=>by
  obtain⟨ys,e,rfl⟩:=Option.map_eq_some_iff.mp h;exact Za Zx (ZgD e) (by rfl)
theorem ZiU(xs:List Str){es:List PySem.Expr}{pos:Pos}(h:ZeF es=some xs):PE X (.List es pos) (Zkf fun _ H Q=>Q (xs.map V.str) H):=Yg (ZgD h)
end
theorem ZiV{es:List PySem.Expr}{p:Pos}{t:Option PySem.Expr}{n:Nat}{env:Env}:swapsWith (.List es p) t n env=pure false:=rfl
def ZcZ(es:Array DictEntry):Bool:=es.toList.all fun e=>match e.key with
 | .str _ _=>true
 |_=>false
theorem Za5{K:Frag}{N:Addr}{c:Value}{d:Option Addr}{es:Array DictEntry}{ep:Nat}{sl:Array (Option Value)}(h:K.lookup N=some ⟨c,d,.dict es ep,sl⟩)(e:ZcZ es=true):nsOkIn K N=true:=by
 unfold nsOkIn;rw[h];show es.all _=true;rw[<-Array.all_toList];exact e
theorem ZdP:bootBuiltins "ValueError"=some (.type "ValueError"):=by decide+kernel
end L3
namespace M1
open PySem.Builtin PySem.Builtin.Str PySem
theorem Zg7{x:Str}{c:Nat}(n:c∉cs x):Txt.split x ⟨#[c]⟩=[x]:=Zdg x c [x] (by simp) (fun p hp=>by rw[List.mem_singleton.mp hp];exact n) rfl
end M1
namespace L3
open PySem PySem.W PyProof.Rows
section
variable {n:Nat} {ans:Nat->Nat->Bool} {s:Shared}
end
end L3
namespace L3
open PySem
end L3
namespace L3
open PySem PySem.Spec PyProof.Rows L2
section
variable {P:Program} {w:World} (l b:Addr) (xs ys:Array Value) (n m:Nat) (d1 d2:Option Addr) (s1 s2:Array (Option Value)) (e c:Nat->Bool)
end
section
variable {P:Program} {w:World} {A:Around} {s:Shared} {l b:Addr} {xs ys:Array Value} {e c:Nat->Bool}
end
end L3
namespace L3
open PySem PySem.Spec PyProof.Rows L2 PySem.W PySem.Calls
section
variable {X:Cx} {pins:List (Addr×Obj)} {σ:L2.St} {H:Hp} {s:Shared} {A:Around}
end
end L3
namespace L3
open PySem PySem.Spec PyProof.Rows L2 PySem.W PySem.Calls
section
variable {prog:Program} {w:World} {A:Around} {E:Value->Shared->Prop} {s:Shared} {ks vs:List Value} {ans:Nat->Nat->Bool}
end
section
variable {X:Cx} {pins:List (Addr×Obj)} {σ:L2.St} {H:Hp} {s:Shared}
variable {k:Nat} {g:Addr} {fd:FuncData} {p:Str} {sp:Sp}
end
end L3
namespace L3
open PySem PySem.Spec PyProof.Rows L2 PySem.W PySem.Calls
section
variable {prog:Program} {w:World} {A:Around} {E:Value->Shared->Prop} {s:Shared} {vs:List Value} {ans:Nat->Nat->Bool}
end
section
variable {X:Cx} {pins:List (Addr×Obj)} {σ:L2.St} {H:Hp} {s:Shared}
end
end L3
namespace L3
open PySem PySem.Spec PyProof.Rows L2 PySem.W PySem.Calls
section
variable {X:Cx}
end
end L3
namespace L3
open PySem PySem.Spec PyProof.Rows L2
section
variable {X:Cx}
end
end L3
namespace M4
open PySem L3 M3
section
variable {α:Type} {lt:α->α->Bool}
end
end M4
namespace L3
open PySem PySem.Spec PyProof.Rows L2 PySem.W PySem.Calls
section
variable {X:Cx} {pins:List (Addr×Obj)} {σ:L2.St} {H:Hp} {s:Shared} {A:Around}
variable {k:Nat} {g:Addr} {fd:FuncData} {p:Str} {sp:Sp}
section
variable {prog:Program} {w:World} {B:Around} {R:Result->Shared->Prop} {it S:Addr} {key:Value} {c:Nat} {s:Shared}
end
end
end L3
namespace L3
open PySem PySem.Spec PyProof.Rows L2
section
variable {P:Program} {w:World} (l:Addr) (xs:Array Value) (n:Nat) (d1:Option Addr) (s1:Array (Option Value)) (y:Value) (e:Nat->Bool)
end
section
variable {X:Cx} {pins:List (Addr×Obj)} {σ:L2.St} {H:Hp} {s:Shared} {A:Around} {E:Value->Shared->Prop}
end
end L3
namespace L3
open PySem PySem.Spec PyProof.Rows L2 PySem.W PySem.Calls
section
variable {X:Cx}
end
end L3
namespace L3
open PySem PySem.Spec PyProof.Rows L2 PySem.W PySem.Calls
section
variable {X:Cx} {pins:List (Addr×Obj)} {σ:L2.St} {H:Hp} {s:Shared} {a:Addr} {kvs:List (Key×V)} {k:Key} {u:Value} {A:Around} {E:Value->Shared->Prop}
end
section
variable {X:Cx} {o e f:PySem.Expr} {apos cpos:Pos} {td ty tx:TE}
end
end L3
namespace L3
open PySem PySem.Spec PyProof.Rows L2
section
variable {X:Cx} {K:PySem.W.Frag}
end
end L3
namespace L3
open PySem PySem.Spec PyProof.Rows L2
section
variable {prog:Program} {w:World} {A:Around} {E:Value->Shared->Prop} {s:Shared}
section
variable {prog:Program} {w:World} {A:Around} {E:Value->Shared->Prop} {s:Shared}
end
end
section
variable {X:Cx} {pins:List (Addr×Obj)} {σ:L2.St} {H:Hp} {s:Shared}
end
end L3
namespace L3
open PySem PySem.Spec PyProof.Rows L2
section
variable {X:Cx}
end
end L3
namespace L3
open PySem PySem.Spec PyProof.Rows L2 PySem.W PySem.Calls
section
variable {X:Cx} {K:PySem.W.Frag}
end
section
variable {P:Program} {w:World} (l b:Addr) (xs ys:Array Value) (n m:Nat) (d1 d2:Option Addr) (s1 s2:Array (Option Value)) (e c:Nat->Bool)
end
section
variable {P:Program} {w:World} {A:Around} {s:Shared} {l b:Addr} {xs ys:Array Value} {e c:Nat->Bool}
end
section
variable {X:Cx} {pins:List (Addr×Obj)} {σ:L2.St} {H:Hp} {s:Shared} {A:Around}
end
section
variable {prog:Program} {w:World} {B:Around} {R:Result->Shared->Prop} {it S:Addr} {c:Nat} {s:Shared}
end
section
variable {X:Cx} {pins:List (Addr×Obj)} {σ:L2.St} {H:Hp} {s:Shared}
end
end L3
namespace L3
open PySem PySem.Spec PyProof.Rows L2
section
variable {X:Cx} {K:PySem.W.Frag}
end
end L3
namespace L3
open PySem PySem.Spec PyProof.Rows L2 PySem.W PySem.Calls
section
variable {X:Cx} {pins:List (Addr×Obj)} {σ:L2.St} {H:Hp} {s:Shared} {A:Around}
end
section
variable {prog:Program} {w:World} {B:Around} {R:Result->Shared->Prop} {it S:Addr} {c:Nat} {s:Shared}
end
section
variable {X:Cx} {pins:List (Addr×Obj)} {σ:L2.St} {H:Hp} {s:Shared}
end
end L3
namespace L3
open PySem PySem.Spec PyProof.Rows L2
section
variable {X:Cx} {K:PySem.W.Frag}
end
end L3
namespace L3
open PySem PySem.Spec PyProof.Rows L2
section
variable {X:Cx} {pins:List (Addr×Obj)} {σ:L2.St} {H:Hp} {s:Shared} {h':Heap}
end
section
variable {X:Cx} {pins:List (Addr×Obj)} {σ:L2.St} {H:Hp} {s:Shared}
end
end L3
namespace L3
open PySem PySem.Spec PyProof.Rows L2 PySem.W PySem.Calls
section
variable {X:Cx} {pins:List (Addr×Obj)} {σ:L2.St} {H:Hp} {s:Shared} {α:Type} {lt:α->α->Bool} {R:Hp->α->V->Prop} {d:α}
end
section
variable {X:Cx} {pins:List (Addr×Obj)} {σ:L2.St} {H:Hp} {s:Shared} {α:Type} {lt:α->α->Bool} {R:Hp->α->V->Prop} {d:α} {k:Nat} {g:Addr} {fd:FuncData} {p:Str} {sp:Sp}
end
end L3
namespace L3
open PySem PySem.Spec PyProof.Rows L2
end L3
namespace L3
open PySem PySem.Spec PyProof.Rows L2
end L3
namespace L3
open PySem PySem.Spec PyProof.Rows L2 PySem.W PySem.Calls
end L3
namespace L3
open PySem PySem.Spec PyProof.Rows L2 PySem.W PySem.Calls
section
variable {X:Cx} {pins:List (Addr×Obj)} {σ:L2.St} {H:Hp} {s:Shared} {A:Around}
end
end L3
namespace L3
open PySem PySem.Spec PyProof.Rows L2 PySem.W PySem.Calls
end L3
namespace L3
open PySem PySem.Spec PyProof.Rows L2 PySem.W PySem.Calls
section
variable {X:Cx}
end
section
variable {X:Cx} {K:PySem.W.Frag}
end
end L3
namespace L3
open PySem PySem.Spec PyProof.Rows L2 PySem.W PySem.Calls
section
variable {P:Program} {w:World} {K:Frag} {mg:Str->Option Value} {base:Heap} {N:List Str} {qual:Str} {scope:Scope} {f:Addr} {cdv:Value} {A:Around} {outer:List Env} {s₀:Shared} {H₀:Hp} {E:XK} {CX:CXT}
end
section
variable {X:Cx}
def ZjM:Value->Bool
 | .bool b=>b==true
 |_=>false
theorem Zfq:∀{bs:List Bool} {us:List Value},ZZ (bs.map V.bl) us->us=bs.map Value.bool
 |[],_,.nil=>rfl
 |_::_,_,.cons r t=>by rw[Zfq t];cases r;rfl
def ZjN:V->List V->Hp->VK->Prop:=fun x vs H Q=>∃(l:Addr) (bs:List Bool),x=.ref l/\vs=[.bl true]/\H l=some (.lst (bs.map V.bl))/\Q (.int ((bs.count true:Nat):Int)) H
theorem Zh6(bs:List Bool):(bs.map Value.bool).countP ZjM=bs.count true:=by
 induction bs with
 |nil=>rfl
 |cons b bs ih=>
  rw[List.map_cons,List.countP_cons,List.count_cons,ih]
  rfl
theorem ZjO{bs:List Bool}{A:Around}{s:Shared}:∀y,y∈(bs.map Value.bool).toArray->SeqAt.EqAt A s y (.bool true) (ZjM y):=fun y hy=>by
 obtain⟨b,_,rfl⟩:=List.mem_map.mp (List.mem_toArray.mp hy);exact SeqAt.EqAt.bool_bool b true
theorem ZhZ:MtM X "list.count" ZjN:=by
 intro pins s σ H x vs v us Q I rx rv h;obtain⟨l,bs,rfl,rfl,hH,q⟩:=h;cases rx;obtain⟨u,rfl,ru⟩:=rv.one;cases ru;obtain⟨z,its,n,r,hl,e⟩:=I.lstM hH;obtain rfl:=Zfq r;refine call_meets F.slot_list_count ⟨_,e,rfl⟩ F.entry_list_count (F.args_list_count_2 _ _) (SeqAt.list_countAt l (bs.map Value.bool).toArray n none #[] (.bool true) ZjM) ⟨e,ZjO, ?_⟩;rw[show(bs.map Value.bool).toArray.toList=bs.map Value.bool from rfl,Zh6]
 exact⟨.int _,H,I.kept (t':=s.toks+1) (fun _ _ e=>e),⟨_,rfl⟩,q⟩
end
end L3
namespace L3
open PySem PySem.Spec PyProof.Rows L2 PySem.W PySem.Calls
section
variable {X:Cx} {pins:List (Addr×Obj)} {σ:L2.St} {H:Hp} {s:Shared} {A:Around}
end
end L3
namespace L3
open PySem PySem.Spec PyProof.Rows L2 PySem.W PySem.Calls
theorem ZeG{o:Obj}{x:Value}(h:Za4 o=some x):∃vs,o.data=.fields vs/\vs[2]? =some x:=by
 unfold Za4 at h
 split at h
 ·rename_i vs e;exact⟨vs,e,h⟩
 ·cases h
theorem ZbJ{M:Model}{A:Around}{E:Value->Shared->Prop}{s:Shared}{Q:Value->Shared->Prop}{a:Addr}{o:Obj}{x:Value}(ho:s.heap.get? a=some o)(h2:Za4 o=some x)(h:Q x s):wpAny M A (field (.ref a) 2) Q E s:=by
 obtain⟨vs,hd,hi⟩:=ZeG h2;exact wpAny_field ho hd hi h
theorem ZdQ:plainId "proto.unchain"=true:=by decide+kernel
theorem Zbz:entryFor table "proto.unchain"=some Builtin.«proto.unchain»:=entryFor_of_fast (by kernel_rfl)
section
variable {w:World} {s:Shared} {A:Around} {prog:Program}
theorem ZiW{R:Result->Shared->Prop}{e:Addr}{p:Nat->Addr}{n:Nat}(hp:∀i,i<=n->∃ob,s.heap.get? (p i)=some ob/\Za4 ob=some (if i=n then .none else .ref (p (i+1))))(ne:∀i,i<=n->p i≠e)(q:R (.ok (.ret .none)) s):
  ∀(m j i:Nat) (tg:Bool),n-j=m->j<=n->i<=j->codeAny (model prog w) A (.builtin "proto.unchain" ⟨[.ref e,.ref (p j),.ref (p i),.bool tg],[]⟩) R s:=by
 intro m
 induction m with
 |zero=>
  intro j i tg hm hj hi;obtain rfl:j=n:=by omega
  obtain⟨ob,e1,e2⟩:=hp j hj;rw[if_pos rfl] at e2
  refine codeAny_builtin Zbz ?_;unfold Builtin.«proto.unchain»;refine wpAny_bind (ZbJ e1 e2 ?_);rw[if_pos (by decide)];exact wpAny_pure q
 |succ m ih=>
  intro j i tg hm hj hi;obtain⟨ob,e1,e2⟩:=hp j hj;rw[if_neg (by omega)] at e2
  refine codeAny_builtin Zbz ?_;unfold Builtin.«proto.unchain»;refine wpAny_bind (ZbJ e1 e2 ?_);rw[if_neg (show¬(Value.ref (p (j+1))==Value.none)=true from fun z=>by cases(eq_of_beq z)),if_neg (fun z=>ne (j+1) (by omega) (by have:=eq_of_beq z;injection this))]
  refine wpAny_ite ?_
  split
  ·exact wpAny_bind (wpAny_rule (wpAny_pure q))
  ·have go:∀k,k<=j+1->wpAny (model prog w) (A.under (Code.builtin "proto.unchain" {pos:=[Value.ref e,Value.ref (p j),Value.ref (p i),Value.bool tg]})) (again (Code.builtin "proto.unchain" {pos:=[Value.ref e,Value.ref (p (j+1)),Value.ref (p k),Value.bool !tg]})) (fun fin s'=>
     match fin with
     |Fin.done f=>R (Except.ok f) s'
     |Fin.again c'=>c'.quiet=true/\codeAny (model prog w) A c' R s') (fun e s'=>R (Except.error e) s') s:=fun k hk=>wpAny_pure ⟨plainId_quiet ZdQ _,ih (j+1) k (!tg) (by omega) (by omega) hk⟩
   cases tg with
   |true=>
    obtain⟨ob2,e3,e4⟩:=hp i (by omega);rw[if_neg (by omega)] at e4
    exact wpAny_bind (ZbJ e3 e4 (go (i+1) (by omega)))
   |false=>exact wpAny_bind (wpAny_pure (go i (by omega)))
end
theorem Zi0{h:Heap}:∀{l:List (Addr×Obj)} {v:Value},ChL h l v->v=.none\/∃(p:Nat->Addr) (n:Nat),v=.ref (p 0)/\(∀i,i<=n->∃ob,h.get? (p i)=some ob/\Za4 ob=some (if i=n then .none else .ref (p (i+1))))
 |[],_,z=> .inl z
 |(a,o)::r,_,⟨rfl,e1,x,e2,z⟩=>by
  rcases Zi0 z with rfl|⟨p,n,rfl,k⟩
  ·exact .inr ⟨fun _=>a,0,rfl,fun i hi=>⟨o,e1,by rw[if_pos (by omega)];exact e2⟩⟩
  ·refine .inr ⟨fun i=>match i with|0=>a|i+1=>p i,n+1,rfl,fun i hi=> ?_⟩;cases i with
   |zero=>exact⟨o,e1,by rw[if_neg (by omega)];exact e2⟩
   |succ i=>
    obtain⟨ob,e3,e4⟩:=k i (by omega);refine⟨ob,e3, ?_⟩;rw[e4]
    by_cases j:i=n
    ·rw[if_pos j,if_pos (by omega)]
    ·rw[if_neg j,if_neg (by omega)]
section
variable {w:World} {s:Shared} {A:Around} {prog:Program}
theorem Zfr{α:Type}{E:Value->Shared->Prop}{e c:Addr}{ob:Obj}{vs:Array Value}{Q:α->Shared->Prop}{h0:Heap}(hh:A.handled=some (.ref c))(he:s.heap.get? e=some ob)(hd:ob.data=.fields vs)(h2:2<vs.size)
  {l:List (Addr×Obj)}(ch:ChL h0 l (.ref c))(new:h0.get? e=none)(kp:∀b o,h0.get? b=some o->s.heap.get? b=some o)(h:E (.ref e) {s with heap:=s.heap.update e (Obj.mapFields (·.setIfInBounds 2 (.ref c)))}):wpAny (model prog w) A (raiseNew (.ref e):Sem α) Q E s:=by
 rcases Zi0 ch with z|⟨p,n,z,hp⟩
 ·cases z
 cases z;have ne:∀i,i<=n->p i≠e:=fun i hi z=>by
  obtain⟨ob,e1,_⟩:=hp i hi;rw[z,new] at e1
  cases e1
 unfold raiseNew;refine wpAny_bind (wpAny_handled (hh.symm▸?_));show wpAny (model prog w) A (if(Value.ref (p 0) !=Value.ref e)=true then _ else _) Q E s;rw[if_pos (by rw[bne_iff_ne];intro y;injection y with y;exact ne 0 (Nat.zero_le _) y)]
 refine wpAny_bind (wpAny_holding (wpAny_runValue (ZiW (fun i hi=> ?_) ne ?_ n 0 0 false rfl (Nat.zero_le _) (Nat.le_refl _))))
 ·obtain⟨ob,e1,e2⟩:=hp i hi;exact⟨ob,kp _ _ e1,e2⟩
 ·exact wpAny_bind (wpAny_setField (a:=e) he hd h2 (wpAny_throw h))
end
structure Zfs (h h':Heap) (e D c:Addr):Prop where
 keeps:∀(b:Addr) (ob:Obj),h.get? b=some ob->h'.get? b=some ob
 new:h.get? e=none
 there:∃t,h'.get? e=some {cls:=.ref D,data:=.fields #[.ref t,.none,.ref c,.none,.bool true,.none]}
theorem Zg8{P:Program}{w:World}{A:Around}{E:Value->Shared->Prop}{s:Shared}{env:Env}{x:Str}{D c:Addr}{mg:Str->Option Value}{make cause:Sem Value}{Q:Flow->Shared->Prop}(held:A.handled=some (.ref c))(nothing:∀s R,R Value.none s->wpAny (model P w) A cause R E s)
  (h:wpAny (model P w) A make (fun v s1=>∃h0 e us,v=.ref e/\ZcM x D mg s1.heap/\Heap.MadeExcOf h0 s1.heap e (.ref D) us/\(∃l,ChL h0 l (.ref c))/\∀h',Zfs h0 h' e D c->E (.ref e) {s1 with heap:=h'}) E s):wpAny (model P w) A (raiseStmt env (some make) (some cause)) Q E s:=by
 unfold raiseStmt;refine wpAny_bind (thn h fun v s1 z=> ?_);obtain⟨h0,e,us,rfl,own,mk,⟨l,ch⟩,q⟩:=z;obtain⟨bm,_,_,_,_,_,_,_,_,_,_,_,_,_,_,_,_,at_,_,_,above⟩:=own.obj;obtain⟨t,e0,_,_⟩:=mk.there;have exc:(Value.ref D::bm).contains (.type "BaseException")=true:=List.contains_iff_mem.mpr (List.mem_cons_of_mem _ (List.contains_iff_mem.mp (above.hasType PySem.F.excBase_ValueError.hasBase)));have apart:e≠D:=fun y=>by rw[y,at_] at e0;cases e0
 refine wpAny_bind (wpAny_holding (nothing _ _ (wpAny_bind (wpAny_pure ?_))));cases s1 with|mk h1 gs dr tk os=>
 dsimp only at e0 at_ mk q
 generalize eo2:h1.update e (Obj.mapFields fun fs=>fs.setIfInBounds 3 Value.none)=h2;generalize eo3:h2.update e (Obj.mapFields fun fs=>fs.setIfInBounds 4 (Value.bool true))=h3;have e2:=eo2▸Heap.get?_update_self (Obj.mapFields fun fs=>fs.setIfInBounds 3 Value.none) e0 rfl;have e3:=eo3▸Heap.get?_update_self (Obj.mapFields fun fs=>fs.setIfInBounds 4 (Value.bool true)) e2 rfl;have same:∀b,b≠e->h3.get? b=h1.get? b:=fun b n=>by rw[<-eo3,Heap.get?_update_other _ _ (Ne.symm n),<-eo2,Heap.get?_update_other _ _ (Ne.symm n)]
 have at3:=(same D (Ne.symm apart)).trans at_;have old:∀b o,h0.get? b=some o->b≠e:=fun b o hb y=>by rw[y,mk.new] at hb;cases hb
 repeat (first|with_reducible refine wpAny_loadPart_at e0 ?_|with_reducible refine wpAny_loadPart_at at_ ?_|with_reducible refine wpAny_loadPart_at at3 ?_|(with_reducible refine wpAny_isSubtype_exc at_ ?_;rw[exc])|(with_reducible refine wpAny_isSubtype_exc at3 ?_;rw[exc])|wp_step|(rw[eo2])|(rw[eo3]))
 refine Zfr held e3 rfl (by simp) ch mk.new (fun b o hb=>(same b (old b o hb)).trans (mk.keeps b o hb)) (q _ ⟨fun b o hb=> ?_,mk.new,t,Heap.get?_update_self _ e3 rfl⟩);exact(Heap.get?_update_other _ _ (Ne.symm (old b o hb))).trans ((same b (old b o hb)).trans (mk.keeps b o hb))
theorem ChL.keeps{h h':Heap}(k:∀b o,(∃x,Za4 o=some x)->h.get? b=some o->h'.get? b=some o):∀{l:List (Addr×Obj)} {v:Value},ChL h l v->ChL h' l v
 |[],_,z=>z
 |(a,o)::r,_,⟨e0,e1,x,e2,z⟩=>⟨e0,k a o ⟨x,e2⟩ e1,x,e2,ChL.keeps k z⟩
theorem ChL.mem{h:Heap}:∀{l:List (Addr×Obj)} {v:Value},ChL h l v->∀p∈l,h.get? p.1=some p.2/\∃x,Za4 p.2=some x
 |[],_,_,p,hp=>nomatch hp
 |(a,o)::r,_,⟨e0,e1,x,e2,z⟩,p,hp=>by
  rcases List.mem_cons.mp hp with rfl|hp
  ·exact⟨e1,x,e2⟩
  ·exact ChL.mem z p hp
theorem ChL.moved{h h':Heap}:∀{l:List (Addr×Obj)} {v:Value},ChL h l v->(∀p∈l,h'.get? p.1=some p.2)->ChL h' l v
 |[],_,z,_=>z
 |(a,o)::r,_,⟨e0,e1,x,e2,z⟩,k=>⟨e0,k (a,o) (List.mem_cons_self ..),x,e2,z.moved fun p hp=>k p (List.mem_cons_of_mem _ hp)⟩
theorem Zft{M:Model}{A:Around}{E:Value->Shared->Prop}{s:Shared}{B:Heap}{l:List Env}{e L:Addr}{cls a0:Value}{Q:Unit->Shared->Prop}(hh:Heap.HeldW B l e cls a0 L s.heap)
  (hQ:∀h',Heap.HeldW B l e cls a0 L h'->s.heap.UpToSlots h'->Q () {s with heap:=h'}):wpAny M A (setFlight (.ref e) (some L)) Q E s:=by
 obtain⟨k1,k2,k3,oe,vs,T,oT,ts,e0,hc,ed,e1,hnT,hTe,hT,hdT,h3⟩:=hh;have sz:3<ts.size:=(Array.getElem?_eq_some_iff.mp h3).1;have oth:∀b,b≠T->(s.heap.update T (Obj.mapFields (·.setIfInBounds 3 (rawInt L)))).get? b=s.heap.get? b:=fun b n=>Heap.get?_update_other _ _ (Ne.symm n);have nrec:∀b o,s.heap.get? b=some o->(∀vs,o.data≠.fields vs)->b≠T:=fun b o hb hn z=>by
  rw[z,hT] at hb
  cases hb;exact hn ts hdT
 unfold setFlight;refine wpAny_bind (wpAny_field e0 ed e1 ?_);rw[if_pos (by rw[bne_iff_ne];intro z;cases z)]
 refine wpAny_setField hT hdT sz (hQ _ ⟨fun b o hb=> ?_,k2, ?_, ?_⟩ fun b o hb hn=>⟨o.slots,(oth b (nrec b o hb hn)).trans hb⟩)
 ·exact(oth b fun z=>by rw[z,hnT] at hb;cases hb).trans (k1 b o hb)
 ·exact k3.of_keeps fun b o hb hn=>⟨o,(oth b (nrec b o hb hn)).trans hb,rfl⟩
 ·exact⟨oe,vs,T,_,_,(oth e (Ne.symm hTe)).trans e0,hc,ed,e1,hnT,hTe,Heap.get?_update_self _ hT (Obj.isFreed_of_fields (Obj.data_mapFields hdT _)),Obj.data_mapFields hdT _,by rw[Array.getElem?_setIfInBounds_self_of_lt sz];rfl⟩
section
variable {P:Program} {w:World} {K:Frag} {mg:Str->Option Value} {base:Heap} {N:List Str} {qual:Str} {scope:Scope} {f:Addr} {cdv:Value} {A:Around} {outer:List Env} {s₀:Shared} {H₀:Hp} {E:XK}
theorem ZcN{pins:List (Addr×Obj)}{σ:L2.St}{H:Hp}{s:Shared}{h':Heap}{e D c:Addr}{l:List (Addr×Obj)}(I:L2.Inv (Yh (CXr P w) P w K mg base N qual scope f cdv A outer s₀ H₀ E) pins σ H s)
  (hx:Zfs s.heap h' e D c)(ch:ChL s.heap l (.ref c))(fr:∀p∈l,H p.1=none)(q:E (.ref D) none H):
  notedBy (model P w) ((Yh (CXr P w) P w K mg base N qual scope f cdv A outer s₀ H₀ E).A.mark (some (.ref c))) (Yh (CXr P w) P w K mg base N qual scope f cdv A outer s₀ H₀ E).env (cameBackBy (model P w) (Yh (CXr P w) P w K mg base N qual scope f cdv A outer s₀ H₀ E).A (Yh (CXr P w) P w K mg base N qual scope f cdv A outer s₀ H₀ E).env (Yh (CXr P w) P w K mg base N qual scope f cdv A outer s₀ H₀ E).xe) (.ref e) {s with heap:=h'}:=by
 have neL:∀b o,s₀.heap.get? b=some o->b≠s₀.heap.objs.size:=fun b o e=>Nat.ne_of_lt (Heap.lt_size e);have nst:∀b o,s₀.heap.get? b=some o->b∉frs outer->b∉frs (Yh (CXr P w) P w K mg base N qual scope f cdv A outer s₀ H₀ E).stack:=fun b o eb nb hb=>by
  rcases List.mem_cons.mp (I.stkSub b hb) with z|z
  ·exact neL b o eb z
  ·exact nb z
 have hin:∀env∈(Yh (CXr P w) P w K mg base N qual scope f cdv A outer s₀ H₀ E).stack,∀a,env.frame=some a->a∈frs (Yh (CXr P w) P w K mg base N qual scope f cdv A outer s₀ H₀ E).stack:=fun env he a ha=>List.mem_filterMap.mpr ⟨env,he,ha⟩;obtain⟨t,he⟩:=hx.there;have en:(hideAll s.heap (frs (Yh (CXr P w) P w K mg base N qual scope f cdv A outer s₀ H₀ E).stack)).get? e=none:=by
  cases z:(hideAll s.heap (frs (Yh (CXr P w) P w K mg base N qual scope f cdv A outer s₀ H₀ E).stack)).get? e with
  |none=>rfl
  |some o=>
   have:=of_hideAll _ z;rw[hx.new] at this
   cases this
 have ff:=(funFrames_hide I.stack hin).of_keeps fun b o hb _=>⟨o,hx.keeps b o hb,rfl⟩
 have st:(hideAll s.heap (frs (Yh (CXr P w) P w K mg base N qual scope f cdv A outer s₀ H₀ E).stack)).StaysIn h':=fun b o z=>hx.keeps b o (of_hideAll _ z);have note:wpAny (model P w) ((Yh (CXr P w) P w K mg base N qual scope f cdv A outer s₀ H₀ E).A.mark (some (.ref c))) (noteFrame (.ref e) (Yh (CXr P w) P w K mg base N qual scope f cdv A outer s₀ H₀ E).env) (fun _ s2=>∃h4,s2={s with heap:=h4}/\Heap.HeldW (hideAll s.heap (frs (Yh (CXr P w) P w K mg base N qual scope f cdv A outer s₀ H₀ E).stack)) (Yh (CXr P w) P w K mg base N qual scope f cdv A outer s₀ H₀ E).stack e (.ref D) (.ref t) s₀.heap.objs.size h4/\h'.UpToSlots h4) (fun _ _=>False) {s with heap:=h'}:=by
  unfold noteFrame;refine wpAny_bind (wpAny_field (x:=.none) he rfl rfl ?_);rw[if_neg (show¬(Value.none !=Value.none)=true by decide)];exact wpAny_entryW (I.ok.frames) ff rfl he st en rfl (show 1<6 by decide) rfl fun h4 ⟨x1,x2,x3,x4⟩=>⟨h4,rfl,⟨x1,en,x2,x3⟩,x4⟩
 refine wpAny_mono (Kd.any (ZeD _ _) note) (fun _ s2 z=> ?_) fun _ _ z=>z.1.elim;obtain⟨⟨h4,rfl,held,up4⟩,dk4⟩:=z;obtain⟨ob4,e4,d4,f4⟩:=dk4 e _ he;obtain⟨oe,vs,T,oT,ts,he4,hc4,hd4,h14,_⟩:=held.2.2.2;refine wpAny_bind (wpAny_field he4 hd4 h14 ?_);rw[if_neg (fun z=>by cases(eq_of_beq z))];refine wpAny_mono (Kd.any (Zaw _ _) (Zft (Q:=fun _ s2=>∃h5,s2={s with heap:=h5}/\Heap.HeldW (hideAll s.heap (frs (Yh (CXr P w) P w K mg base N qual scope f cdv A outer s₀ H₀ E).stack)) (Yh (CXr P w) P w K mg base N qual scope f cdv A outer s₀ H₀ E).stack e (.ref D) (.ref t) s₀.heap.objs.size h5/\h4.UpToSlots h5) held fun h5 x y=>⟨h5,rfl,x,y⟩)) (fun _ s3 z=> ?_) fun _ _ z=>z.1
 obtain⟨⟨h5,rfl,held5,up5⟩,dk5⟩:=z;obtain⟨ob5,e5,d5,f5⟩:=dk5 e _ e4;have leav:wpAny (model P w) (Yh (CXr P w) P w K mg base N qual scope f cdv A outer s₀ H₀ E).A (leaving (Yh (CXr P w) P w K mg base N qual scope f cdv A outer s₀ H₀ E).env (.ref e)) (fun _ s2=>∃h6,s2={s with heap:=h6}/\Heap.FlyingW (hideAll s.heap (frs (Yh (CXr P w) P w K mg base N qual scope f cdv A outer s₀ H₀ E).stack)) outer e (.ref D) (.ref t) h6/\h5.UpToSlots h6) (fun _ _=>False) {s with heap:=h5}:=by
  unfold leaving;refine wpAny_bind (wpAny_noteFrame_againW rfl held5.2.2.2 (wpAny_landsW held5 fun h6 fl up6=> ?_));obtain⟨k1,k2,⟨_,_,k3⟩,k4⟩:=fl;exact⟨h6,rfl,⟨k1,k2,k3,k4⟩,up6⟩
 refine wpAny_mono (Kd.any (ZbI _ _) leav) (fun _ s4 z=> ?_) fun _ _ z=>z.1.elim;obtain⟨⟨h6,rfl,fl,up6⟩,dk6⟩:=z;obtain⟨ob6,e6,d6,f6⟩:=dk6 e _ e5;have ups:=(up4.trans up5).trans up6;have nofr:∀b o,(∃x,Za4 o=some x)->s.heap.get? b=some o->b∉frs (Yh (CXr P w) P w K mg base N qual scope f cdv A outer s₀ H₀ E).stack:=fun b o ⟨x,hx2⟩ hb hm=>by
  obtain⟨_,o2,e2,hd⟩:=I.stack.mem hm;rw[hb] at e2
  cases e2;obtain⟨vs,e3,_⟩:=ZeG hx2;exact hd vs e3
 refine⟨e,D,_,H,_,rfl,I.os,I.bare,fl,⟨fun b o eb nb hb=>⟨hideAll_get _ (I.base.keep b o eb nb hb (by intro z;cases z)) (nst b o eb hb),I.base.free b o eb nb (by intro z;cases z)⟩,fun b o eb nb hb=> ?_,fun b o eb hb=> ?_,I.base.tups,I.base.frzs,I.base.tbls⟩,
  fun b u eb=>(I.hok b u eb).stay (fun c v hc z=>hideAll_get _ z fun hm=> ?_) (fun _ z=>z) (fun _ _ z=>z),none,.ref c,⟨ob6,e6,(d6.trans d5).trans d4,(f6.trans f5).trans f4⟩,⟨l,ch.keeps fun b o hf hb=>hideAll_get _ hb (nofr b o hf hb),fr⟩,q⟩
 ·obtain⟨sl,e1⟩:=I.base.slot b o eb nb hb (by intro z;cases z)
  obtain⟨_,o2,e2,hd⟩:=I.ok.funs.mem hb;have e2:s₀.heap.get? b=some o2:=e2;rw[eb] at e2
  cases e2;obtain⟨sl2,e3⟩:=ups b _ (hx.keeps b _ e1) hd;exact⟨⟨sl2,e3⟩,I.base.free b o eb nb (by intro z;cases z)⟩
 ·obtain⟨o',e1⟩:=I.base.there b o eb (by intro z;cases z)
  exact⟨o',hideAll_get _ e1 (nst b o eb hb)⟩
 ·have nn:=I.stkFree c hm;rcases hc with rfl|hc
  ·rw[nn] at eb;cases eb
  ·rw[nn] at hc;cases hc
theorem Zfu{X:Cx}(eX:X=Yh (CXr P w) P w K mg base N qual scope f cdv A outer s₀ H₀ E){pins:List (Addr×Obj)}{σ:L2.St}{H:Hp}{s:Shared}{B h:Heap}{l:List Env}{e C D D':Addr}{a0:Value}{cn x:Str}{np np2 cpos zpos rpos hpos:Pos}{kk:Nat}{e1:PySem.Expr}{es:List PySem.Expr}{rest:List ExceptHandler}{t:TA}{Q:Flow->Shared->Prop}
  (again:∀(h5:Heap) (tk:Nat),B.StaysIn h5->h.UpToSlots h5->L2.Inv X pins σ H {s with heap:=h5,toks:=tk})(fl:Heap.FlyingW B l e (.ref D) a0 h)(free:H e=none)(dk:∃ob cx,h.get? e=some ob/\Za4 ob=some cx/\Chn H B cx)(hg:Gl X cn)(hm:X.mg cn=some (.ref C))(hx:exmOne X.K (.ref D) (.ref C)=some true)
  (O:ZcM x D' X.mg X.base)(hgx:Gl X x)(ha:PA (ZaC X (.ref e) fun _ _=>False) (e1::es) t)(q:t σ H fun vs H1=>vs.length<=sizeLine/\E (.ref D') none H1)(hdb:(cn==("__debug__":Str))=false:=by decide)(hdx:(x==("__debug__":Str))=false:=by decide)
  (hs:starEach (e1::es) X.env=(false,eval e1 X.env)::starEach es X.env:=by rfl)(hpl:(backTo cpos (starEach es X.env)).any (·.1)=false:=by rfl):
  wpAny (model X.prog X.w) X.A (handleBy (.ref e) X.env (.ExceptHandler (some (.Name cn np)) none [.Raise (some (.Call (.Name x np2) (e1::es) [] cpos)) (some (.Constant .none kk zpos)) rpos] hpos::rest)) Q X.xe {s with heap:=h}:=by
 have I0:=again h s.toks fl.1 (fun _ o z _=>⟨o.slots,z⟩);refine wpAny_handleBy_cons (codeAny_handlers_test (XC (ZcY (e:=.ref e) (E:=fun _ _=>False) I0) hg hm ?_ hdb)) (fun z=>nomatch z);refine exm_one I0.kIn (ZhT fl.there) hx _ _ _ _ (fun _ _ z=>z) ?_;refine codeAny_handlers_suite (wpAny_mono (Kd.any (Zaw _ _) (lands_againW (Q:=fun _ s2=>∃h6,s2={s with heap:=h6}/\Heap.FlyingW B l e (.ref D) a0 h6/\h.UpToSlots h6) fl fun h6 fl6 sm6=>⟨h6,rfl,fl6,sm6⟩)) (fun _ s2 z=> ?_) fun _ _ z=>z.1)
 obtain⟨⟨h6,rfl,fl6,sm6⟩,dk6⟩:=z;obtain⟨ob,cx,b1,b2,cl,b3,b4⟩:=dk;obtain⟨ob6,g1,_,g2⟩:=dk6 e ob b1;have J:=again h6 s.toks fl6.1 sm6;have pinOk:∀p:Addr×Obj,h6.get? p.1=some p.2->(∃v,Za4 p.2=some v)->H p.1=none->h6.get? p.1=some p.2/\H p.1=none/\p.1≠X.env.locals/\p.1∉X.fs/\∀v,p.2.data≠.cell v:=fun p z1 ⟨v,z2⟩ z3=>by
  obtain⟨vs,z4,_⟩:=ZeG z2;refine⟨z1,z3,fun z=> ?_,fun z=> ?_,fun v z=>by rw[z4] at z;cases z⟩
  ·obtain⟨m,hn,_⟩:=id J.loc;obtain⟨o,es,ep,y1,y2,_⟩:=hn;rw[<-z,z1] at y1
   cases y1;rw[z4] at y2
   cases y2
  ·subst eX;obtain⟨_,o2,y1,y2⟩:=J.stack.mem (List.mem_cons_of_mem _ z);rw[z1] at y1
   cases y1;exact y2 vs z4
 have cl6:=b3.keeps (h':=h6) fun b o _ z=>fl6.1 b o z;have ch6:ChL h6 ((e,ob6)::cl) (.ref e):=⟨rfl,g1,cx,g2.trans b2,cl6⟩
 have J2:=ZcY (e:=.ref e) (E:=fun _ _=>False) (J.pins_of (pins':=(e,ob6)::cl) fun p hp=>by
  obtain⟨z1,z2⟩:=ch6.mem p hp;refine pinOk p z1 z2 ?_;rcases List.mem_cons.mp hp with rfl|hp
  ·exact free
  ·exact b4 p hp)
 have pl:(backTo cpos (starEach (e1::es) X.env)).any (·.1)=false:=by rw[hs];exact hpl
 have go:=ha cpos _ _ σ H _ J2 q;rw[show(ZaC X (.ref e) fun _ _=>False).env=X.env from rfl,hs] at go
 refine wpAny_execs_cons ?_;rw[arm_exec_Raise];refine wpAny_bind (wpAny_standAt (Zg8 (x:=x) (D:=D') (mg:=X.mg) rfl (fun s2 R z=>wpAny_bind (Constant_none (wpAny_bind (wpAny_standAt (wpAny_pure z))))) ?_));refine wpAny_bind (thn (wpAny_Call_ofName (XC J2 hgx O.bound ?_ hdx)) fun v s3 z=>wpAny_bind (wpAny_standAt (wpAny_pure z)));unfold callWith;rw[hs] at pl⊢
 refine wpAny_bind (wpAny_holding (Calls.evalArgs_plain (wpAny_mono go (fun us s1 z=> ?_) fun _ _ z=>z.elim)));obtain⟨vs,H1,I1,r1,hz,q1⟩:=z;have ch1:=ch6.moved (h':=s1.heap) fun p hp=>(I1.pin p (List.mem_append_right _ hp)).1;have own:=O.keeps I1.bk;obtain⟨bm,_,_,_,_,_,_,_,_,_,_,_,_,_,_,_,_,at_,names,plain,above⟩:=own.obj;simp only [pl];refine wpAny_bind (wpAny_standAt (wpAny_bind (wpAny_keeperOf_exc at_ (wpAny_bind (wpAny_call_exc_subT (hrest:=r1.length▸hz) PySem.F.excBase_ValueError above at_ names plain fun h' ex mk=>wpAny_bind (wpAny_holding (wpAny_point (wpAny_pure ?_))))))))
 refine⟨s1.heap,ex,us,rfl,own.keeps mk.keeps,mk,⟨_,ch1⟩,fun h'' ri=> ?_⟩;subst eX;have out:=ZcN (Zb4 J.ok I1) ri ch1 (fun p hp=>(I1.pin p (List.mem_append_right _ hp)).2.1) q1;exact out
def ZiX(K:Frag)(C D':Addr)(E:XK)(sp:Sp)(t tr:TA):TS:=fun D σ H=>t σ H fun vs H1=>sp vs H1 (fun v H2=>D.rt v H2) (fun c _ H2=>∃B,c=.ref B/\exmOne K (.ref B) (.ref C)=some true/\tr σ H2 fun us H3=>us.length<=sizeLine/\E (.ref D') none H3)
theorem Zh7{X:Cx}(eX:X=Yh (CXr P w) P w K mg base N qual scope f cdv A outer s₀ H₀ E){C D':Addr}{k:Nat}{fn cn x:Str}{ps:List Str}{sp:Sp}{t tr:TA}{p np np2 cpos apos xpos zpos rpos hpos pos:Pos}{kk:Nat}{e1 r1:PySem.Expr}{es rs:List PySem.Expr}{rest:List ExceptHandler}
  (c:Cal P w K mg base (CXr P w) k fn ps sp)(hr:Xl k X.A)(hgf:Gl X fn)(ha:PA X.nox (e1::es) t)(hgc:Gl X cn)(hm:mg cn=some (.ref C))(O:ZcM x D' mg base)(hgx:Gl X x)(hb:∀e,PA (ZaC X e fun _ _=>False) (r1::rs) tr)
  (hd1:(fn==("__debug__":Str))=false:=by decide)(hd2:(cn==("__debug__":Str))=false:=by decide)(hd3:(x==("__debug__":Str))=false:=by decide)(he:starEach (e1::es) X.env=(false,eval e1 X.env)::starEach es X.env:=by rfl)(hpl:(backTo cpos (starEach es X.env)).any (·.1)=false:=by rfl)
  (he2:starEach (r1::rs) X.env=(false,eval r1 X.env)::starEach rs X.env:=by rfl)(hpl2:(backTo xpos (starEach rs X.env)).any (·.1)=false:=by rfl):
  PS X (.Try [.Return (some (.Call (.Name fn p) (e1::es) [] cpos)) apos] (.ExceptHandler (some (.Name cn np)) none [.Raise (some (.Call (.Name x np2) (r1::rs) [] xpos)) (some (.Constant .none kk zpos)) rpos] hpos::rest) [] [] pos) (ZiX K C D' E sp t tr):=by
 intro pins s σ H D I h;have eX2:=eX;subst eX;obtain⟨g,fd,hmg,hkp,hb2,F⟩:=c.ex;refine wpAny_Try_except (wpAny_execs_cons ?_);refine wpAny_Return_some (wpAny_Call_Name_kw (XC I hgf hmg ?_ hd1));refine PySem.W.callWith_K (h₀:=base) I.ok.mod.kin hkp (wpAny_mono (ha cpos pins s σ H _ (I.wish _) h) (fun us s1 z=> ?_) fun _ _ z=>z.elim) he hpl;obtain⟨vs,H1,I1,r1,q1⟩:=z;have I1:=I1.unwish;refine⟨I1.kIn, ?_⟩
 have hl:us.length=ps.length:=by rw[<-r1.length];exact F.len _ _ _ _ q1
 have bd:=hb2 s1 us I1.kIn (by rw[List.append_nil];exact hl)
 rw[List.append_nil] at bd
 refine wpAny_call (codeAny_mono (F.run _ _ s1 H1 ⟨us,[]⟩ us vs _ _ hr I1.env0 bd r1 q1) fun r s2 z=> ?_);cases r with
 |ok fl=>
  cases fl with
  |ret u=>
   obtain⟨v,H2,I2,r2,q2⟩:=I1.after z;exact⟨v,σ,H2,I2,r2,q2⟩
  |next=>exact False.elim z
  |brk=>exact False.elim z
  |cont=>exact False.elim z
 |error ev=>
  dsimp only [CR] at z
  refine Zkz (P:=P) (w:=w) I1 z fun e D2 a0 H2 B h2 d ee again fl hok new ⟨ob,cx,k1,_,k3,k4⟩ q2=> ?_;subst ee;obtain⟨B2,eb,mt,q3⟩:=q2;cases eb;exact Zfu eX2 again fl (apart hok fl) ⟨ob,cx,k1,k3,k4⟩ hgc hm mt O hgx (hb _) q3 hd2 hd3 he2 hpl2
end
end L3
namespace L3
open PySem PySem.Spec PyProof.Rows L2 PySem.W PySem.Calls
theorem ZjP{X:Cx}{e:PySem.Expr}{te:TE}{pos:Pos}(he:PE X e te):PF1 X (.FormattedValue e (-1) none pos) (fun σ H Q=>te σ H fun v H1=>∃i:Int,v=.int i/\i.natAbs.log2<1920/\Q ((toString i:String):Str) H1):=by
 intro pins s σ H Q I h;refine FormattedValue_plain (thn (he pins s σ H _ I h) fun v s1 ⟨x,H1,I1,r1,q1⟩=> ?_);obtain⟨i,rfl,hi,q⟩:=q1;obtain⟨t,rfl⟩:=r1;exact wpAny_formatField_int hi ⟨_,_,H1,rfl,I1.tok _,q⟩
end L3
namespace K07
open PySem PySem.Spec PyProof.Rows L2 L3 M1 M2 M3
set_option maxHeartbeats 5000000
def top(i:Nat):Stmt:=PySem.Challenge.pw_disposehall_k07_no_terms.main.body.getD i (.Pass ⟨0,0,0,0⟩)
abbrev ZaD:Stmt:=top 21
abbrev Zb5:Stmt:=top 22
abbrev Jf:Stmt:=top 23
abbrev Za9:Stmt:=top 24
abbrev JM:Stmt:=top 25
abbrev Zco:Stmt:=top 26
abbrev ZeH:Stmt:=top 35
abbrev ZeI:Stmt:=top 36
abbrev ZeJ:Stmt:=top 37
abbrev Zcp:Stmt:=top 38
abbrev Zb6:Stmt:=top 39
abbrev ZaE:Stmt:=top 40
abbrev ZaF:Stmt:=top 41
abbrev ZaG:Stmt:=top 42
abbrev JN:Stmt:=top 43
abbrev Zaa:Stmt:=top 45
abbrev Zab:Stmt:=top 46
abbrev Ju:Stmt:=top 47
abbrev Zac:Stmt:=top 48
abbrev Zb7:Stmt:=top 50
abbrev ZbK:Stmt:=top 51
abbrev ZaH:Stmt:=top 52
abbrev Zb8:Stmt:=top 53
abbrev JP:Stmt:=top 54
abbrev Zb9:Stmt:=top 55
abbrev Zba:Stmt:=top 56
abbrev Zc6:Stmt:=top 57
abbrev Zad:Stmt:=Zbp (top 30) 1
abbrev ZaI:Stmt:=Zbp (top 31) 0
abbrev Zae:Stmt:=Zbp (top 31) 2
abbrev Za6:Stmt:=Zbp (top 32) 0
abbrev Zaf:Stmt:=Zbp (top 33) 1
abbrev Jv:Stmt:=Zbp (top 34) 1
def Yj:Str:="0123456789"
def YH:Str:="abcdefghijklmnopqrstuvwxyz"
structure Txt (K:PySem.W.Frag) (mg:Str->Option Value) (t_YEAR_DAYS:Tok) (t_MONTH_DAYS:Tok) (t_MOST_FIGURES:Tok) (t_MOST_LETTERS:Tok) (t_FIGURES:Tok) (t_LETTERS:Tok) (t_MOST_WORDS:Tok) (Zn:Addr) (Zi:Addr) (Zj:Addr) (Zc:Addr) (Zo:Addr) (ZP:Addr) (Zh:Addr) (Zd:Addr) (Zu:Addr) (ZD:Addr) (Zr:Addr) (Zq:Addr) (Zt:Addr) (Zv:Addr) (ZF:Addr) (ZQ:Addr):Prop where
 g_YEAR_DAYS:mg "YEAR_DAYS"=some (.int 360 t_YEAR_DAYS)
 g_MONTH_DAYS:mg "MONTH_DAYS"=some (.int 30 t_MONTH_DAYS)
 g_MOST_FIGURES:mg "MOST_FIGURES"=some (.int 40 t_MOST_FIGURES)
 g_MOST_LETTERS:mg "MOST_LETTERS"=some (.int 12 t_MOST_LETTERS)
 g_FIGURES:mg "FIGURES"=some (.str Yj t_FIGURES)
 g_LETTERS:mg "LETTERS"=some (.str YH t_LETTERS)
 g_MOST_WORDS:mg "MOST_WORDS"=some (.int 61 t_MOST_WORDS)
 z_ValueError:mg "ValueError"=none
 z_abs:mg "abs"=none
 z_all:mg "all"=none
 z_int:mg "int"=none
 z_isinstance:mg "isinstance"=none
 z_len:mg "len"=none
 z_list:mg "list"=none
 z_range:mg "range"=none
 z_reversed:mg "reversed"=none
 z_str:mg "str"=none
 kib:PySem.W.kitOne K (.type "int") (.type "bool")=some false
 kii:PySem.W.kitOne K (.type "int") (.type "int")=some true
 kll:PySem.W.kitOne K (.type "list") (.type "list")=some true
 ktt:PySem.W.kitOne K (.type "tuple") (.type "tuple")=some true
 kss:PySem.W.kitOne K (.type "str") (.type "str")=some true
 cl_Never:Cls K Zn
 ty_Never:TyC K Zn
 cl_After:Cls K Zi
 n_After_kind:Xk K Zi "kind"
 n_After_days:Xk K Zi "days"
 ty_After:TyC K Zi
 cl_Later:Cls K Zj
 n_Later_one:Xk K Zj "one"
 n_Later_other:Xk K Zj "other"
 ty_Later:TyC K Zj
 cl_Earlier:Cls K Zc
 n_Earlier_one:Xk K Zc "one"
 n_Earlier_other:Xk K Zc "other"
 ty_Earlier:TyC K Zc
 mg_HallError:mg "HallError"=some (.ref Zo)
 mg_NoDay:mg "NoDay"=some (.ref ZP)
 mg_NoLength:mg "NoLength"=some (.ref Zh)
 mg_NoTerm:mg "NoTerm"=some (.ref Zd)
 mg_TooWide:mg "TooWide"=some (.ref Zu)
 mg_NoBook:mg "NoBook"=some (.ref ZD)
 mg_PutTwice:mg "PutTwice"=some (.ref Zr)
 mg_HeldTwice:mg "HeldTwice"=some (.ref Zq)
 mg_NoSeries:mg "NoSeries"=some (.ref Zt)
 mg_RunBack:mg "RunBack"=some (.ref Zv)
 mg_Unlike:mg "Unlike"=some (.ref ZF)
 mg_NoRow:mg "NoRow"=some (.ref ZQ)
 xc_NoLength:Jt K Zh
 xc_NoTerm:Jt K Zd
 xm_n:PySem.W.exmOne K (.ref Zh) (.ref Zh)=some true
 xm_t:PySem.W.exmOne K (.ref Zd) (.ref Zo)=some true
 i_t_ve:PySem.W.kitOne K (.ref Zd) (.type "ValueError")=some true
 i_t_HallError:PySem.W.kitOne K (.ref Zd) (.ref Zo)=some true
 i_t_NoDay:PySem.W.kitOne K (.ref Zd) (.ref ZP)=some false
 i_t_NoLength:PySem.W.kitOne K (.ref Zd) (.ref Zh)=some false
 i_t_NoTerm:PySem.W.kitOne K (.ref Zd) (.ref Zd)=some true
 i_t_TooWide:PySem.W.kitOne K (.ref Zd) (.ref Zu)=some false
 i_t_NoBook:PySem.W.kitOne K (.ref Zd) (.ref ZD)=some false
 i_t_PutTwice:PySem.W.kitOne K (.ref Zd) (.ref Zr)=some false
 i_t_HeldTwice:PySem.W.kitOne K (.ref Zd) (.ref Zq)=some false
 i_t_NoSeries:PySem.W.kitOne K (.ref Zd) (.ref Zt)=some false
 i_t_RunBack:PySem.W.kitOne K (.ref Zd) (.ref Zv)=some false
 i_t_Unlike:PySem.W.kitOne K (.ref Zd) (.ref ZF)=some false
 i_t_NoRow:PySem.W.kitOne K (.ref Zd) (.ref ZQ)=some false
 ne_Never_After:Zn≠Zi
 ne_Never_Later:Zn≠Zj
 ne_Never_Earlier:Zn≠Zc
 ne_After_Later:Zi≠Zj
 ne_After_Earlier:Zi≠Zc
 ne_Later_Earlier:Zj≠Zc
theorem YK:100000<=sizeLine:=by rw[sizeLine_eq];decide
theorem sl{n:Nat}(h:n<=100000:=by decide):n<=sizeLine:=Nat.le_trans h YK
theorem Ze{H:Hp}{p:Addr}{o:HO}(h:H p=none):ZS H (upd H p o):=fun b u e=>by rw[Zw (ZK e h)];exact e
theorem ZeK(x:Str)(c:Nat):(x++⟨#[c]⟩:Str).length=x.length+1:=strLen_append x ⟨#[c]⟩
theorem Zc7{α:Type}{xs:List α}{i:Int}(h0: -(xs.length:Int)<=i)(h1:i<xs.length):∃v,atI xs i=some v:=by
 unfold atI ixN
 by_cases h:0<=i
 ·rw[if_pos h,if_pos h1];exact⟨_,List.getElem?_eq_getElem (by omega)⟩
 ·rw[if_neg h,if_pos h0];exact⟨_,List.getElem?_eq_getElem (by omega)⟩
theorem JQ{Q:VK}{a b:V}{H:Hp}(q:Q a H)(e:a=b):Q b H:=e▸q
theorem Zfv{α:Type}{xs:List α}{c:α}(h:atI xs 0=some c):xs.head? =some c:=by
 unfold atI ixN at h
 rw[if_pos (by decide)] at h
 split at h
 ·rw[List.head?_eq_getElem?];exact h
 ·cases h
theorem ZiY{c A B:Prop} [Decidable c](hc:c)(h:A):if decide c=true then A else B:=by
 rw[decide_eq_true hc];exact Xm h
theorem ZeL(k:Nat):((10:Int)^k)=((10^k:Nat):Int):=by simp
theorem ZjQ{v B:Int}{C:Nat}(hB:B=(C:Int))(h0:0<=v)(h1:v<B):∃n:Nat,n<C/\v=(n:Int):=⟨v.toNat,by omega,by omega⟩
theorem Zi1{k:Int}(h0:0<=k)(h1:k<=1000):Zkb 10 k:=⟨h0,by omega,by decide⟩
theorem pow_pos(k:Nat):(0:Int)<10^k:=by rw[ZeL];exact Int.natCast_pos.mpr (Nat.pow_pos (by decide))
theorem ixT{K:PySem.W.Frag}{i:Nat}{j:Int}{σ:L2.St}{H:Hp}{Q:VK}{a:Addr}{xs:List V}{v:V}(e:σ[i]? =some (some (.ref a)))(h:SqT K H a xs)(m:atI xs j=some v)(k:Q v H):tOp (Zkh K) (ZgO i) (tC (.int j)) σ H Q:=⟨_,e,a,_,_,_,rfl,rfl,h,m,k⟩
theorem vI{C:Int->Int->Prop}{g:Int->Int->V}{i:Nat}{σ:L2.St}{H:Hp}{Q:VK}{a k:Int}(e:σ[i]? =some (some (.int a)))(c:C a k)(q:Q (g a k) H):tOp (rI C g) (ZgO i) (tC (.int k)) σ H Q:=⟨_,e,a,k,rfl,rfl,c,q⟩
theorem vEq{i:Nat}{σ:L2.St}{H:Hp}{k:Bool->Hp->Prop}{x v:V}(e:σ[i]? =some (some x))(f:Zjr x v=true)(q:k (decide (x=v)) H):Zj9 (tOp rEq (ZgO i) (tC v)) σ H k:=⟨_,e,f,_,rfl,q⟩
def Jl:Sp:=fun vs H Q _=>∃x y:Str,vs=[.str x,.str y]/\x.length<=100000/\∀H',ZS H H'->Q (.bl (x.cps.toList.all (inS y))) H'
def Xj(x:Str):Bool:=if x.length=0\/40<x.length then false else if(cs x).head? =some 48/\x≠⟨#[48]⟩ then false else x.cps.toList.all (inS Yj)
def ZaJ:Sp:=fun vs H Q _=>∃x:Str,vs=[.str x]/\x.length<=100000/\∀H',ZS H H'->Q (.bl (Xj x)) H'
theorem Zi2:Str.ofString "0"=⟨#[48]⟩:=by decide
theorem Zc8(c:Nat):V.str ⟨#[c]⟩=V.str (Str.ofString "0")↔c=48:=by
 rw[Zi2]
 constructor
 ·intro e
  injection e with e
  injection e with e
  have e:[c]=[48]:=congrArg Array.toList e
  injection e
 ·rintro rfl
  rfl
theorem ZjR:∀k<10,inS Yj (48+k)=true:=by decide+kernel
theorem ZjS:∀c∈cs Yj,48<=c/\c<=57:=by decide+kernel
theorem ZgE(c:Nat):inS Yj c=true↔48<=c/\c<=57:=by
 refine⟨fun h=>ZjS c ((Zgz _ _).mp h),fun h=> ?_⟩;have:=ZjR (c-48) (by omega)
 rwa [Nat.add_sub_cancel' h.1] at this
theorem Zh8{n:Nat}(h:n<10^40):Xj (num n)=true:=by
 have h1:(num n).length<=40:=Zbt (by decide) h;have h2:(num n).length≠0:=by
  rw[JL];intro e;exact Zhz n (List.length_eq_zero_iff.mp e)
 unfold Xj;rw[if_neg (by omega)];rw[if_neg (by
  rintro⟨e1,e2⟩;have:=ZhA n e1;subst this;exact e2 ZhB)]
 rw[List.all_eq_true];intro c hc;exact(ZgE c).mpr (ZaB n c hc)
def Ja(x:Str):V:=if x=Str.ofString "y" then .int 360 else if x=Str.ofString "m" then .int 30 else if x=Str.ofString "d" then .int 1 else .non
def Zbb(d:Nat):Str:=if d%360=0 then num (d/360)++Str.ofString "y" else if d%30=0 then num (d/30)++Str.ofString "m" else num d++Str.ofString "d"
def XQ:Sp:=fun vs H Q _=>∃x:Str,vs=[.str x]/\∀H',ZS H H'->Q (Ja x) H'
def Jw:Sp:=fun vs H Q _=>∃d:Nat,vs=[.int (d:Int)]/\d<10^100/\∀H',ZS H H'->Q (.str (Zbb d)) H'
theorem Zdk{m:Nat}(h:m<10^100):((m:Nat):Int).natAbs.log2<1920:=by
 rw[Int.natAbs_natCast]
 by_cases z:m=0
 ·rw[z];decide
 ·exact(Nat.log2_lt z).mpr (Nat.lt_trans h (by decide+kernel))
theorem ZbL{m:Nat}(h:m<10^100):(num m).length<=100:=Zbt (by decide) h
theorem ZkB:Str.ofString "y"=⟨#[121]⟩:=by decide
theorem ZjT:Str.ofString "m"=⟨#[109]⟩:=by decide
theorem ZiZ:Str.ofString "d"=⟨#[100]⟩:=by decide
theorem Zi3:Ja ⟨#[121]⟩=.int 360:=by decide
theorem Zg9:Ja ⟨#[109]⟩=.int 30:=by decide
theorem Zga:Ja ⟨#[100]⟩=.int 1:=by decide
theorem Zfw(d:Nat):∃n c u,Zbb d=num n++⟨#[c]⟩/\n<=d/\Ja ⟨#[c]⟩=.int ((u:Nat):Int)/\u<=360/\n*u=d:=by
 unfold Zbb
 by_cases h1:d%360=0
 ·rw[if_pos h1,ZkB];exact⟨d/360,121,360,rfl,by omega,Zi3,by omega,by omega⟩
 ·rw[if_neg h1]
  by_cases h2:d%30=0
  ·rw[if_pos h2,ZjT];exact⟨d/30,109,30,rfl,by omega,Zg9,by omega,by omega⟩
  ·rw[if_neg h2,ZiZ];exact⟨d,100,1,rfl,by omega,Zga,by omega,by omega⟩
def dv(x:Str):Nat:=NumText.digitsVal (cs x)
def Ok(x:Str):Prop:=∀c∈x.cps.toList,c<16^8
abbrev Xh(x:Str):Str:=Txt.slice x none (some (-1))
abbrev ZbA(x:Str):V:=Ja (Txt.slice x (some (-1)) none)
def Jo(x:Str):V:=match ZbA x with
 | .int u=>if Xj (Xh x)=true then .int ((dv (Xh x):Int)*u) else .non
 |_=> .non
def JR(C:Addr):Sp:=fun vs H Q E=>∃x:Str,vs=[.str x]/\x.length<=5000/\Ok x/\(Jo x≠.non->∀H',ZS H H'->Q (Jo x) H')/\(Jo x=.non->∀H',ZS H H'->E (.ref C) none H')
theorem ZcF{x:Str}(h:x.cps.toList.all (inS Yj)=true):NumText.AllDigits (cs x):=fun c hc=>(ZgE c).mp (List.all_eq_true.mp h c hc)
theorem Zh9{x:Str}(h:x.cps.toList.all (inS Yj)=true)(n:x.length≠0)(l:x.length<=4300):intText? x=some (dv x:Int):=
 intText_digits (x:=x) (ZcF h) (fun z=>n (by rw[JL];show(cs x).length=0;rw[show cs x=[] from z];rfl)) l
theorem Zdl{x:Str}(h:Xj x=true):x.cps.toList.all (inS Yj)=true/\x.length≠0/\x.length<=40:=by
 unfold Xj at h
 split at h
 ·cases h
 ·rename_i n
  split at h
  ·cases h
  ·exact⟨h,by omega,by omega⟩
theorem Zdm(x:Str):Ja x=.non\/∃u:Nat,Ja x=.int (u:Int)/\u<=360:=by
 unfold Ja
 split
 ·exact .inr ⟨360,rfl,by decide⟩
 ·split
  ·exact .inr ⟨30,rfl,by decide⟩
  ·split
   ·exact .inr ⟨1,rfl,by decide⟩
   ·exact .inl rfl
theorem JH(x:Str):Str.empty++x=x:=ext (by rw[Yu];rfl)
theorem Jp{x w:Str}(hx:x.length<=5000)(hok:Ok x)(hw:w.length<=100):(reprText x++w).length<=sizeLine:=by
 have l5:=YK;have lr:=StrLaws.reprText_len x hok;rw[strLen_append];omega
def Yp(x:Str):Bool:=decide (1<=x.length)&&decide (x.length<=12)&&x.cps.toList.all (inS YH)
def ZbM:Sp:=fun vs H Q _=>∃x:Str,vs=[.str x]/\x.length<=100000/\∀H',ZS H H'->Q (.bl (Yp x)) H'
def Nm(z:Str):Prop:=1<=z.length/\z.length<=12/\∀c∈cs z,97<=c/\c<=122
def JS:Sp:=fun vs H Q _=>∃n k:Int,vs=[.int n,.int k]/\∀(z:Str) H',Nm z->ZS H H'->Q (.str z) H'
inductive Tr where
 |never|after (k:Str) (d:Int)|later (x y:Tr)|earlier (x y:Tr)
def Tr.deep:Tr->Nat
 | .never=>0
 | .after _ _=>0
 | .later x y=>max x.deep y.deep+1
 | .earlier x y=>max x.deep y.deep+1
def Tr.cnt:Tr->Nat
 | .never=>1
 | .after _ _=>1
 | .later x y=>x.cnt+y.cnt
 | .earlier x y=>x.cnt+y.cnt
def Zl4:Option Int->Option Int->Option Int
 |some a,some b=>some (if b>a then b else a)
 |_,_=>none
def fA(k:Str)(d:Int):List (Str×V):=Zas "days" (.int d) (Zas "kind" (.str k) [])
def fP(p q:Addr):List (Str×V):=Zas "other" (.ref q) (Zas "one" (.ref p) [])
def Yv(cn ca cl ce:Addr)(H:Hp):Tr->Addr->Prop
 | .never,a=>∃dx,H a=some (.ins cn dx [])
 | .after k d,a=>∃dx,H a=some (.ins ca dx (fA k d))
 | .later x y,a=>∃dx p q,H a=some (.ins cl dx (fP p q))/\Yv cn ca cl ce H x p/\Yv cn ca cl ce H y q
 | .earlier x y,a=>∃dx p q,H a=some (.ins ce dx (fP p q))/\Yv cn ca cl ce H x p/\Yv cn ca cl ce H y q
def Zef(cn ca cl ce:Addr):Tr->Addr
 | .never=>cn
 | .after _ _=>ca
 | .later _ _=>cl
 | .earlier _ _=>ce
def Zag(C:Addr):Sp:=fun vs H Q _=>∃(x dx:Addr) (k:Str) (d:Int),vs=[.ref x,.str k,.int d]/\H x=some (.ins C dx [])/\Q .non (upd H x (.ins C dx (fA k d)))
def XR(C:Addr):Sp:=fun vs H Q _=>∃(x dx p q:Addr),vs=[.ref x,.ref p,.ref q]/\H x=some (.ins C dx [])/\Q .non (upd H x (.ins C dx (fP p q)))
def Zdn(cn ca cl ce:Addr):Sp:=fun vs H Q _=>vs=[]/\∀a H',ZS H H'->H a=none->Yv cn ca cl ce H' .never a->Q (.ref a) H'
def Zdo(cn ca cl ce:Addr):Sp:=fun vs H Q _=>∃(k:Str) (d:Int),vs=[.str k,.int d]/\∀a H',ZS H H'->H a=none->Yv cn ca cl ce H' (.after k d) a->Q (.ref a) H'
def Zdp(cn ca cl ce:Addr):Sp:=fun vs H Q _=>∃(p q:Addr) (x y:Tr),vs=[.ref p,.ref q]/\Yv cn ca cl ce H x p/\Yv cn ca cl ce H y q/\∀a H',ZS H H'->H a=none->Yv cn ca cl ce H' (.later x y) a->Q (.ref a) H'
def ZbN(cn ca cl ce:Addr):Sp:=fun vs H Q _=>∃(p q:Addr) (x y:Tr),vs=[.ref p,.ref q]/\Yv cn ca cl ce H x p/\Yv cn ca cl ce H y q/\∀a H',ZS H H'->H a=none->Yv cn ca cl ce H' (.earlier x y) a->Q (.ref a) H'
def YX(H:Hp):Tr->Addr->Prop
 | .never,a=>H a=some (.tup [.str (Str.ofString "never")])
 | .after k d,a=>H a=some (.tup [.str (Str.ofString "after"),.str k,.int d])
 | .later x y,a=>∃p q,H a=some (.tup [.str (Str.ofString "later"),.ref p,.ref q])/\YX H x p/\YX H y q
 | .earlier x y,a=>∃p q,H a=some (.tup [.str (Str.ofString "earlier"),.ref p,.ref q])/\YX H x p/\YX H y q
def Jg:Sp:=fun vs H Q _=>∃c:Int,vs=[.int c]/\∀(d:Int) H',0<=d->d<10^40->ZS H H'->Q (.int d) H'
def Tr.good:Tr->Prop
 | .never=>True
 | .after k d=>Nm k/\0<=d/\d<10^40
 | .later x y=>x.good/\y.good
 | .earlier x y=>x.good/\y.good
def Zc9(d:Nat)(c:Int):Str:=if c%3=0/\d%30=0 then num (d/30)++Str.ofString "m" else if c%3=1 then num d++Str.ofString "d" else Zbb d
def Tr.tC:Tr->Int->Str
 | .never,_=>Str.ofString "never"
 | .after k d,c=>Str.ofString "after "++k++Str.ofString " "++Zc9 d.toNat c
 | .later x y,c=>Str.ofString "later"++Str.ofString " "++x.tC (c/2)++Str.ofString " "++y.tC (c/3)
 | .earlier x y,c=>Str.ofString "earlier"++Str.ofString " "++x.tC (c/2)++Str.ofString " "++y.tC (c/3)
def Tr.wC:Tr->Int->List Str
 | .never,_=>[Str.ofString "never"]
 | .after k d,c=>[Str.ofString "after",k,Zc9 d.toNat c]
 | .later x y,c=>Str.ofString "later"::(x.wC (c/2)++y.wC (c/3))
 | .earlier x y,c=>Str.ofString "earlier"::(x.wC (c/2)++y.wC (c/3))
theorem Zi4{c:Nat}:∀{u v:List (List Nat)},u≠[]->v≠[]->J c (u++v)=J c u++c::J c v
 |[],_,h,_=>absurd rfl h
 |[p],[],_,h=>absurd rfl h
 |[p],q::r,_,_=>rfl
 |p::q::r,v,_,hv=>by
  show p++c::J c ((q::r)++v)=(p++c::J c (q::r))++c::J c v;rw[Zi4 (by simp) hv];simp
theorem Tr.wC_ne(t:Tr)(c:Int):t.wC c≠[]:=by cases t<;>simp[Tr.wC]
theorem Zi5:cs (Str.ofString " ")=[32]:=by decide+kernel
theorem ZgF(a:Str){x y:Str}{u v:List Str}(hu:u≠[])(hv:v≠[])(h1:cs x=J 32 (u.map cs))(h2:cs y=J 32 (v.map cs)):cs (a++Str.ofString " "++x++Str.ofString " "++y)=J 32 ((a::(u++v)).map cs):=by
 rw[Yu,Yu,Yu,Yu,Zi5,h1,h2,List.map_cons,List.map_append];have e:([cs a]++(u.map cs++v.map cs))=cs a::(u.map cs++v.map cs):=rfl;rw[<-e,Zi4 (by simp) (by simp[hu]),Zi4 (by simpa using hu) (by simpa using hv)];show cs a++[32]++_++[32]++_=cs a++32::_;simp
theorem Zeg:∀(t:Tr) (c:Int),cs (t.tC c)=J 32 ((t.wC c).map cs)
 | .never,c=>rfl
 | .after k d,c=>by
  show cs (Str.ofString "after "++k++Str.ofString " "++Zc9 d.toNat c)=cs (Str.ofString "after")++32::(cs k++32::cs (Zc9 d.toNat c));rw[Yu,Yu,Yu,Zi5,show cs (Str.ofString "after ")=cs (Str.ofString "after")++[32] by decide+kernel];simp
 | .later x y,c=>ZgF _ (x.wC_ne _) (y.wC_ne _) (Zeg x _) (Zeg y _)
 | .earlier x y,c=>ZgF _ (x.wC_ne _) (y.wC_ne _) (Zeg x _) (Zeg y _)
theorem Zdq(d:Nat)(c:Int):∃n ch u,Zc9 d c=num n++⟨#[ch]⟩/\n<=d/\Ja ⟨#[ch]⟩=.int ((u:Nat):Int)/\u<=360/\n*u=d:=by
 unfold Zc9
 by_cases h1:c%3=0/\d%30=0
 ·rw[if_pos h1,ZjT];exact⟨d/30,109,30,rfl,by omega,Zg9,by omega,by omega⟩
 ·rw[if_neg h1]
  by_cases h2:c%3=1
  ·rw[if_pos h2,ZiZ];exact⟨d,100,1,rfl,by omega,Zga,by omega,by omega⟩
  ·rw[if_neg h2];exact Zfw d
def Tr.ok7:Tr->Prop
 | .never=>True
 | .after k d=>Nm k/\0<=d/\d<10^43
 | .later x y=>x.ok7/\y.ok7
 | .earlier x y=>x.ok7/\y.ok7
theorem ZkC:(10^43:Int)=((10^43:Nat):Int):=by decide+kernel
theorem Zbx{d:Int}(h0:0<=d)(h1:d<10^43):d.toNat<10^43:=by
 rw[ZkC] at h1
 generalize hB:(10^43:Nat)=B at*
 omega
theorem Zcq{d:Nat}(h:d<10^43)(c:Int):(Zc9 d c).length<=44:=by
 obtain⟨n,ch,u,e1,e2,_⟩:=Zdq d c;rw[e1,ZeK];have:=Zbt (k:=43) (by decide) (Nat.lt_of_le_of_lt e2 h);omega
theorem JC:∀(t:Tr) (c:Int),t.ok7->(t.tC c).length+20<=90*t.cnt
 | .never,c,_=>by show(Str.ofString "never").length+20<=90;decide+kernel
 | .after k d,c,⟨hk,h0,h1⟩=>by
  have l:=Zcq (Zbx h0 h1) c;have a:=hk.2.1;show(Str.ofString "after "++k++Str.ofString " "++Zc9 d.toNat c).length+20<=90;rw[strLen_append,strLen_append,strLen_append,show(Str.ofString "after ").length=6 by decide+kernel,show(Str.ofString " ").length=1 by decide+kernel];omega
 | .later x y,c,⟨h1,h2⟩=>by
  have a:=JC x (c/2) h1;have b:=JC y (c/3) h2;show(Str.ofString "later"++Str.ofString " "++x.tC (c/2)++Str.ofString " "++y.tC (c/3)).length+20<=90*(x.cnt+y.cnt);rw[strLen_append,strLen_append,strLen_append,strLen_append,show(Str.ofString "later").length=5 by decide+kernel,show(Str.ofString " ").length=1 by decide+kernel];omega
 | .earlier x y,c,⟨h1,h2⟩=>by
  have a:=JC x (c/2) h1;have b:=JC y (c/3) h2;show(Str.ofString "earlier"++Str.ofString " "++x.tC (c/2)++Str.ofString " "++y.tC (c/3)).length+20<=90*(x.cnt+y.cnt);rw[strLen_append,strLen_append,strLen_append,strLen_append,show(Str.ofString "earlier").length=7 by decide+kernel,show(Str.ofString " ").length=1 by decide+kernel];omega
def Wd(x:Str):Prop:=x.length<=60/\32∉cs x/\Ok x
def Yy(x:Str):Bool:=match Jo x with
 | .int _=>true
 |_=>false
def pt:Nat->List Str->Option (Tr×List Str)
 |0,_=>none
 |_+1,[]=>none
 |n+1,w::r=>
  if w=Str.ofString "never" then some (.never,r)
  else if w=Str.ofString "after" then(match r with
   |k::l::q=>(match Yp k,Jo l with
    |true,.int d=>some (.after k d,q)
    |_,_=>none)
   |_=>none)
  else if w=Str.ofString "later" then(pt n r).bind fun x=>(pt n x.2).bind fun y=>some (.later x.1 y.1,y.2)
  else if w=Str.ofString "earlier" then(pt n r).bind fun x=>(pt n x.2).bind fun y=>some (.earlier x.1 y.1,y.2)
  else none
def okW:Nat->List Str->Bool
 |0,r=>r.isEmpty
 |_+1,[]=>false
 |m+1,w::r=>
  if w=Str.ofString "never" then okW m r
  else if w=Str.ofString "after" then decide (2<=r.length)&&Yp (r.headD Str.empty)&&Yy (r.tail.headD Str.empty)&&okW m (r.drop 2)
  else if w=Str.ofString "later"\/w=Str.ofString "earlier" then okW (m+2) r
  else false
termination_by _ r=>r.length
decreasing_by all_goals simp only [List.length_cons,List.length_drop];omega
def JT(ws:List Str):Option Tr:=if 61<ws.length then none else match pt 64 ws with
 |some (t,[])=>some t
 |_=>none
def Xo(C:Addr):Sp:=fun vs H Q E=>∃(R:Addr) (ws:List Str),vs=[.ref R]/\H R=some (.lst (ws.reverse.map V.str))/\(ws=[]->E (.ref C) none H)/\∀w r,ws=w::r->Q (.str w) (upd H R (.lst (r.reverse.map V.str)))
def Zah(C:Addr):Sp:=fun vs H Q E=>∃(R:Addr) (ws:List Str),vs=[.ref R]/\H R=some (.lst (ws.reverse.map V.str))/\(∀w∈ws,Wd w)/\(∀w r,ws=w::r->Yp w=true->∀H',ZS (upd H R (.lst (r.reverse.map V.str))) H'->Q (.str w) H')/\((∀w r,ws=w::r->Yp w=false)->∀zs H',ZS (upd H R (.lst zs)) H'->E (.ref C) none H')
def Jx(C:Addr):Sp:=fun vs H Q E=>∃(R:Addr) (ws:List Str),vs=[.ref R]/\H R=some (.lst (ws.reverse.map V.str))/\(∀w∈ws,Wd w)/\(∀w r d,ws=w::r->Jo w=.int d->∀H',ZS (upd H R (.lst (r.reverse.map V.str))) H'->Q (.int d) H')/\((∀w r,ws=w::r->Jo w=.non)->∀zs H',ZS (upd H R (.lst zs)) H'->E (.ref C) none H')
def Xp(cn ca cl ce C:Addr)(n:Nat):Sp:=fun vs H Q E=>∃(R:Addr) (ws:List Str),vs=[.ref R]/\H R=some (.lst (ws.reverse.map V.str))/\(∀w∈ws,Wd w)/\ws.length<n/\(∀t r,pt n ws=some (t,r)->∀p H',ZS (upd H R (.lst (r.reverse.map V.str))) H'->Yv cn ca cl ce H' t p->Q (.ref p) H')/\(pt n ws=none->∀zs H',ZS (upd H R (.lst zs)) H'->E (.ref C) none H')
def ZaK(cn ca cl ce C:Addr):Sp:=fun vs H Q E=>∃x:Str,vs=[.str x]/\(∀w∈Txt.split x ⟨#[32]⟩,Wd w)/\x.length<=50000/\(Txt.split x ⟨#[32]⟩).length<=1000/\(∀t,JT (Txt.split x ⟨#[32]⟩)=some t->∀p H',ZS H H'->Yv cn ca cl ce H' t p->Q (.ref p) H')/\(JT (Txt.split x ⟨#[32]⟩)=none->∀H',ZS H H'->E (.ref C) none H')
def Xq(cn ca cl ce:Addr)(n:Nat)(C:Addr):Sp:=fun vs H Q _=>∃(a:Addr) (t:Tr),vs=[.ref a]/\Yv cn ca cl ce H t a/\t.deep<n/\t.cnt<=100/\t.ok7/\Zef cn ca cl ce t=C/\∀H',ZS H H'->Q (.str (t.tC (-1))) H'
theorem ZcO{cn ca cl ce C:Addr}:∀vs H Q E,¬Xp cn ca cl ce C 0 vs H Q E:=fun _ _ _ _ ⟨_,ws,_,_,_,z,_⟩=>Nat.not_lt_zero ws.length z
theorem ZaL{cn ca cl ce C:Addr}:∀vs H Q E,¬Xq cn ca cl ce 0 C vs H Q E:=fun _ _ _ _ ⟨_,t,_,_,z,_⟩=>Nat.not_lt_zero t.deep z
def Tr.lw:Tr->List Str
 | .never=>[Str.ofString "never"]
 | .after k d=>[Str.ofString "after",k,num d.toNat++Str.ofString "d"]
 | .later x y=>Str.ofString "later"::(x.lw++y.lw)
 | .earlier x y=>Str.ofString "earlier"::(x.lw++y.lw)
def XS(n:Nat):Sp:=fun vs H Q _=>∃(a:Addr) (t:Tr),vs=[.ref a]/\YX H t a/\t.deep<n/\t.cnt<=15/\t.good/\∀p H',H p=none->ZS H H'->H' p=some (.lst (t.lw.map V.str))->Q (.ref p) H'
theorem Zdr:∀vs H Q E,¬XS 0 vs H Q E:=fun _ _ _ _ ⟨_,t,_,_,z,_⟩=>Nat.not_lt_zero t.deep z
def Zbc:Sp:=fun vs H Q _=>∃x:Str,vs=[.str x]/\x.length<=1000/\∀H',ZS H H'->Q (.bl (Yp x)) H'
def Jm:Sp:=fun vs H Q _=>∃x:Str,vs=[.str x]/\x.length<=1000/\∀H',ZS H H'->Q (.bl (Yy x)) H'
def ZaM:Sp:=fun vs H Q _=>∃(p:Addr) (ws:List Str),vs=[.ref p]/\H p=some (.lst (ws.map V.str))/\(∀w∈ws,Wd w)/\ws.length<=1000/\∀H',ZS H H'->Q (.bl (JT ws).isSome) H'
def Zbd:Sp:=fun vs H Q _=>∃(p:Addr) (ws:List Str) (c:Int),vs=[.ref p,.int c]/\H p=some (.lst (ws.map V.str))/\(∀w∈ws,Wd w)/\ws≠[]/\ws.length<=400/\0<=c/\∀(q:Addr) (ys:List Str) H',H q=none->ZS H H'->H' q=some (.lst (ys.map V.str))->(∀y∈ys,Wd y)->ys.length<=3*ws.length+4->Q (.ref q) H'
def ZaN(C:Addr):Sp:=fun vs H Q _=>∃e:Addr,vs=[.ref e]/\H e=some (XO e C none)/\∀H',ZS H H'->Q (.bl true) H'
def ZaO:Sp:=fun vs H Q _=>∃(p:Addr) (ws:List Str),vs=[.ref p]/\H p=some (.lst (ws.map V.str))/\(∀w∈ws,Wd w)/\ws.length<=600/\∀H',ZS H H'->Q (.bl true) H'
theorem Zds{x:Str}(h:Jo x≠.non):∃d,Jo x=.int d:=by
 unfold Jo at h⊢
 split at h
 ·split at h
  ·rename_i u e f
   rw[if_pos f];exact⟨_,rfl⟩
  ·exact absurd rfl h
 ·exact absurd rfl h
theorem Zeh:Str.ofString " "=⟨#[32]⟩:=by decide
theorem Zdt{d:Int}(h0:0<=d)(h1:d<10^40):d.toNat<10^40:=by
 rw[ZeL] at h1
 generalize hB:(10^40:Nat)=B at*
 omega
theorem ZkD{d:Int}(h0:0<=d)(h1:d<10^40):d.toNat<10^100:=Nat.lt_trans (Zdt h0 h1) (by decide+kernel)
def JV:Sp:=fun vs H Q _=>∃(a:Addr) (ns:List Int) (b:Int),vs=[.ref a,.int b,.int 15]/\H a=some (.lst (ns.map V.int))/\ns.length<=1000/\∀p (t:Tr) H',ZS H H'->YX H' t p->t.cnt<=15->t.good->Q (.ref p) H'
def JW(K:PySem.W.Frag):Sp:=fun vs H Q _=>∃(a:Addr) (ns:List Int) (k:Nat),vs=[.ref a,.int (k:Int)]/\SqL K H a (ns.map V.int)/\∀H',ZS H H'->Q (.int (ns[k]?.getD 0)) H'
section
variable {P:Program} {w:World} {K:PySem.W.Frag} {mg:Str->Option Value} {base:Heap} {t_YEAR_DAYS:Tok} {t_MONTH_DAYS:Tok} {t_MOST_FIGURES:Tok} {t_MOST_LETTERS:Tok} {t_FIGURES:Tok} {t_LETTERS:Tok} {t_MOST_WORDS:Tok} {Zn:Addr} {Zi:Addr} {Zj:Addr} {Zc:Addr} {Zo:Addr} {ZP:Addr} {Zh:Addr} {Zd:Addr} {Zu:Addr} {ZD:Addr} {Zr:Addr} {Zq:Addr} {Zt:Addr} {Zv:Addr} {ZF:Addr} {ZQ:Addr}
theorem ZdR:ZV ["text","signs"] ["text","signs"] (Zz ZaD):=⟨rfl,rfl,rfl,by decide+kernel,rfl,by decide+kernel,by decide+kernel⟩
theorem ZdS{f:Addr}{fd:FuncData}(F:Fun K "is_made_of" "is_made_of" ZaD f fd)(T:Txt K mg t_YEAR_DAYS t_MONTH_DAYS t_MOST_FIGURES t_MOST_LETTERS t_FIGURES t_LETTERS t_MOST_WORDS Zn Zi Zj Zc Zo ZP Zh Zd Zu ZD Zr Zq Zt Zv ZF ZQ):Yx P w K mg base CX0 1 f fd ["text","signs"] Jl:=by
 refine F.ok ZdR (fun vs H Q E h=> ?_) (fun cdv A outer s H vs Q E hr h=> ?_)
 ·obtain⟨x,y,rfl,_⟩:=h
  rfl
 ·obtain⟨x,y,rfl,hx,k⟩:=h;refine⟨_,(Zk (ZC (ZL (ZfT rfl) (by rfl) T.z_all Zjw (Za (Zez ["sign"] [("signs",1)] rfl (ZfS (pv 0)) (by rfl) (by exact⟨rfl,trivial⟩) (by rfl) (by exact⟨⟨rfl,rfl,rfl⟩,trivial⟩) (fun _ _ _ _=>(XH (i:=0) (show(nmY ["sign"] [("signs",1)]).Nodup by decide+kernel) rfl (Or.inl rfl))) (fun _ _ _ _=>Zgv) (fun _ _ _ _=>(XJ ZgS (pv 0) (pv 1) rfl))) Zf)))), ?_⟩;refine Zju (ZiF (Zjv (Zhv (f:=fun c=>V.bl (inS y c)) rfl (Nat.le_trans hx YK) (fun v=>⟨rfl,trivial⟩) (fun c H2 Q2 q=>⟨_,rfl,_,rfl,_,_,rfl,rfl,q⟩) fun D hD=> ?_)))
  refine⟨D,x.cps.toList.map (inS y),rfl,SqL.of (by rw[Zb,List.map_map];rfl), ?_⟩
  have e:(x.cps.toList.map (inS y)).all id=x.cps.toList.all (inS y):=by rw[List.all_map];rfl
  rw[e];exact k _ (Ze hD)
theorem ZeM:ZV ["text"] ["text"] (Zz Zb5):=⟨rfl,rfl,rfl,by decide+kernel,rfl,by decide+kernel,by decide+kernel⟩
theorem ZeN{f:Addr}{fd:FuncData}(F:Fun K "is_number" "is_number" Zb5 f fd)(T:Txt K mg t_YEAR_DAYS t_MONTH_DAYS t_MOST_FIGURES t_MOST_LETTERS t_FIGURES t_LETTERS t_MOST_WORDS Zn Zi Zj Zc Zo ZP Zh Zd Zu ZD Zr Zq Zt Zv ZF ZQ)(Xi:Cal P w K mg base CX0 1 "is_made_of" ["text","signs"] Jl):Yx P w K mg base CX0 2 f fd ["text"] ZaJ:=by
 refine F.ok ZeM (fun vs H Q E h=> ?_) (fun cdv A outer s H vs Q E hr h=> ?_)
 ·obtain⟨x,rfl,_⟩:=h
  rfl
 ·obtain⟨x,rfl,hx,k⟩:=h;have hz:=Nat.le_trans hx YK;refine⟨_,(Zg (Yc (PW.pt (ZbW (ZG Yn (ZL Ym (by rfl) T.z_len YW (Za (pv 0) Zf)) Zm (ZJ _)) (Zcj (ZG Zd6 (ZL Ym (by rfl) T.z_len YW (Za (pv 0) Zf)) (Ye (v:=.int 40) rfl T.g_MOST_FIGURES ⟨_,rfl⟩) (ZJ _))))) (Zk (ZC Zar)) ZM) (Zg (Yc (PW.pt (Zeq (ZG Yn (YJ Zd8 (pv 0) Zm (fun _ _=>rfl)) Zx (ZJ _)) (ZcT (ZG Zj8 (pv 0) Zx (ZJ _))))) (Zk (ZC Zar)) ZM) (Zk (ZC (Yi Xi (hr.mono (by omega)) rfl Yk (Za (pv 0) (Za (Ye (v:=.str Yj) rfl T.g_FIGURES ⟨_,rfl⟩) Zf))))))), ?_⟩
  refine⟨_,rfl,_,_,rfl,⟨hz,rfl⟩,rfl,_,rfl, ?_⟩;refine Xd (fun e=>Xm ?_) (fun e=> ?_)
  ·have e:V.int (x.length:Int)=V.int 0:=of_decide_eq_true e;have e:x.length=0:=by injection e with e;omega
   exact JQ (k H (ZS.refl H)) (by unfold Xj;rw[if_pos (.inl e)])
  ·have e:¬V.int (x.length:Int)=V.int 0:=fun z=>e (decide_eq_true z);have e:x.length≠0:=fun z=>e (by rw[z];rfl)
   refine⟨_,rfl,_,_,rfl,⟨hz,rfl⟩,_,_,rfl,rfl,_,rfl, ?_⟩;refine Xd (fun e2=> ?_) (fun e2=> ?_)
   ·have e2:(40:Int)<(x.length:Int):=of_decide_eq_true e2;exact JQ (k H (ZS.refl H)) (by unfold Xj;rw[if_pos (.inr (by omega))])
   ·have e2:¬(40:Int)<(x.length:Int):=fun z=>e2 (decide_eq_true z);have hn:¬(x.length=0\/40<x.length):=by omega
    obtain⟨c,hc⟩:=Zc7 (xs:=x.cps.toList) (i:=0) (by omega) (by rw[Array.length_toList];show(0:Int)<((x.length:Nat):Int);omega)
    have hh:(cs x).head? =some c:=Zfv hc;refine⟨_,rfl,x,0,c,rfl,rfl,hz,hc,rfl,_,rfl, ?_⟩;have fin:¬((cs x).head? =some 48/\x≠⟨#[48]⟩)->Xj x=x.cps.toList.all (inS Yj):=fun z=>by
     unfold Xj;rw[if_neg hn,if_neg z]
    refine Xd (fun e3=> ?_) (fun e3=> ?_)
    ·have e3:c=48:=(Zc8 c).mp (of_decide_eq_true e3);refine⟨_,rfl,rfl,_,rfl, ?_⟩
     by_cases ex:x=⟨#[48]⟩
     ·refine Zkl (by rw[ex,<-Zi2]) ?_;refine⟨_,rfl,x,Yj,rfl,hx,fun H' s'=> ?_⟩;exact JQ (k H' s') (by rw[fin (fun z=>z.2 ex)])
     ·have ed:decide (V.str x=V.str (Str.ofString "0"))=false:=decide_eq_false (fun z=>ex ((V.str.inj z).trans Zi2));show if(!decide (V.str x=V.str (Str.ofString "0")))=true then _ else _;rw[ed];refine Xm ?_;exact JQ (k H (ZS.refl H)) (by unfold Xj;rw[if_neg hn,if_pos ⟨by rw[hh,e3],ex⟩])
    ·have e3:¬c=48:=fun z=>e3 (decide_eq_true ((Zc8 c).mpr z));refine YT ?_;refine⟨_,rfl,x,Yj,rfl,hx,fun H' s'=> ?_⟩;exact JQ (k H' s') (by rw[fin (fun z=>e3 (by have:=z.1;rw[hh] at this;exact Option.some.inj this))])
theorem Zca:ZV ["letter"] ["letter"] (Zz Jf):=⟨rfl,rfl,rfl,by decide+kernel,rfl,by decide+kernel,by decide+kernel⟩
theorem Zcb{f:Addr}{fd:FuncData}(F:Fun K "days_of_letter" "days_of_letter" Jf f fd)(T:Txt K mg t_YEAR_DAYS t_MONTH_DAYS t_MOST_FIGURES t_MOST_LETTERS t_FIGURES t_LETTERS t_MOST_WORDS Zn Zi Zj Zc Zo ZP Zh Zd Zu ZD Zr Zq Zt Zv ZF ZQ):Yx P w K mg base CX0 1 f fd ["letter"] XQ:=by
 refine F.ok Zca (fun vs H Q E h=> ?_) (fun cdv A outer s H vs Q E hr h=> ?_)
 ·obtain⟨x,rfl,_⟩:=h
  rfl
 ·obtain⟨x,rfl,k⟩:=h;have q:=k H (ZS.refl H);unfold Ja at q
  refine⟨_,(Zg (Yc (ZG Yn (pv 0) Zx (ZJ _)) (Zk (ZC (Ye (v:=.int 360) rfl T.g_YEAR_DAYS ⟨_,rfl⟩))) ZM) (Zg (Yc (ZG Yn (pv 0) Zx (ZJ _)) (Zk (ZC (Ye (v:=.int 30) rfl T.g_MONTH_DAYS ⟨_,rfl⟩))) ZM) (Zg (Yc (ZG Yn (pv 0) Zx (ZJ _)) (Zk (ZC Zm)) ZM) (Zk (ZC Zd2))))), ?_⟩;have ds:∀y:Str,V.str x=V.str y->x=y:=fun y e=>by injection e
  refine⟨_,rfl,rfl,_,rfl,Xd (fun e=> ?_) (fun e=> ?_)⟩
  ·rw[if_pos (ds _ (of_decide_eq_true e))] at q
   exact q
  ·rw[if_neg (fun z=>e (decide_eq_true (by rw[z])))] at q
   refine⟨_,rfl,rfl,_,rfl,Xd (fun e=> ?_) (fun e=> ?_)⟩
   ·rw[if_pos (ds _ (of_decide_eq_true e))] at q
    exact q
   ·rw[if_neg (fun z=>e (decide_eq_true (by rw[z])))] at q
    refine⟨_,rfl,rfl,_,rfl,Xd (fun e=> ?_) (fun e=> ?_)⟩
    ·rw[if_pos (ds _ (of_decide_eq_true e))] at q
     exact q
    ·rw[if_neg (fun z=>e (decide_eq_true (by rw[z])))] at q
     exact q
theorem JX:ZV ["text","number","unit"] ["text"] (Zz Za9):=⟨rfl,rfl,rfl,by decide+kernel,rfl,by decide+kernel,by decide+kernel⟩
theorem Zdu{f:Addr}{fd:FuncData}(F:Fun K "length_read" "length_read" Za9 f fd)(T:Txt K mg t_YEAR_DAYS t_MONTH_DAYS t_MOST_FIGURES t_MOST_LETTERS t_FIGURES t_LETTERS t_MOST_WORDS Zn Zi Zj Zc Zo ZP Zh Zd Zu ZD Zr Zq Zt Zv ZF ZQ)(o_NoLength:ZcM "NoLength" Zh mg base)(Jh:Cal P w K mg base CX0 1 "days_of_letter" ["letter"] XQ)(Zbe:Cal P w K mg base CX0 2 "is_number" ["text"] ZaJ):Yx P w K mg base (CXr P w) 3 f fd ["text"] (JR Zh):=by
 refine okX F JX (fun vs H Q E h=> ?_) (fun cdv A outer s H vs Q E hr h=> ?_)
 ·obtain⟨x,rfl,_⟩:=h
  rfl
 ·obtain⟨x,rfl,hx,hok,k1,k2⟩:=h;have l5:=YK;have hz:x.length<=sizeLine:=by omega
  have lr:=StrLaws.reprText_len x hok;have ln:(Xh x).length<=x.length:=Txt.slice_le x none (some (-1));refine⟨_,(Zg (ZR (i:=1) JX.nd rfl (Or.inl rfl) (Yo Zex (pv 0) Xa (Ys (Zgo Zer Zm)))) (Zg (ZR (i:=2) JX.nd rfl (Or.inl rfl) (Yi Jh (hr.mono (by omega)) rfl Yk (Za (Yo Zex (pv 0) (Ys (Zgo Zer Zm)) Xa) Zf))) (Zg (Yc (PW.pt (ZbW (ZG Zjs (pv 2) Zd2 (ZJ _)) (Zcj (XF (XD (Yi Zbe (hr.mono (by omega)) rfl Yk (Za (pv 1) Zf))))))) (Zk (Zax Je o_NoLength rfl rfl (Za (Zc3 (XN (ZcX (pv 0)) (XN Zcn Zdf))) Zf))) ZM) (Zk (ZC (Zy Zbr (Xy ZeA (by rfl) T.z_int ZfX (Za (pv 1) Zf)) (pv 2))))))), ?_⟩
  refine⟨_,rfl,_,rfl,_,rfl,_,rfl,hz, ?_⟩;refine⟨_,rfl,_,rfl,_,rfl,_,rfl,hz,_,rfl,fun H1 s1=> ?_⟩;rcases Zdm (Txt.slice x (some (-1)) none) with e|⟨u,e,hu⟩
  ·have en:Jo x=.non:=by unfold Jo;rw[show ZbA x=.non from e]
   rw[e];refine⟨_,rfl,rfl,_,rfl,Xm (Xm ?_)⟩;refine⟨_,rfl,x,rfl,by omega,hok, ?_⟩
   try dsimp only
   rw[JH];exact⟨by omega,Jp hx hok (by decide),Jp hx hok (by decide),(by show 1<=sizeLine;omega),k2 en H1 s1⟩
  ·rw[e];refine⟨_,rfl,rfl,_,rfl,YT ?_⟩;refine⟨_,rfl,Xh x,rfl,by omega,fun H2 s2=>⟨_,rfl, ?_⟩⟩;cases f:Xj (Xh x) with
   |false=>
    have en:Jo x=.non:=by unfold Jo;rw[show ZbA x=.int (u:Int) from e,f];rfl
    refine Xm ?_;refine⟨_,rfl,x,rfl,by omega,hok, ?_⟩
    try dsimp only
    rw[JH];exact⟨by omega,Jp hx hok (by decide),Jp hx hok (by decide),(by show 1<=sizeLine;omega),k2 en H2 (s1.trans s2)⟩
   |true=>
    have en:Jo x=.int ((dv (Xh x):Int)*(u:Int)):=by unfold Jo;rw[show ZbA x=.int (u:Int) from e,f];rfl
    obtain⟨a1,a2,a3⟩:=Zdl f;refine YT ?_;refine⟨_,rfl,Xh x,_,rfl,Zh9 a1 a2 (by omega),by omega,_,rfl,_,_,rfl,rfl,IntMulOk.of_right (intBits_le_64 (by omega) (by omega)), ?_⟩;exact JQ (k1 (by rw[en];intro z;cases z) H2 (s1.trans s2)) en
theorem ZcP:ZV ["days"] ["days"] (Zz JM):=⟨rfl,rfl,rfl,by decide+kernel,rfl,by decide+kernel,by decide+kernel⟩
theorem ZcQ{f:Addr}{fd:FuncData}(F:Fun K "length_shown" "length_shown" JM f fd)(T:Txt K mg t_YEAR_DAYS t_MONTH_DAYS t_MOST_FIGURES t_MOST_LETTERS t_FIGURES t_LETTERS t_MOST_WORDS Zn Zi Zj Zc Zo ZP Zh Zd Zu ZD Zr Zq Zt Zv ZF ZQ):Yx P w K mg base CX0 1 f fd ["days"] Jw:=by
 refine F.ok ZcP (fun vs H Q E h=> ?_) (fun cdv A outer s H vs Q E hr h=> ?_)
 ·obtain⟨d,rfl,_⟩:=h
  rfl
 ·obtain⟨d,rfl,hd,k⟩:=h;have l5:=YK;have q:=k H (ZS.refl H);unfold Zbb at q
  have a1:=ZbL (m:=d/360) (by omega);have a2:=ZbL (m:=d/30) (by omega);have a3:=ZbL hd;refine⟨_,(Zg (Yc (ZG Yn (Zy Yt (pv 0) (Ye (v:=.int 360) rfl T.g_YEAR_DAYS ⟨_,rfl⟩)) Zm (ZJ _)) (Zk (ZC (Zy Jc (Xy XM (by rfl) T.z_str Zde (Za (Zy YC (pv 0) (Ye (v:=.int 360) rfl T.g_YEAR_DAYS ⟨_,rfl⟩)) Zf)) Zx))) ZM) (Zg (Yc (ZG Yn (Zy Yt (pv 0) (Ye (v:=.int 30) rfl T.g_MONTH_DAYS ⟨_,rfl⟩)) Zm (ZJ _)) (Zk (ZC (Zy Jc (Xy XM (by rfl) T.z_str Zde (Za (Zy YC (pv 0) (Ye (v:=.int 30) rfl T.g_MONTH_DAYS ⟨_,rfl⟩)) Zf)) Zx))) ZM) (Zk (ZC (Zy Jc (Xy XM (by rfl) T.z_str Zde (Za (pv 0) Zf)) Zx))))), ?_⟩
  refine(vI rfl (by show(0:Int)<360;decide) ⟨rfl,_,rfl,Xd (fun e=> ?_) (fun e=> ?_)⟩)
  ·have e:V.int ((d:Int)%360)=V.int 0:=of_decide_eq_true e;have e:d%360=0:=by injection e with e;omega
   rw[if_pos e] at q
   refine(vI rfl ⟨by decide,by decide⟩ ⟨((d/360:Nat):Int),rfl,Zdk (by omega),_,_,rfl,rfl, ?_,q⟩);show(num (d/360)).length+1<=sizeLine;omega
  ·have e:¬V.int ((d:Int)%360)=V.int 0:=fun z=>e (decide_eq_true z);have e:¬d%360=0:=fun z=>e (by congr 1;omega)
   rw[if_neg e] at q
   refine(vI rfl (by show(0:Int)<30;decide) ⟨rfl,_,rfl,Xd (fun e=> ?_) (fun e=> ?_)⟩)
   ·have e:V.int ((d:Int)%30)=V.int 0:=of_decide_eq_true e;have e:d%30=0:=by injection e with e;omega
    rw[if_pos e] at q
    refine(vI rfl ⟨by decide,by decide⟩ ⟨((d/30:Nat):Int),rfl,Zdk (by omega),_,_,rfl,rfl, ?_,q⟩);show(num (d/30)).length+1<=sizeLine;omega
   ·have e:¬V.int ((d:Int)%30)=V.int 0:=fun z=>e (decide_eq_true z);have e:¬d%30=0:=fun z=>e (by congr 1;omega)
    rw[if_neg e] at q
    refine⟨_,rfl,((d:Nat):Int),rfl,Zdk hd,_,_,rfl,rfl, ?_,q⟩;show(num d).length+1<=sizeLine;omega
theorem Zgb:ZV ["text"] ["text"] (Zz Zco):=⟨rfl,rfl,rfl,by decide+kernel,rfl,by decide+kernel,by decide+kernel⟩
theorem Zgc{f:Addr}{fd:FuncData}(F:Fun K "is_name" "is_name" Zco f fd)(T:Txt K mg t_YEAR_DAYS t_MONTH_DAYS t_MOST_FIGURES t_MOST_LETTERS t_FIGURES t_LETTERS t_MOST_WORDS Zn Zi Zj Zc Zo ZP Zh Zd Zu ZD Zr Zq Zt Zv ZF ZQ)(Xi:Cal P w K mg base CX0 1 "is_made_of" ["text","signs"] Jl):Yx P w K mg base CX0 2 f fd ["text"] ZbM:=by
 refine F.ok Zgb (fun vs H Q E h=> ?_) (fun cdv A outer s H vs Q E hr h=> ?_)
 ·obtain⟨x,rfl,_⟩:=h
  rfl
 ·obtain⟨x,rfl,hx,k⟩:=h;have hz:=Nat.le_trans hx YK;refine⟨_,(Zg (Yc (PW.pt (ZbW (ZG Yn (ZL Ym (by rfl) T.z_len YW (Za (pv 0) Zf)) Zm (ZJ _)) (Zcj (ZG Zd6 (ZL Ym (by rfl) T.z_len YW (Za (pv 0) Zf)) (Ye (v:=.int 12) rfl T.g_MOST_LETTERS ⟨_,rfl⟩) (ZJ _))))) (Zk (ZC Zar)) ZM) (Zk (ZC (Yi Xi (hr.mono (by omega)) rfl Yk (Za (pv 0) (Za (Ye (v:=.str YH) rfl T.g_LETTERS ⟨_,rfl⟩) Zf)))))), ?_⟩;refine⟨_,rfl,_,_,rfl,⟨hz,rfl⟩,rfl,_,rfl, ?_⟩
  refine Xd (fun e=>Xm ?_) (fun e=> ?_)
  ·have e:V.int (x.length:Int)=V.int 0:=of_decide_eq_true e;have e:x.length=0:=by injection e with e;omega
   have ev:Yp x=false:=by simp[Yp,e]
   have q:=k H (ZS.refl H);rw[ev] at q
   exact q
  ·have e:¬V.int (x.length:Int)=V.int 0:=fun z=>e (decide_eq_true z);have e:x.length≠0:=fun z=>e (by rw[z];rfl)
   refine⟨_,rfl,_,_,rfl,⟨hz,rfl⟩,_,_,rfl,rfl,_,rfl, ?_⟩;refine Xd (fun e2=> ?_) (fun e2=> ?_)
   ·have e2:(12:Int)<(x.length:Int):=of_decide_eq_true e2;have ev:Yp x=false:=by
     have:¬x.length<=12:=by omega
     simp[Yp,this]
    have q:=k H (ZS.refl H);rw[ev] at q
    exact q
   ·have e2:¬(12:Int)<(x.length:Int):=fun z=>e2 (decide_eq_true z);refine⟨_,rfl,x,YH,rfl,hx,fun H' s'=> ?_⟩;have ev:Yp x=x.cps.toList.all (inS YH):=by
     have h1:1<=x.length:=by omega
     have h2:x.length<=12:=by omega
     simp[Yp,h1,h2]
    have q:=k H' s';rw[ev] at q
    exact q
theorem abc:∀c∈cs (Str.ofString "abcdefghijklmnopqrstuvwxyz"),97<=c/\c<=122:=by decide+kernel
theorem ZeO:(Str.ofString "abcdefghijklmnopqrstuvwxyz").length=26:=by decide+kernel
theorem Zi6{i:Int}(h0:0<=i)(h1:i<26):∃c,atI (Str.ofString "abcdefghijklmnopqrstuvwxyz").cps.toList i=some c/\97<=c/\c<=122:=by
 have l:(Str.ofString "abcdefghijklmnopqrstuvwxyz").cps.toList.length=26:=by rw[Array.length_toList];exact ZeO
 obtain⟨c,e⟩:=Zc7 (xs:=(Str.ofString "abcdefghijklmnopqrstuvwxyz").cps.toList) (i:=i) (by rw[l];omega) (by rw[l];omega)
 refine⟨c,e, ?_⟩;obtain⟨j,_,hj,_⟩:=Zc1 e;have m:c∈cs (Str.ofString "abcdefghijklmnopqrstuvwxyz"):=List.mem_of_getElem? hj;exact abc c m
theorem ZkE{c:Bool}{A B:Prop}(hb:¬c=true->B)(ha:c=true->A):if c=true then A else B:=Xd ha hb
def Lts(ss:List Str):Prop:=∀z∈ss,∃c,z=⟨#[c]⟩/\97<=c/\c<=122
theorem Lts.flat:∀{ss:List Str},Lts ss->((ss.map cs).flatten.length=ss.length/\∀c∈(ss.map cs).flatten,97<=c/\c<=122)/\(ss.map (·.length)).sum=ss.length
 |[],_=>⟨⟨rfl,fun c h=>by cases h⟩,rfl⟩
 |z::ss,h=>by
  obtain⟨c,e,h1,h2⟩:=h z (List.mem_cons_self ..);obtain⟨⟨i1,i2⟩,i3⟩:=Lts.flat (ss:=ss) fun y hy=>h y (List.mem_cons_of_mem _ hy);subst e;refine⟨⟨?_,fun d hd=> ?_⟩, ?_⟩
  ·rw[List.map_cons,List.flatten_cons,List.length_append,i1,List.length_cons];show 1+_=_;omega
  ·rw[List.map_cons,List.flatten_cons] at hd
   rcases List.mem_append.mp hd with q|q
   ·have:d=c:=by simpa [Za8] using q
    omega
   ·exact i2 d q
  ·rw[List.map_cons,List.sum_cons,i3,List.length_cons];show 1+_=_;omega
theorem Yb:ZV ["_law_cell","_law_k","_law_letters","_law_size","_law_at","_law_way","_law_name_here","_law_j","_law_place"] ["_law_cell","_law_k"] (Zz Zab):=⟨rfl,rfl,rfl,by decide+kernel,rfl,by decide+kernel,by decide+kernel⟩
theorem Zdv{f:Addr}{fd:FuncData}(F:Fun K "_law_name_by" "_law_name_by" Zab f fd)(T:Txt K mg t_YEAR_DAYS t_MONTH_DAYS t_MOST_FIGURES t_MOST_LETTERS t_FIGURES t_LETTERS t_MOST_WORDS Zn Zi Zj Zc Zo ZP Zh Zd Zu ZD Zr Zq Zt Zv ZF ZQ):Yx P w K mg base CX0 1 f fd ["_law_cell","_law_k"] JS:=by
 refine F.ok Yb (fun vs H Q E h=> ?_) (fun cdv A outer s H vs Q E hr h=> ?_)
 ·obtain⟨n,k,rfl,_⟩:=h
  rfl
 ·obtain⟨n,k,rfl,q⟩:=h;have l5:=YK;have m1:=Int.emod_nonneg n (show(12:Int)≠0 by decide);have m2:=Int.emod_lt_of_pos n (show(0:Int)<12 by decide);have m3:=Int.emod_nonneg k (show(12:Int)≠0 by decide);have m4:=Int.emod_lt_of_pos k (show(0:Int)<12 by decide);refine⟨_,(Zg (ZR (i:=2) Yb.nd rfl (Or.inr rfl) Zx) (Zg (ZR (i:=3) Yb.nd rfl (Or.inl rfl) (Zy Xf Zm (Zy Yt (pv 0) Zm))) (Zg (ZR (i:=4) Yb.nd rfl (Or.inl rfl) (Zy Yt (Zy YC (pv 0) Zm) (pv 3))) (Zg (ZR (i:=5) Yb.nd rfl (Or.inl rfl) (Zy Yt (Zy YC (pv 0) Zm) Zm)) (Zg (Yc (ZG Yn (pv 5) Zm (ZJ _)) (Zg (ZR (i:=3) Yb.nd rfl (Or.inl rfl) (Zy Xf Zm (Zy Yt (pv 1) Zm))) (Zk (ZR (i:=4) Yb.nd rfl (Or.inl rfl) Zm))) ZM) (Zg (Yc (ZG Yn (pv 5) Zm (ZJ _)) (Zk (ZC (Zat PySem.F.plainAttrs_str PySem.F.slot_str_join PySem.F.type_str_join Zav Zx (Za (Zez ["_law_j"] [("_law_letters",2),("_law_k",1),("_law_cell",0)] rfl (Ze2 rfl T.z_range (Za Zm Zf)) (by rfl) (by exact⟨rfl,⟨rfl,⟨rfl,trivial⟩⟩⟩) (by rfl) (by exact⟨⟨rfl,rfl,rfl⟩,⟨⟨rfl,rfl,rfl⟩,⟨⟨rfl,rfl,rfl⟩,trivial⟩⟩⟩) (fun _ _ _ _=>(XH (i:=0) (show(nmY ["_law_j"] [("_law_letters",2),("_law_k",1),("_law_cell",0)]).Nodup by decide+kernel) rfl (Or.inl rfl))) (fun _ _ _ _=>Zgv) (fun _ _ _ _=>(YJ Zd8 (pv 1) (Zy Xf (Zy Yt (Zy Xf (pv 0) (pv 2)) Zm) (Zy Yt (Zy YC (pv 3) Zm) Zm)) (fun _ _=>rfl)))) Zf)))) ZM) (Zg (ZR (i:=6) Yb.nd rfl (Or.inl rfl) Zx) (Zg (Zck PassesOwn.never rfl (Ze2 rfl T.z_range (Za (pv 3) Zf)) (XH (i:=7) Yb.nd rfl (Or.inl rfl)) (Zg (ZR (i:=8) Yb.nd rfl (Or.inl rfl) (Zy Xf (Zy Xf (Zy YC (pv 0) (Zy Xf (pv 7) Zm)) (Zy Zbr (pv 7) (pv 7))) (Zy Zbr (pv 1) (Xy Ze3 (by rfl) T.z_int ZfX (Za (XJ Yn (pv 7) (pv 4) (ZJ _)) Zf))))) (Zk (ZR (i:=6) Yb.nd rfl (Or.inl rfl) (Zy Jc (pv 6) (YJ Zd8 (pv 2) (Zy Yt (pv 8) Zm) (fun _ _=>rfl))))))) (Zk (ZC (pv 6))))))))))), ?_⟩
  refine(vI rfl (by show(0:Int)<12;decide) ⟨_,_,rfl,rfl, ?_⟩)
  refine(vI rfl ⟨by decide,by decide⟩ ⟨_,rfl,_,_,rfl,rfl,(by show 0<1+n%12;omega), ?_⟩)
  refine(vI rfl ⟨by decide,by decide⟩ ⟨_,_,rfl,rfl,(by show(0:Int)<3;decide), ?_⟩)
  obtain⟨S0,e0,p1,p2⟩:∃S0,1+n%12=S0/\1<=S0/\S0<=12:=⟨_,rfl,by omega,by omega⟩
  obtain⟨S1,e1,p3,p4⟩:∃S1,1+k%12=S1/\1<=S1/\S1<=12:=⟨_,rfl,by omega,by omega⟩
  refine(fun(rest:∀σ':L2.St,(∃sz at_:Int,1<=sz/\sz<=12/\σ'=[some (.int n),some (.int k),some (.str (Str.ofString "abcdefghijklmnopqrstuvwxyz")),some (.int sz),some (.int at_),some (.int (n/144%3)),none,none,none])->(_:L2.St->Hp->Prop) σ' H)=>
   ⟨_,rfl,rfl,_,rfl,ZkE (fun _=>rest _ ⟨_,_,by omega,by omega,rfl⟩) (fun _=>(vI rfl (by show(0:Int)<12;decide) ⟨_,_,rfl,rfl,rest _ ⟨_,_,by omega,by omega,rfl⟩⟩))⟩) ?rest
  case rest=>
   rintro σ' ⟨sz,at_,p1,p2,rfl⟩;refine⟨_,rfl,rfl,_,rfl,Xd (fun _=> ?_) (fun _=> ?_)⟩
   ·refine⟨rfl,12,rfl,by decide,by decide,Zfm fun D hD=>⟨12,fun i ys H2=>∃ss:List Str,ys=ss.map V.str/\ss.length=i/\Lts ss/\ZS H H2,by omega,⟨[],rfl,rfl,(fun z hz=>nomatch hz),Ze hD⟩,fun i ys H2 ⟨ss,e,l,_⟩=>by rw[e,List.length_map,l];exact Nat.le_refl _,
     fun i ys zs H2 H3 _ kp ⟨ss,e,l,ls,s2⟩=>⟨ss,e,l,ls,fun b u hb=>kp b u (ZK hb hD) (s2 b u hb)⟩,fun i ys H2 _ lt=>lt,fun ys H2 ⟨ss,e,l,ls,s2⟩ d=>⟨Nat.le_refl _, ?_⟩,fun i x ys H2 H3 ⟨ss,e,l,ls,s2⟩ d lt y RT RF rt rf=> ?_⟩⟩
    ·subst e;obtain⟨⟨f1,f2⟩,f3⟩:=ls.flat;refine⟨Str.empty,D,ss,rfl,rfl,SqL.of d, ?_,q _ H2 ?_ s2⟩
     ·rw[f3,l];decide
     ·rw[<-ZhI] at f1 f2
      refine⟨?_, ?_,f2⟩
      ·rw[JL,f1,l];decide
      ·rw[JL,f1,l];decide
    ·obtain⟨e1,e2⟩:=y;subst e1 e2;have a1:=Int.emod_nonneg (0+(i:Int)+k) (show(12:Int)≠0 by decide);have a2:=Int.emod_lt_of_pos (0+(i:Int)+k) (show(0:Int)<12 by decide);have a3:=Int.emod_nonneg (n/432) (show(14:Int)≠0 by decide);have a4:=Int.emod_lt_of_pos (n/432) (show(0:Int)<14 by decide);obtain⟨c,ec,c1,c2⟩:=Zi6 (i:=(0+(i:Int)+k)%12+n/432%14) (by omega) (by omega);refine⟨⟨rfl,rfl,rfl,trivial⟩,Zks ?_⟩
     refine⟨_,rfl,_,rfl,_,rfl,_,_,rfl,rfl,_,_,rfl,rfl,(by show(0:Int)<12;decide),vI rfl ⟨by decide,by decide⟩ ⟨_,_,rfl,rfl,(by show(0:Int)<14;decide),_,_,rfl,rfl,_,_,c,rfl,rfl, ?_,ec, ?_⟩⟩
     ·rw[ZeO];omega
     ·refine rt _ _ d ⟨ss++[⟨#[c]⟩],by rw[e,List.map_append];rfl,by rw[List.length_append,l];rfl,fun z hz=> ?_,s2⟩
      rcases List.mem_append.mp hz with z1|z1
      ·exact ls z z1
      ·exact⟨c,by simpa using z1,c1,c2⟩
   ·refine⟨_,rfl,_,rfl,by omega,by omega,ZgR (fun i σ H'=>∃(x:Str) (s3 s5 v v8:Option V) (t4:Int),σ=[some (.int n),some (.int k),some (.str (Str.ofString "abcdefghijklmnopqrstuvwxyz")),s3,some (.int t4),s5,some (.str x),v,v8]/\x.length=i/\(∀c∈cs x,97<=c/\c<=122)/\H'=H) ?_ ?_ ?_⟩
    ·exact⟨Str.empty,_,_,none,none,_,rfl,rfl,(fun c hc=>nomatch hc),rfl⟩
    ·rintro i σ H1 hi ⟨x,s3,s5,v,v8,t4,rfl,hl,hc,rfl⟩;have hi':(i:Int)<12:=by omega
     have ib:Builtin.Int.intBits (0+(i:Int))<=64:=intBits_le_64 (by omega) (by omega);refine⟨_,rfl,_,rfl,_,_,rfl,rfl,_,_,rfl,rfl,⟨by omega,by omega⟩,_,rfl,_,rfl,_,_,rfl,rfl,IntMulOk.of_left ib,_,_,rfl,rfl,_,rfl,_,rfl,_,rfl,rfl,.inr ⟨_,rfl,_,_,rfl,rfl,IntMulOk.of_right (intBits_le_64 (by split<;>decide) (by split<;>decide)),_,_,rfl,rfl, ?_⟩⟩
     obtain⟨c,ec,c1,c2⟩:=Zi6 (i:=(n/(0+(i:Int)+3)+(0+(i:Int))*(0+(i:Int))+k*if decide (V.int (0+(i:Int))=V.int t4)=true then 1 else 0)%26) (Int.emod_nonneg _ (by decide)) (Int.emod_lt_of_pos _ (by decide));refine⟨_,rfl,_,rfl,vI rfl (by show(0:Int)<26;decide) ⟨_,_,c,rfl,rfl, ?_,ec,_,_,rfl,rfl, ?_, ?_⟩⟩
     ·rw[ZeO];omega
     ·show x.length+1<=sizeLine;omega
     ·refine⟨x++⟨#[c]⟩,_,_,_,_,_,rfl,by rw[ZeK,hl],fun d hd=> ?_,rfl⟩;rw[Yu,Za8] at hd
      rcases List.mem_append.mp hd with z|z
      ·exact hc d z
      ·have:d=c:=by simpa using z
       omega
    ·rintro σ H1 ⟨x,s3,s5,v,v8,t4,rfl,hl,hc,rfl⟩;exact⟨_,rfl,q x _ ⟨by omega,by omega,hc⟩ (ZS.refl _)⟩
theorem Zdw:ZV ["_law_script","_law_k"] ["_law_script","_law_k"] (Zz Zaa):=⟨rfl,rfl,rfl,by decide+kernel,rfl,by decide+kernel,by decide+kernel⟩
theorem Zdx{f:Addr}{fd:FuncData}(F:Fun K "_law_cell_at" "_law_cell_at" Zaa f fd)(T:Txt K mg t_YEAR_DAYS t_MONTH_DAYS t_MOST_FIGURES t_MOST_LETTERS t_FIGURES t_LETTERS t_MOST_WORDS Zn Zi Zj Zc Zo ZP Zh Zd Zu ZD Zr Zq Zt Zv ZF ZQ):Yx P w K mg base CX0 1 f fd ["_law_script","_law_k"] (JW K):=by
 refine F.ok Zdw (fun vs H Q E h=> ?_) (fun cdv A outer s H vs Q E hr h=> ?_)
 ·obtain⟨a,ns,k,rfl,_⟩:=h
  rfl
 ·obtain⟨a,ns,k,rfl,hS,q⟩:=h;refine⟨_,(Zg (Yc (ZG Zgs (pv 1) (ZL Ym (by rfl) T.z_len YW (Za (pv 0) Zf)) (ZJ _)) (Zk (ZC (YJ Xb (pv 0) (pv 1) (fun _ _=>rfl)))) ZM) (Zk (ZC Zm))), ?_⟩;have q1:=q H (ZS.refl H);refine⟨_,rfl,_,rfl,_,_,rfl,.inl ⟨_,hS,rfl⟩,_,_,rfl,rfl,_,rfl,Xd (fun e=> ?_) (fun e=> ?_)⟩
  ·have e:(k:Int)<((ns.map V.int).length:Int):=of_decide_eq_true e;rw[List.length_map] at e
   have lt:k<ns.length:=by omega
   have ec:atI (ns.map V.int) (k:Int)=some (.int (ns[k]?.getD 0)):=by
    unfold atI ixN;rw[if_pos (by omega),List.length_map,if_pos e,Int.toNat_natCast];show(ns.map V.int)[k]? =_;rw[List.getElem?_map,List.getElem?_eq_getElem lt]
    rfl
   exact⟨_,rfl,_,rfl,a,_,_,_,rfl,rfl,hS,ec,q1⟩
  ·have e:¬(k:Int)<((ns.map V.int).length:Int):=fun z=>e (decide_eq_true z);rw[List.length_map] at e
   rw[List.getElem?_eq_none (by omega)] at q1
   exact q1
theorem kd:¬(("kind":Str)="days"):=by decide+kernel
theorem oo:¬(("one":Str)="other"):=by decide+kernel
theorem Zj0(k:Str)(d:Int):(fA k d).lookup ("kind":Str)=some (.str k):=by
 unfold fA;rw[Yl,if_neg kd,Yl,if_pos rfl]
theorem Zj1(k:Str)(d:Int):(fA k d).lookup ("days":Str)=some (.int d):=by
 unfold fA;rw[Yl,if_pos rfl]
theorem Zi7(p q:Addr):(fP p q).lookup ("one":Str)=some (.ref p):=by
 unfold fP;rw[Yl,if_neg oo,Yl,if_pos rfl]
theorem Zfx(p q:Addr):(fP p q).lookup ("other":Str)=some (.ref q):=by
 unfold fP;rw[Yl,if_pos rfl]
theorem ZkF(k:Str)(d:Int){m:Str}(h1:¬m="days")(h2:¬m="kind"):(fA k d).lookup m=none:=by
 unfold fA;rw[Yl,if_neg h1,Yl,if_neg h2]
 rfl
theorem Zjf(p q:Addr){m:Str}(h1:¬m="other")(h2:¬m="one"):(fP p q).lookup m=none:=by
 unfold fP;rw[Yl,if_neg h1,Yl,if_neg h2]
 rfl
theorem Yv.same{cn ca cl ce:Addr}{H H':Hp}(s:ZS H H'):∀{t:Tr} {a:Addr},Yv cn ca cl ce H t a->Yv cn ca cl ce H' t a
 | .never,a,⟨dx,h⟩=>⟨dx,s _ _ h⟩
 | .after k d,a,⟨dx,h⟩=>⟨dx,s _ _ h⟩
 | .later x y,a,⟨dx,p,q,h,h1,h2⟩=>⟨dx,p,q,s _ _ h,h1.same s,h2.same s⟩
 | .earlier x y,a,⟨dx,p,q,h,h1,h2⟩=>⟨dx,p,q,s _ _ h,h1.same s,h2.same s⟩
theorem Tr.deep_cnt:∀t:Tr,t.deep<t.cnt
 | .never=>Nat.zero_lt_one
 | .after _ _=>Nat.zero_lt_one
 | .later x y=>by
  have h1:=x.deep_cnt;have h2:=y.deep_cnt;simp only [Tr.deep,Tr.cnt];omega
 | .earlier x y=>by
  have h1:=x.deep_cnt;have h2:=y.deep_cnt;simp only [Tr.deep,Tr.cnt];omega
theorem Zi8{cn ca cl ce:Addr}{H:Hp}{a:Addr}:∀{t:Tr},Yv cn ca cl ce H t a->∃dx fs,H a=some (.ins (Zef cn ca cl ce t) dx fs)/\∀m:Str,¬m="days"->¬m="kind"->¬m="other"->¬m="one"->fs.lookup m=none
 | .never,⟨dx,h⟩=>⟨dx,_,h,fun _ _ _ _ _=>rfl⟩
 | .after k d,⟨dx,h⟩=>⟨dx,_,h,fun _ h1 h2 _ _=>ZkF k d h1 h2⟩
 | .later x y,⟨dx,p,q,h,_⟩=>⟨dx,_,h,fun _ _ _ h1 h2=>Zjf p q h1 h2⟩
 | .earlier x y,⟨dx,p,q,h,_⟩=>⟨dx,_,h,fun _ _ _ h1 h2=>Zjf p q h1 h2⟩
theorem ZjU{cn ca cl ce:Addr}:∀t:Tr,(Zef cn ca cl ce t=cn\/Zef cn ca cl ce t=ca\/Zef cn ca cl ce t=cl\/Zef cn ca cl ce t=ce)
 | .never=> .inl rfl
 | .after _ _=> .inr (.inl rfl)
 | .later _ _=> .inr (.inr (.inl rfl))
 | .earlier _ _=> .inr (.inr (.inr rfl))
theorem ZdT:ZV ["self","kind","days"] ["self","kind","days"] (Zz ZaI):=⟨rfl,rfl,rfl,by decide+kernel,rfl,by decide+kernel,by decide+kernel⟩
theorem ZdU{f:Addr}{fd:FuncData}(F:Fun K "__init__" "After.__init__" ZaI f fd)(T:Txt K mg t_YEAR_DAYS t_MONTH_DAYS t_MOST_FIGURES t_MOST_LETTERS t_FIGURES t_LETTERS t_MOST_WORDS Zn Zi Zj Zc Zo ZP Zh Zd Zu ZD Zr Zq Zt Zv ZF ZQ){C:Addr}(cl:Cls K C)(n_kind:Xk K C "kind")(n_days:Xk K C "days"):Yx P w K mg base CX0 1 f fd ["self","kind","days"] (Zag C):=by
 refine F.ok ZdT (fun vs H Q E h=> ?_) (fun cdv A outer s H vs Q E hr h=> ?_)
 ·obtain⟨x,dx,k,d,rfl,_⟩:=h
  rfl
 ·obtain⟨x,dx,k,d,rfl,hx,q⟩:=h;refine⟨_,(Zg (Zeu (pv 0) (pv 1) rfl) (Zk (Zeu (pv 0) (pv 2) rfl))), ?_⟩;refine⟨_,rfl,_,rfl,x,C,dx,_,rfl,hx,cl,n_kind,(by show 0<1000;decide),_,rfl,_,rfl,x,C,dx,_,rfl,Zb,cl,n_days,(by show 1<1000;decide), ?_⟩
  rw[YZ];exact q
theorem ZeP:ZV ["self","one","other"] ["self","one","other"] (Zz Za6):=⟨rfl,rfl,rfl,by decide+kernel,rfl,by decide+kernel,by decide+kernel⟩
theorem Zcc{f:Addr}{fd:FuncData}(F:Fun K "__init__" "Pair.__init__" Za6 f fd)(T:Txt K mg t_YEAR_DAYS t_MONTH_DAYS t_MOST_FIGURES t_MOST_LETTERS t_FIGURES t_LETTERS t_MOST_WORDS Zn Zi Zj Zc Zo ZP Zh Zd Zu ZD Zr Zq Zt Zv ZF ZQ){C:Addr}(cl:Cls K C)(n_one:Xk K C "one")(n_other:Xk K C "other"):Yx P w K mg base CX0 1 f fd ["self","one","other"] (XR C):=by
 refine F.ok ZeP (fun vs H Q E h=> ?_) (fun cdv A outer s H vs Q E hr h=> ?_)
 ·obtain⟨x,dx,p,q,rfl,_⟩:=h
  rfl
 ·obtain⟨x,dx,p,q,rfl,hx,k⟩:=h;refine⟨_,(Zg (Zeu (pv 0) (pv 1) rfl) (Zk (Zeu (pv 0) (pv 2) rfl))), ?_⟩;refine⟨_,rfl,_,rfl,x,C,dx,_,rfl,hx,cl,n_one,(by show 0<1000;decide),_,rfl,_,rfl,x,C,dx,_,rfl,Zb,cl,n_other,(by show 1<1000;decide), ?_⟩
  rw[YZ];exact k
theorem Jq{H:Hp}{x dx:Addr}{o:HO}(h1:H x=none)(h2:H dx=none):ZS H (upd (upd H dx (.own x)) x o):=fun b u e=>by
 rw[Zw (ZK e h1),Zw (ZK e h2)];exact e
theorem Zi9:ZV [] [] (Zz ZeH):=⟨rfl,rfl,rfl,by decide+kernel,rfl,by decide+kernel,by decide+kernel⟩
theorem Zia{f:Addr}{fd:FuncData}(F:Fun K "never" "never" ZeH f fd)(T:Txt K mg t_YEAR_DAYS t_MONTH_DAYS t_MOST_FIGURES t_MOST_LETTERS t_FIGURES t_LETTERS t_MOST_WORDS Zn Zi Zj Zc Zo ZP Zh Zd Zu ZD Zr Zq Zt Zv ZF ZQ)(ZeQ:ZjH K mg "Never" Zn):Yx P w K mg base CX0 1 f fd [] (Zdn Zn Zi Zj Zc):=by
 refine F.ok Zi9 (fun vs H Q E h=> ?_) (fun cdv A outer s H vs Q E hr h=> ?_)
 ·obtain⟨rfl,_⟩:=h
  rfl
 ·obtain⟨rfl,q⟩:=h;refine⟨_,(Zk (ZC (ZiJ ZeQ rfl))), ?_⟩;exact fun x dx h1 h2 _=>q x _ (Jq h1 h2) h1 ⟨dx,Zb⟩
theorem Zib:ZV ["kind","days"] ["kind","days"] (Zz ZeI):=⟨rfl,rfl,rfl,by decide+kernel,rfl,by decide+kernel,by decide+kernel⟩
theorem Zic{f:Addr}{fd:FuncData}(F:Fun K "after" "after" ZeI f fd)(T:Txt K mg t_YEAR_DAYS t_MONTH_DAYS t_MOST_FIGURES t_MOST_LETTERS t_FIGURES t_LETTERS t_MOST_WORDS Zn Zi Zj Zc Zo ZP Zh Zd Zu ZD Zr Zq Zt Zv ZF ZQ)(ZeR:Zg2 P w K mg base CX0 1 "After" Zi ["self","kind","days"] (Zag Zi)):Yx P w K mg base CX0 3 f fd ["kind","days"] (Zdo Zn Zi Zj Zc):=by
 refine F.ok Zib (fun vs H Q E h=> ?_) (fun cdv A outer s H vs Q E hr h=> ?_)
 ·obtain⟨k,d,rfl,_⟩:=h
  rfl
 ·obtain⟨k,d,rfl,q⟩:=h;refine⟨_,(Zk (ZC (Zg4 ZeR (hr.mono (by omega)) rfl Yk (Za (pv 0) (Za (pv 1) Zf))))), ?_⟩;refine⟨_,rfl,_,rfl,fun x dx h1 h2 _=>⟨x,dx,k,d,rfl,Zb,rfl, ?_⟩⟩;rw[YZ];exact q x _ (Jq h1 h2) h1 ⟨dx,Zb⟩
theorem Zid:ZV ["one","other"] ["one","other"] (Zz ZeJ):=⟨rfl,rfl,rfl,by decide+kernel,rfl,by decide+kernel,by decide+kernel⟩
theorem Zie{f:Addr}{fd:FuncData}(F:Fun K "later" "later" ZeJ f fd)(T:Txt K mg t_YEAR_DAYS t_MONTH_DAYS t_MOST_FIGURES t_MOST_LETTERS t_FIGURES t_LETTERS t_MOST_WORDS Zn Zi Zj Zc Zo ZP Zh Zd Zu ZD Zr Zq Zt Zv ZF ZQ)(ZeS:Zg2 P w K mg base CX0 1 "Later" Zj ["self","one","other"] (XR Zj)):Yx P w K mg base CX0 3 f fd ["one","other"] (Zdp Zn Zi Zj Zc):=by
 refine F.ok Zid (fun vs H Q E h=> ?_) (fun cdv A outer s H vs Q E hr h=> ?_)
 ·obtain⟨p,q,x,y,rfl,_⟩:=h
  rfl
 ·obtain⟨p,q,x,y,rfl,t1,t2,k⟩:=h;refine⟨_,(Zk (ZC (Zg4 ZeS (hr.mono (by omega)) rfl Yk (Za (pv 0) (Za (pv 1) Zf))))), ?_⟩;refine⟨_,rfl,_,rfl,fun a dx h1 h2 _=>⟨a,dx,p,q,rfl,Zb,rfl, ?_⟩⟩;rw[YZ];exact k a _ (Jq h1 h2) h1 ⟨dx,p,q,Zb,t1.same (Jq h1 h2),t2.same (Jq h1 h2)⟩
theorem Zgd:ZV ["one","other"] ["one","other"] (Zz Zcp):=⟨rfl,rfl,rfl,by decide+kernel,rfl,by decide+kernel,by decide+kernel⟩
theorem Zge{f:Addr}{fd:FuncData}(F:Fun K "earlier" "earlier" Zcp f fd)(T:Txt K mg t_YEAR_DAYS t_MONTH_DAYS t_MOST_FIGURES t_MOST_LETTERS t_FIGURES t_LETTERS t_MOST_WORDS Zn Zi Zj Zc Zo ZP Zh Zd Zu ZD Zr Zq Zt Zv ZF ZQ)(Zcr:Zg2 P w K mg base CX0 1 "Earlier" Zc ["self","one","other"] (XR Zc)):Yx P w K mg base CX0 3 f fd ["one","other"] (ZbN Zn Zi Zj Zc):=by
 refine F.ok Zgd (fun vs H Q E h=> ?_) (fun cdv A outer s H vs Q E hr h=> ?_)
 ·obtain⟨p,q,x,y,rfl,_⟩:=h
  rfl
 ·obtain⟨p,q,x,y,rfl,t1,t2,k⟩:=h;refine⟨_,(Zk (ZC (Zg4 Zcr (hr.mono (by omega)) rfl Yk (Za (pv 0) (Za (pv 1) Zf))))), ?_⟩;refine⟨_,rfl,_,rfl,fun a dx h1 h2 _=>⟨a,dx,p,q,rfl,Zb,rfl, ?_⟩⟩;rw[YZ];exact k a _ (Jq h1 h2) h1 ⟨dx,p,q,Zb,t1.same (Jq h1 h2),t2.same (Jq h1 h2)⟩
theorem ZkG(m:Str)(h:m="due"\/m="leaves"\/m="shown"):¬m="days"/\¬m="kind"/\¬m="other"/\¬m="one":=by
 rcases h with rfl|rfl|rfl<;>decide+kernel
theorem Yv.keep{cn ca cl ce:Addr}{H H':Hp}(s:∀b C dx fs,H b=some (.ins C dx fs)->H' b=some (.ins C dx fs)):∀{t:Tr} {a:Addr},Yv cn ca cl ce H t a->Yv cn ca cl ce H' t a
 | .never,a,⟨dx,h⟩=>⟨dx,s _ _ _ _ h⟩
 | .after k d,a,⟨dx,h⟩=>⟨dx,s _ _ _ _ h⟩
 | .later x y,a,⟨dx,p,q,h,h1,h2⟩=>⟨dx,p,q,s _ _ _ _ h,h1.keep s,h2.keep s⟩
 | .earlier x y,a,⟨dx,p,q,h,h1,h2⟩=>⟨dx,p,q,s _ _ _ _ h,h1.keep s,h2.keep s⟩
theorem shR{cn ca cl ce m:Addr}{n:Nat}{t:Tr}{σ:L2.St}{H:Hp}{Q:VK}{E:XK}(tm:Yv cn ca cl ce H t m)(o1:t.deep<n)(o2:t.cnt<=100)(g:t.ok7)(k:∀H',ZS H H'->Q (.str (t.tC (-1))) H'):
  ∃a C dx fs,V.ref m=.ref a/\H a=some (.ins C dx fs)/\(C=cn\/C=ca\/C=cl\/C=ce)/\fs.lookup (Str.ofString "shown")=none/\ZgV σ H fun vs H2=>Xq cn ca cl ce n C (V.ref m::vs) H2 Q E:=by
 obtain⟨dx,fs,ii,lk⟩:=Zi8 tm;obtain⟨n1,n2,n3,n4⟩:=ZkG "shown" (.inr (.inr rfl));exact⟨m,_,dx,fs,rfl,ii,ZjU t,lk _ n1 n2 n3 n4,m,t,rfl,tm,o1,o2,g,rfl,k⟩
theorem YX.same{H H':Hp}(s:ZS H H'):∀{t:Tr} {a:Addr},YX H t a->YX H' t a
 | .never,a,h=>s _ _ h
 | .after k d,a,h=>s _ _ h
 | .later x y,a,⟨p,q,h,h1,h2⟩=>⟨p,q,s _ _ h,h1.same s,h2.same s⟩
 | .earlier x y,a,⟨p,q,h,h1,h2⟩=>⟨p,q,s _ _ h,h1.same s,h2.same s⟩
theorem w1:¬V.str (Str.ofString "after")=V.str (Str.ofString "never"):=by decide+kernel
theorem w2:¬V.str (Str.ofString "later")=V.str (Str.ofString "never"):=by decide+kernel
theorem w3:¬V.str (Str.ofString "earlier")=V.str (Str.ofString "never"):=by decide+kernel
theorem w4:¬V.str (Str.ofString "later")=V.str (Str.ofString "after"):=by decide+kernel
theorem w5:¬V.str (Str.ofString "earlier")=V.str (Str.ofString "after"):=by decide+kernel
theorem ZjV(k:Int)(h0:0<=k)(h1:k<3):∃m u:Int,atI [V.int 40,.int 12,.int 9] k=some (.int m)/\atI [V.int 1,.int 30,.int 360] k=some (.int u)/\0<m/\m<=40/\0<=u/\u<=360:=by
 have e:k=0\/k=1\/k=2:=by omega
 rcases e with rfl|rfl|rfl
 ·exact⟨40,1,rfl,rfl,by decide,by decide,by decide,by decide⟩
 ·exact⟨12,30,rfl,rfl,by decide,by decide,by decide,by decide⟩
 ·exact⟨9,360,rfl,rfl,by decide,by decide,by decide,by decide⟩
theorem Zay:ZV ["_law_cell","_law_way"] ["_law_cell"] (Zz Ju):=⟨rfl,rfl,rfl,by decide+kernel,rfl,by decide+kernel,by decide+kernel⟩
theorem Zcs{f:Addr}{fd:FuncData}(F:Fun K "_law_length_by" "_law_length_by" Ju f fd)(T:Txt K mg t_YEAR_DAYS t_MONTH_DAYS t_MOST_FIGURES t_MOST_LETTERS t_FIGURES t_LETTERS t_MOST_WORDS Zn Zi Zj Zc Zo ZP Zh Zd Zu ZD Zr Zq Zt Zv ZF ZQ):Yx P w K mg base CX0 1 f fd ["_law_cell"] Jg:=by
 refine F.ok Zay (fun vs H Q E h=> ?_) (fun cdv A outer s H vs Q E hr h=> ?_)
 ·obtain⟨c,rfl,_⟩:=h
  rfl
 ·obtain⟨c,rfl,q⟩:=h;have l5:=YK;have m0:=Int.emod_nonneg c (show(4:Int)≠0 by decide);have m1:=Int.emod_lt_of_pos c (show(0:Int)<4 by decide);refine⟨_,(Zg (ZR (i:=1) Zay.nd rfl (Or.inl rfl) (Zy Yt (pv 0) Zm)) (Zg (Yc (ZG Yn (pv 1) Zm (ZJ _)) (Zk (ZC (Zy Yt (Zy Zbr (Zy YC (pv 0) Zm) Zm) (Zy Zhk Zm Zm)))) ZM) (Zk (ZC (Zy Zbr (Zy Yt (Zy YC (pv 0) Zm) (YJ Xb (Yg (Za Zm (Za Zm (Za Zm Zf)))) (pv 1) (fun _ _=>rfl))) (YJ Xb (Yg (Za Zm (Za Zm (Za Zm Zf)))) (pv 1) (fun _ _=>rfl))))))), ?_⟩
  refine(vI rfl (by show(0:Int)<4;decide) (vEq rfl rfl (Xd (fun e=> ?_) (fun e=> ?_))))
  ·refine(vI rfl ⟨by decide,by decide⟩ ⟨_,_,rfl,rfl,IntMulOk.of_right (intBits_le_64 (by decide) (by decide)),_,_,rfl,rfl,Zi1 (by decide) (by decide),_,_,rfl,rfl,pow_pos _, ?_⟩);have p40:(0:Int)<10^(40:Int).toNat:=pow_pos _;exact q _ H (Int.emod_nonneg _ (Int.ne_of_gt p40)) (Int.emod_lt_of_pos _ p40) (ZS.refl H)
  ·have e:¬c%4=3:=fun z=>e (decide_eq_true (by show V.int (c%4)=V.int 3;rw[z]))
   obtain⟨m,u,e1,e2,b1,b2,b3,b4⟩:=ZjV (c%4) m0 (by omega);refine(vI rfl ⟨by decide,by decide⟩ ⟨(show 3<=sizeLine from sl),fun p1 hp1=>⟨_,rfl,p1,_,_,_,rfl,rfl,SqL.of Zb,e1,_,_,rfl,rfl,b1,(show 3<=sizeLine from sl),fun p2 hp2=>⟨_,rfl,p2,_,_,_,rfl,rfl,SqL.of Zb,e2,_,_,rfl,rfl,IntMulOk.of_right (intBits_le_64 (by omega) (by omega)), ?_⟩⟩⟩);have d0:=Int.emod_nonneg (c/4) (Int.ne_of_gt b1);have d1:=Int.emod_lt_of_pos (c/4) b1
   have p:(14400:Int)<10^40:=by decide+kernel
   have z1:0<=c/4%m*u:=Int.mul_nonneg d0 b3;have z2:c/4%m*u<=40*360:=Int.mul_le_mul (by omega) b4 b3 (by decide);exact q _ _ z1 (by omega) ((Ze hp1).trans (Ze hp2))
theorem YX.keep{H H':Hp}(s:∀b xs,H b=some (.tup xs)->H' b=some (.tup xs)):∀{t:Tr} {a:Addr},YX H t a->YX H' t a
 | .never,a,h=>s _ _ h
 | .after k d,a,h=>s _ _ h
 | .later x y,a,⟨p,q,h,h1,h2⟩=>⟨p,q,s _ _ h,h1.keep s,h2.keep s⟩
 | .earlier x y,a,⟨p,q,h,h1,h2⟩=>⟨p,q,s _ _ h,h1.keep s,h2.keep s⟩
structure Stk (H:Hp) (S:Addr) (ts:List (Tr×Addr)):Prop where
 at_:H S=some (.lst (ts.map fun t=>V.ref t.2))
 all:∀t∈ts,YX H t.1 t.2
 gd:∀t∈ts,t.1.good
def Zct(ts:List (Tr×Addr)):Nat:=(ts.map fun t=>t.1.cnt).sum
theorem Stk.same{H H':Hp}{S:Addr}{ts:List (Tr×Addr)}(h:Stk H S ts)(s:ZS H H'):Stk H' S ts:=⟨s _ _ h.at_,fun t ht=>(h.all t ht).same s,h.gd⟩
theorem two_last{α:Type}(l:List α)(h:1<l.length):∃us x y,l=us++[x,y]:=by
 have hr:l.reverse.length=l.length:=List.length_reverse;cases e:l.reverse with
 |nil=>rw[e] at hr;simp at hr;omega
 |cons y r=>
  cases r with
  |nil=>rw[e] at hr;simp at hr;omega
  |cons x r=>
   refine⟨r.reverse,x,y, ?_⟩;have:=congrArg List.reverse e
   simpa using this
theorem ZgG{α:Type}(us:List α)(y:α):(us++[y])[(us++[y]).length-1]? =some y:=by
 rw[List.length_append];simp
theorem Zei{α:Type}(us:List α)(y:α):(us++[y]).dropLast=us:=by simp
theorem Zbf(us ts:List (Tr×Addr)):Zct (us++ts)=Zct us+Zct ts:=by
 unfold Zct;rw[List.map_append,List.sum_append]
theorem Stk.push{H H':Hp}{S t:Addr}{us:List (Tr×Addr)}{z:Tr}(hu:∀u∈us,YX H u.1 u.2)(kp:∀b xs,H b=some (.tup xs)->H' b=some (.tup xs))(hS:H' S=some (.lst (us.map (fun t=>V.ref t.2)++[.ref t])))(hz:YX H' z t)(hg:∀u∈us,u.1.good)(gz:z.good):Stk H' S (us++[(z,t)]):=by
 refine⟨by rw[hS,List.map_append];rfl,fun u hm=> ?_,fun u hm=>(List.mem_append.mp hm).elim (hg u) fun m=>by rw[show u=(z,t) by simpa using m];exact gz⟩
 rcases List.mem_append.mp hm with m|m
 ·exact(hu u m).keep kp
 ·have e:u=(z,t):=by simpa using m
  rw[e];exact hz
theorem two_tree{H':Hp}{t:Addr}{x y:Tr×Addr}{w:Str}{z:Tr}(hx:YX H' x.1 x.2)(hy:YX H' y.1 y.2)(ht:H' t=some (.tup [.str w,.ref x.2,.ref y.2]))(hz:(w=Str.ofString "later"/\z=.later x.1 y.1)\/(w=Str.ofString "earlier"/\z=.earlier x.1 y.1)):
  YX H' z t/\z.cnt=x.1.cnt+y.1.cnt/\(x.1.good->y.1.good->z.good):=by
 rcases hz with ⟨rfl,rfl⟩|⟨rfl,rfl⟩
 ·exact⟨⟨x.2,y.2,ht,hx,hy⟩,rfl,fun a b=>⟨a,b⟩⟩
 ·exact⟨⟨x.2,y.2,ht,hx,hy⟩,rfl,fun a b=>⟨a,b⟩⟩
theorem Zej{H1:Hp}{S p t:Addr}{o1 o2 o3 o4 o5:HO}(hp:upd H1 S o1 p=none)(ht:upd (upd (upd H1 S o1) p o2) S o3 t=none):∀b u,b≠S->H1 b=some u->upd (upd (upd (upd (upd H1 S o1) p o2) S o3) t o4) S o5 b=some u:=fun b u n e=>by
 have e1:upd H1 S o1 b=some u:=by rw[Zw n];exact e
 have e2:upd (upd H1 S o1) p o2 b=some u:=by rw[Zw (ZK e1 hp)];exact e1
 have e3:upd (upd (upd H1 S o1) p o2) S o3 b=some u:=by rw[Zw n];exact e2
 rw[Zw n,Zw (ZK e3 ht)];exact e3
theorem Zif{H1:Hp}{S t:Addr}{o3 o4 o5:HO}(ht:upd H1 S o3 t=none):upd (upd (upd H1 S o3) t o4) S o5 t=some o4:=by
 rw[Zw (Ne.symm (ZK Zb ht)),Zb]
theorem Zig(k:Int)(h0:0<=k)(h1:k<2)(x y:Tr):∃(w:Str) (z:Tr),atI [V.str (Str.ofString "later"),.str (Str.ofString "earlier")] k=some (.str w)/\((w=Str.ofString "later"/\z=.later x y)\/(w=Str.ofString "earlier"/\z=.earlier x y)):=by
 have e:k=0\/k=1:=by omega
 rcases e with rfl|rfl
 ·exact⟨_,_,rfl,.inl ⟨rfl,rfl⟩⟩
 ·exact⟨_,_,rfl,.inr ⟨rfl,rfl⟩⟩
theorem ZjW:Nm (Str.ofString "put"):=by
 exact⟨by decide+kernel,by decide+kernel,by decide+kernel⟩
theorem ZjX(z:Str)(b:Bool)(hz:Nm z):∃w:Str,Nm w/\atI [V.str z,.str (Str.ofString "put")] (if b=true then 1 else 0)=some (.str w):=by
 cases b
 ·exact⟨z,hz,rfl⟩
 ·exact⟨_,ZjW,rfl⟩
theorem Zdy:∀l:List (Tr×Addr),l.length<=Zct l
 |[]=>Nat.zero_le _
 |t::r=>by
  have:=t.1.deep_cnt;have:=Zdy r;show r.length+1<=t.1.cnt+Zct r;omega
theorem Zj2{S:Addr}{H:Hp}{Q:VK}{us:List V}{y:V}(h:H S=some (.lst (us++[y])))(q:Q y (upd H S (.lst us))):Zki (.ref S) [] H Q:=⟨S,_,y,rfl,rfl,h,ZgG us y,by rw[Zei];exact q⟩
theorem Yq:ZV ["_law_cells","_law_names_by","_law_most","_law_some","_law_many","_law_cell","_law_other","_law_kind"] ["_law_cells","_law_names_by","_law_most"] (Zz Zac):=⟨rfl,rfl,rfl,by decide+kernel,rfl,by decide+kernel,by decide+kernel⟩
theorem Zdz{f:Addr}{fd:FuncData}(F:Fun K "_law_tree_by" "_law_tree_by" Zac f fd)(T:Txt K mg t_YEAR_DAYS t_MONTH_DAYS t_MOST_FIGURES t_MOST_LETTERS t_FIGURES t_LETTERS t_MOST_WORDS Zn Zi Zj Zc Zo ZP Zh Zd Zu ZD Zr Zq Zt Zv ZF ZQ)(Jy:Cal P w K mg base CX0 1 "_law_length_by" ["_law_cell"] Jg)(Zai:Cal P w K mg base CX0 1 "_law_name_by" ["_law_cell","_law_k"] JS):Yx P w K mg base CX0 2 f fd ["_law_cells","_law_names_by","_law_most"] JV:=by
 refine F.ok Yq (fun vs H Q E h=> ?_) (fun cdv A outer s H vs Q E hr h=> ?_)
 ·obtain⟨a,ns,b,rfl,_⟩:=h
  rfl
 ·obtain⟨a,ns,b,rfl,ha,hn,q⟩:=h;have l5:=YK;have hu3:=ZjG hr;refine⟨_,(Zg (ZR (i:=3) Yq.nd rfl (Or.inl rfl) (Yg Zf)) (Zg (ZR (i:=4) Yq.nd rfl (Or.inl rfl) Zm) (Zg (Zck PassesOwn.never rfl (ZbX (pv 0)) (XH (i:=5) Yq.nd rfl (Or.inl rfl)) (Zk (Yc (PW.pt (Zeq (ZG Zgs (Zy Yt (pv 5) Zm) Zm (ZJ _)) (ZcT (ZG Zd6 (ZL Ym (by rfl) T.z_len YW (Za (pv 3) Zf)) Zm (ZJ _))))) (Zg (ZR (i:=6) Yq.nd rfl (Or.inl rfl) (Zda PySem.F.plainAttrs_list PySem.F.slot_list_pop PySem.F.type_list_pop Zdb (pv 3))) (Zk (ZcU (Zat PySem.F.plainAttrs_list PySem.F.slot_list_append PySem.F.type_list_append Zau (pv 3) (Za (Zd7 (Za (YJ Xb (Yg (Za Zx (Za Zx Zf))) (Zy Yt (pv 5) Zm) (fun _ _=>rfl)) (Za (Zda PySem.F.plainAttrs_list PySem.F.slot_list_pop PySem.F.type_list_pop Zdb (pv 3)) (Za (pv 6) Zf)))) Zf))))) (Zk (Yc (ZG Zgs (pv 4) (pv 2) (ZJ _)) (Zg (ZR (i:=4) Yq.nd rfl (Or.inl rfl) (Zy Xf (pv 4) Zm)) (Zk (Yc (ZG Yn (Zy Yt (Zy YC (pv 5) Zm) Zm) Zm (ZJ _)) (Zk (ZcU (Zat PySem.F.plainAttrs_list PySem.F.slot_list_append PySem.F.type_list_append Zau (pv 3) (Za (Zd7 (Za Zx Zf)) Zf)))) (Zg (ZR (i:=7) Yq.nd rfl (Or.inl rfl) (Yi Zai (hr.mono (by omega)) rfl Yk (Za (pv 1) (Za (Zy Yt (Zy YC (pv 5) Zm) Zm) Zf)))) (Zk (ZcU (Zat PySem.F.plainAttrs_list PySem.F.slot_list_append PySem.F.type_list_append Zau (pv 3) (Za (Zd7 (Za Zx (Za (YJ Xb (Yg (Za (pv 7) (Za Zx Zf))) (Xy Ze3 (by rfl) T.z_int ZfX (Za (XJ Yn (Zy Yt (Zy YC (pv 5) Zm) Zm) Zm (ZJ _)) Zf)) (fun _ _=>rfl)) (Za (Yi Jy (hr.mono (by omega)) rfl Yk (Za (Zy YC (pv 5) Zm) Zf)) Zf)))) Zf)))))))) ZM))))) (Zg (Yc (ZG (ZhL hu3) (pv 3) (Yg Zf) (ZJ _)) (Zk (ZC (Zd7 (Za Zx Zf)))) ZM) (Zg (Zfa PassesOwn.never (ZG Zd6 (ZL Ym (by rfl) T.z_len YW (Za (pv 3) Zf)) Zm (ZJ _)) (Zg (ZR (i:=6) Yq.nd rfl (Or.inl rfl) (Zda PySem.F.plainAttrs_list PySem.F.slot_list_pop PySem.F.type_list_pop Zdb (pv 3))) (Zk (ZcU (Zat PySem.F.plainAttrs_list PySem.F.slot_list_append PySem.F.type_list_append Zau (pv 3) (Za (Zd7 (Za (YJ Xb (Yg (Za Zx (Za Zx Zf))) (Zy Yt (ZL Ym (by rfl) T.z_len YW (Za (pv 3) Zf)) Zm) (fun _ _=>rfl)) (Za (Zda PySem.F.plainAttrs_list PySem.F.slot_list_pop PySem.F.type_list_pop Zdb (pv 3)) (Za (pv 6) Zf)))) Zf)))))) (Zk (ZC (YJ Xb (pv 3) Zm (fun _ _=>rfl))))))))), ?_⟩
  refine⟨Nat.zero_le _,fun S hS=>⟨_,rfl,a,rfl,⟨_,SqL.of (Ze hS _ _ ha)⟩,Zd5 (xs:=ns.map V.int) (fun i σ H'=>∃(ts:List (Tr×Addr)) (m:Nat) (v5 v6 v7:Option V),σ=[some (.ref a),some (.int b),some (.int 15),some (.ref S),some (.int (m:Int)),v5,v6,v7]/\Stk H' S ts/\Zct ts=m/\m<=15/\ZS H H') ?_ ?_ ?_ ?_⟩⟩
  ·exact⟨[],0,none,none,none,rfl,⟨Zb,(fun t ht=>nomatch ht),fun t ht=>nomatch ht⟩,rfl,by decide,Ze hS⟩
  ·rintro i σ H1 _ ⟨ts,m,v5,v6,v7,rfl,st,hc,hm,s1⟩;exact SqL.of (s1 _ _ ha)
  ·rintro i x σ H1 hx ⟨ts,m,v5,v6,v7,rfl,st,hc,hm,s1⟩;obtain⟨c,rfl⟩:∃c,x=V.int c:=by
    rw[List.getElem?_map] at hx
    cases q:ns[i]? with
    |none=>rw[q] at hx;cases hx
    |some c=>rw[q] at hx;cases hx;exact⟨c,rfl⟩
   have lts:ts.length<=15:=by
    have:=Zdy ts;omega
   have c0:=Int.emod_nonneg c (show(5:Int)≠0 by decide);refine(vI rfl (by show(0:Int)<5;decide) ⟨_,_,rfl,rfl,_,rfl, ?_⟩)
   refine(fun both=>Xd (fun e1=>⟨_,rfl,_,_,rfl,.inl ⟨_,SqL.of st.at_,rfl⟩,_,_,rfl,rfl,_,rfl,Xd (fun e2=> ?b1) (fun e2=>both)⟩) (fun e1=>YT both)) ?b2
   case b1=>
    have e1:c%5<2:=of_decide_eq_true e1;have e2:(1:Int)<(((ts.map fun t=>V.ref t.2).length:Nat):Int):=of_decide_eq_true e2;rw[List.length_map] at e2
    obtain⟨us,x,y,rfl⟩:=two_last ts (by omega);obtain⟨w,z,ew,hz⟩:=Zig (c%5) c0 e1 x.1 y.1;have A1:H1 S=some (.lst ((us++[x]).map (fun t=>V.ref t.2)++[V.ref y.2])):=by rw[st.at_];simp
    refine⟨_,rfl,.inl ⟨rfl,_,SqL.of A1⟩,Zj2 A1 ?_⟩;refine⟨_,rfl,.inl ⟨rfl,_,SqL.of Zb⟩,(show 2<=sizeLine from sl),fun p hp=> ?_⟩;have nSp:S≠p:=ZK Zb hp;have A2:upd (upd H1 S (.lst ((us++[x]).map fun t=>V.ref t.2))) p (.lst [.str (Str.ofString "later"),.str (Str.ofString "earlier")]) S=some (.lst (us.map (fun t=>V.ref t.2)++[V.ref x.2])):=by rw[Zw nSp,Zb];simp
    refine(vI rfl (by show(0:Int)<5;decide) ⟨p,_,_,_,rfl,rfl,SqL.of Zb,ew,_,rfl,.inl ⟨rfl,_,SqL.of A2⟩,Zj2 A2 ?_⟩)
    refine⟨_,rfl,(show 3<=sizeLine from sl),fun t ht=> ?_⟩;have nSt:S≠t:=ZK Zb ht;refine⟨S,_,V.ref t,rfl,rfl,by rw[Zw nSt];exact Zb, ?_, ?_⟩
    ·rw[List.length_map];have:(us++[x,y]).length=us.length+2:=by simp
     omega
    ·have kp:=Zej (o1:=.lst ((us++[x]).map fun t=>V.ref t.2)) (o2:=.lst [.str (Str.ofString "later"),.str (Str.ofString "earlier")]) (o3:=.lst (us.map fun t=>V.ref t.2)) (o4:=.tup [.str w,.ref x.2,.ref y.2]) (o5:=.lst (us.map (fun t=>V.ref t.2)++[.ref t])) hp ht;have kt:∀b xs,H1 b=some (.tup xs)->_:=fun b xs e=>kp b _ (Ze1 e st.at_ (fun z=>nomatch z)) e;obtain⟨tz,cz,gz⟩:=two_tree ((st.all x (by simp)).keep kt) ((st.all y (by simp)).keep kt) (Zif ht) hz
     refine⟨us++[(z,t)],m,_,_,_,rfl,Stk.push (fun u hu=>st.all u (List.mem_append_left _ hu)) kt Zb tz (fun u hu=>st.gd u (List.mem_append_left _ hu)) (gz (st.gd x (by simp)) (st.gd y (by simp))), ?_,hm,fun b u e=>kp b u (ZK e hS) (s1 b u e)⟩;rw[<-hc,Zbf,Zbf];show Zct us+(z.cnt+0)=Zct us+(x.1.cnt+(y.1.cnt+0));omega
   case b2=>
    refine⟨_,rfl,_,rfl,_,_,rfl,rfl,_,rfl,Xd (fun e3=> ?_) (fun e3=>⟨ts,m,_,_,_,rfl,st,hc,hm,s1⟩)⟩;have e3:(m:Int)<15:=of_decide_eq_true e3;refine⟨_,rfl,_,_,rfl,rfl,vI rfl ⟨by decide,by decide⟩ ⟨_,_,rfl,rfl,(by show(0:Int)<11;decide),rfl,_,rfl,Xd (fun _=> ?_) (fun _=> ?_)⟩⟩
    ·refine⟨_,rfl,.inl ⟨rfl,_,SqL.of st.at_⟩,(show 1<=sizeLine from sl),fun t ht=> ?_⟩;have nSt:S≠t:=ZK st.at_ ht;refine⟨S,_,V.ref t,rfl,rfl,by rw[Zw nSt];exact st.at_,(by rw[List.length_map];omega), ?_⟩
     have kp:∀b u,b≠S->H1 b=some u->upd (upd H1 t (.tup [.str (Str.ofString "never")])) S (.lst (ts.map (fun t=>V.ref t.2)++[.ref t])) b=some u:=fun b u n e=>by
      rw[Zw n,Zw (ZK e ht)];exact e
     refine⟨ts++[(.never,t)],m+1,_,_,_,rfl,Stk.push st.all (fun b xs e=>kp b _ (Ze1 e st.at_ (fun z=>nomatch z)) e) Zb ?_ st.gd trivial, ?_,by omega,fun b u e=>kp b u (ZK e hS) (s1 b u e)⟩
     ·show upd _ S _ t=_;rw[Zw (Ne.symm nSt),Zb]
     ·rw[Zbf,hc]
      rfl
    ·refine⟨_,rfl,vI rfl ⟨by decide,by decide⟩ ⟨_,_,rfl,rfl,(by show(0:Int)<6;decide),_,_,rfl,fun kz H2 nz s2=> ?_⟩⟩
     have st2:=st.same s2;refine⟨_,rfl,.inl ⟨rfl,_,SqL.of st2.at_⟩,_,rfl,(show 2<=sizeLine from sl),fun p hp=> ?_⟩;obtain⟨w,nw,ew⟩:=ZjX kz (decide (V.int (c/5%9)=V.int 4)) nz;refine(vI rfl ⟨by decide,by decide⟩ ⟨_,_,rfl,rfl,(by show(0:Int)<9;decide),rfl,.inr ⟨_,rfl,p,_,_,_,rfl,rfl,SqL.of Zb,ew, ?_⟩⟩)
     refine(vI rfl ⟨by decide,by decide⟩ ⟨_,rfl,fun d H4 d0 d1 s4=>⟨show 3<=sizeLine from sl,fun t ht=> ?_⟩⟩);have s24:=s2.trans ((Ze hp).trans s4);have st4:=st.same s24;have nSt:S≠t:=ZK st4.at_ ht;refine⟨S,_,V.ref t,rfl,rfl,by rw[Zw nSt];exact st4.at_,(by rw[List.length_map];omega), ?_⟩
     have kp:∀b u,b≠S->H4 b=some u->upd (upd H4 t (.tup [.str (Str.ofString "after"),.str w,.int d])) S (.lst (ts.map (fun t=>V.ref t.2)++[.ref t])) b=some u:=fun b u n e=>by
      rw[Zw n,Zw (ZK e ht)];exact e
     refine⟨ts++[(.after w d,t)],m+1,_,_,_,rfl,Stk.push st4.all (fun b xs e=>kp b _ (Ze1 e st4.at_ (fun z=>nomatch z)) e) Zb ?_ st4.gd ⟨nw,d0,d1⟩, ?_,by omega,fun b u e=>kp b u (ZK e hS) (s24 _ _ (s1 b u e))⟩
     ·show upd _ S _ t=_;rw[Zw (Ne.symm nSt),Zb]
     ·rw[Zbf,hc]
      rfl
  ·rintro σ H1 ⟨ts,m,v5,v6,v7,rfl,st,hc,hm,s1⟩;refine⟨_,rfl,Nat.zero_le _,fun D hD=>⟨S,D,_,rfl,rfl,SqL.of (Ze hD _ _ st.at_),SqL.of Zb,_,rfl,Xd (fun e=> ?_) (fun e=> ?_)⟩⟩
   ·exact⟨show 1<=sizeLine from sl,fun p hp=>q p .never _ (s1.trans ((Ze hD).trans (Ze hp))) Zb (by decide) trivial⟩
   ·have ne:ts≠[]:=fun z=>e (decide_eq_true (by rw[z];rfl))
    refine⟨fun k σ H'=>∃(us:List (Tr×Addr)) (v5 v6 v7:Option V),σ=[some (.ref a),some (.int b),some (.int 15),some (.ref S),some (.int (m:Int)),v5,v6,v7]/\Stk H' S us/\us≠[]/\Zct us<=15/\k=us.length/\ZS H H',⟨ts.length,ts,v5,v6,v7,rfl,st.same (Ze hD),ne,by omega,rfl,s1.trans (Ze hD)⟩, ?_⟩;rintro k σ H2 ⟨us,v5,v6,v7,rfl,st2,ne2,hc2,rfl,s2⟩;refine⟨_,rfl,_,_,rfl,.inl ⟨_,SqL.of st2.at_,rfl⟩,_,_,rfl,rfl,_,rfl,Xd (fun e=> ?_) (fun e=> ?_)⟩
    ·have e:(1:Int)<(((us.map fun t=>V.ref t.2).length:Nat):Int):=of_decide_eq_true e;rw[List.length_map] at e
     refine⟨fun σ' H'=>∃(us':List (Tr×Addr)) (v5 v6 v7:Option V),σ'=[some (.ref a),some (.int b),some (.int 15),some (.ref S),some (.int (m:Int)),v5,v6,v7]/\Stk H' S us'/\us'≠[]/\Zct us'<=15/\us'.length<us.length/\ZS H H',
      fun σ' H' ⟨us',w5,w6,w7,e',st',ne',hc',hl',s'⟩=>⟨us'.length,hl',us',w5,w6,w7,e',st',ne',hc',rfl,s'⟩, ?_⟩
     obtain⟨vs,x,y,rfl⟩:=two_last us (by omega);have lv:(vs++[x,y]).length=vs.length+2:=by simp
     have lv2:vs.length<=1000:=by
      have:=Zdy (vs++[x,y]);omega
     obtain⟨w,z,ew,hz⟩:=Zig ((((((vs++[x]).map fun t=>V.ref t.2).length:Nat):Int))%2) (Int.emod_nonneg _ (by decide)) (Int.emod_lt_of_pos _ (by decide)) x.1 y.1;have A1:H2 S=some (.lst ((vs++[x]).map (fun t=>V.ref t.2)++[V.ref y.2])):=by rw[st2.at_];simp
     refine⟨_,rfl,.inl ⟨rfl,_,SqL.of A1⟩,Zj2 A1 ?_⟩;refine⟨_,rfl,.inl ⟨rfl,_,SqL.of Zb⟩,(show 2<=sizeLine from sl),fun p hp=> ?_⟩;have nSp:S≠p:=ZK Zb hp;have A2:upd (upd H2 S (.lst ((vs++[x]).map fun t=>V.ref t.2))) p (.lst [.str (Str.ofString "later"),.str (Str.ofString "earlier")]) S=some (.lst ((vs++[x]).map (fun t=>V.ref t.2))):=by rw[Zw nSp,Zb]
     have A3:upd (upd H2 S (.lst ((vs++[x]).map fun t=>V.ref t.2))) p (.lst [.str (Str.ofString "later"),.str (Str.ofString "earlier")]) S=some (.lst (vs.map (fun t=>V.ref t.2)++[V.ref x.2])):=by rw[A2];simp
     refine⟨_,rfl,_,_,rfl,.inl ⟨_,SqL.of A2,rfl⟩,_,_,rfl,rfl,(by show(0:Int)<2;decide),p,_,_,_,rfl,rfl,SqL.of Zb,ew,_,rfl,.inl ⟨rfl,_,SqL.of A3⟩,Zj2 A3 ?_⟩
     refine⟨_,rfl,(show 3<=sizeLine from sl),fun t ht=> ?_⟩;have nSt:S≠t:=ZK Zb ht;refine⟨S,_,V.ref t,rfl,rfl,by rw[Zw nSt];exact Zb,(by rw[List.length_map];omega), ?_⟩
     have kp:=Zej (o1:=.lst ((vs++[x]).map fun t=>V.ref t.2)) (o2:=.lst [.str (Str.ofString "later"),.str (Str.ofString "earlier")]) (o3:=.lst (vs.map fun t=>V.ref t.2)) (o4:=.tup [.str w,.ref x.2,.ref y.2]) (o5:=.lst (vs.map (fun t=>V.ref t.2)++[.ref t])) hp ht;have kt:∀b xs,H2 b=some (.tup xs)->_:=fun b xs e=>kp b _ (Ze1 e st2.at_ (fun z=>nomatch z)) e;obtain⟨tz,cz,gz⟩:=two_tree ((st2.all x (by simp)).keep kt) ((st2.all y (by simp)).keep kt) (Zif ht) hz
     refine⟨vs++[(z,t)],_,_,_,rfl,Stk.push (fun u hu=>st2.all u (List.mem_append_left _ hu)) kt Zb tz (fun u hu=>st2.gd u (List.mem_append_left _ hu)) (gz (st2.gd x (by simp)) (st2.gd y (by simp))),by simp, ?_,by rw[lv,List.length_append];show vs.length+1<_;omega,fun b u e=>kp b u (ZK e hS) (s2 b u e)⟩
     rw[Zbf] at hc2⊢
     have h2:Zct vs+(x.1.cnt+(y.1.cnt+0))<=15:=hc2;show Zct vs+(z.cnt+0)<=15;omega
    ·have e:¬(1:Int)<(((us.map fun t=>V.ref t.2).length:Nat):Int):=fun z=>e (decide_eq_true z);rw[List.length_map] at e
     obtain⟨t,rfl⟩:∃t,us=[t]:=by
      cases us with
      |nil=>exact absurd rfl ne2
      |cons t r=>
       cases r with
       |nil=>exact⟨t,rfl⟩
       |cons u r=>simp only [List.length_cons] at e;omega
     refine⟨_,rfl,S,_,_,V.ref t.2,rfl,rfl,SqL.of st2.at_,rfl,q t.2 t.1 H2 s2 (st2.all t (by simp)) ?_ (st2.gd t (by simp))⟩;have h2:t.1.cnt+0<=15:=hc2;omega
theorem ZbO(d:Nat):Zc9 d (-1)=Zbb d:=by
 unfold Zc9;rw[if_neg (by rintro⟨h,_⟩;exact absurd h (by decide)),if_neg (by decide)]
theorem Zjg(a b c:Str):cs (Txt.join (Str.ofString " ") [a,b,c])=cs a++32::(cs b++32::cs c):=by
 have e:Txt.join (Str.ofString " ") [a,b,c]=Str.join (Str.ofString " ") [a,b,c]:=StrLaws.glued_eq_join _ _;rw[e,Zeh,ZcV]
 rfl
theorem Zgf(k:Str)(d:Int):Txt.join (Str.ofString " ") [Str.ofString "after",k,Zbb d.toNat]=(Tr.after k d).tC (-1):=by
 refine ext ?_;rw[Zjg,Zeg];show _=cs (Str.ofString "after")++32::(cs k++32::cs (Zc9 d.toNat (-1)));rw[ZbO]
theorem Zek(w a b:Str):Txt.join (Str.ofString " ") [w,a,b]=w++Str.ofString " "++a++Str.ofString " "++b:=by
 refine ext ?_;rw[Zjg,Yu,Yu,Yu,Yu,Zi5];simp
theorem sp1:(Str.ofString " ").length=1:=by decide+kernel
theorem sp5:(Str.ofString "after").length=5:=by decide+kernel
theorem Zl5:(Str.ofString "later").length=5:=by decide+kernel
theorem sp7:(Str.ofString "earlier").length=7:=by decide+kernel
theorem ZkH{d:Int}(h0:0<=d)(h1:d<10^43):d.toNat<10^100:=Nat.lt_trans (Zbx h0 h1) (by decide+kernel)
theorem ZdA:ZV ["self"] ["self"] (Zz Zad):=⟨rfl,rfl,rfl,by decide+kernel,rfl,by decide+kernel,by decide+kernel⟩
theorem ZdB{f:Addr}{fd:FuncData}(F:Fun K "shown" "Never.shown" Zad f fd)(T:Txt K mg t_YEAR_DAYS t_MONTH_DAYS t_MOST_FIGURES t_MOST_LETTERS t_FIGURES t_LETTERS t_MOST_WORDS Zn Zi Zj Zc Zo ZP Zh Zd Zu ZD Zr Zq Zt Zv ZF ZQ)(n:Nat):Yx P w K mg base CX0 (1+n+1+1) f fd ["self"] (Xq Zn Zi Zj Zc (n+1) Zn):=by
 refine F.ok ZdA (fun vs H Q E h=> ?_) (fun cdv A outer s H vs Q E hr h=> ?_)
 ·obtain⟨a,t,rfl,_⟩:=h
  rfl
 ·obtain⟨a,t,rfl,ht,hd,hc,hg,hC,q⟩:=h;refine⟨_,(Zk (ZC Zx)), ?_⟩;cases t with
  |never=>exact q H (ZS.refl H)
  |after k d=>exact absurd hC.symm T.ne_Never_After
  |later x y=>exact absurd hC.symm T.ne_Never_Later
  |earlier x y=>exact absurd hC.symm T.ne_Never_Earlier
theorem ZdC:ZV ["self"] ["self"] (Zz Zae):=⟨rfl,rfl,rfl,by decide+kernel,rfl,by decide+kernel,by decide+kernel⟩
theorem ZdD{f:Addr}{fd:FuncData}(F:Fun K "shown" "After.shown" Zae f fd)(T:Txt K mg t_YEAR_DAYS t_MONTH_DAYS t_MOST_FIGURES t_MOST_LETTERS t_FIGURES t_LETTERS t_MOST_WORDS Zn Zi Zj Zc Zo ZP Zh Zd Zu ZD Zr Zq Zt Zv ZF ZQ)(n:Nat)(JZ:Cal P w K mg base CX0 1 "length_shown" ["days"] Jw):Yx P w K mg base CX0 (1+n+1+1) f fd ["self"] (Xq Zn Zi Zj Zc (n+1) Zi):=by
 refine F.ok ZdC (fun vs H Q E h=> ?_) (fun cdv A outer s H vs Q E hr h=> ?_)
 ·obtain⟨a,t,rfl,_⟩:=h
  rfl
 ·obtain⟨a,t,rfl,ht,hd,hc,hg,hC,q⟩:=h;have l5:=YK;cases t with
  |never=>exact absurd hC T.ne_Never_After
  |later x y=>exact absurd hC.symm T.ne_After_Later
  |earlier x y=>exact absurd hC.symm T.ne_After_Earlier
  |after k d=>
   obtain⟨dx,ha⟩:=ht;obtain⟨nk,d0,d1⟩:=hg;have e0:d=((d.toNat:Nat):Int):=by omega
   have ls:=Zcq (Zbx d0 d1) (-1);rw[ZbO] at ls
   have lk:=nk.2.1;refine⟨_,(Zk (ZC (Zat PySem.F.plainAttrs_str PySem.F.slot_str_join PySem.F.type_str_join Zav Zx (Za (Yg (Za Zx (Za (Zcm (pv 0) rfl) (Za (Yi JZ (hr.mono (by omega)) rfl Yk (Za (Zcm (pv 0) rfl) Zf)) Zf)))) Zf)))), ?_⟩;refine⟨rfl,_,rfl,a,_,dx,_,_,rfl,ha,T.cl_After,T.n_After_kind,Zj0 k d,_,rfl,a,_,dx,_,_,rfl,ha,T.cl_After,T.n_After_days,Zj1 k d,d.toNat,by rw[<-e0];rfl,ZkH d0 d1,fun H1 s1=>⟨show 3<=sizeLine from sl,fun p hp=> ?_⟩⟩
   refine⟨_,p,[Str.ofString "after",k,Zbb d.toNat],rfl,rfl,SqL.of Zb, ?_, ?_⟩
   ·show(Str.ofString "after").length+(k.length+((Zbb d.toNat).length+0))+3*(Str.ofString " ").length<=_;rw[sp1,sp5];omega
   ·rw[Zgf];exact q _ (s1.trans (Ze hp))
theorem ZdE:ZV ["self"] ["self"] (Zz Zaf):=⟨rfl,rfl,rfl,by decide+kernel,rfl,by decide+kernel,by decide+kernel⟩
theorem ZdF{f:Addr}{fd:FuncData}(F:Fun K "shown" "Later.shown" Zaf f fd)(T:Txt K mg t_YEAR_DAYS t_MONTH_DAYS t_MOST_FIGURES t_MOST_LETTERS t_FIGURES t_LETTERS t_MOST_WORDS Zn Zi Zj Zc Zo ZP Zh Zd Zu ZD Zr Zq Zt Zv ZF ZQ)(n:Nat)(JD:ZhJ P w K mg base CX0 (1+n+1) "shown" ["self"] (Xq Zn Zi Zj Zc n) (fun C=>C=Zn\/C=Zi\/C=Zj\/C=Zc)):Yx P w K mg base CX0 (1+n+1+1) f fd ["self"] (Xq Zn Zi Zj Zc (n+1) Zj):=by
 refine F.ok ZdE (fun vs H Q E h=> ?_) (fun cdv A outer s H vs Q E hr h=> ?_)
 ·obtain⟨a,t,rfl,_⟩:=h
  rfl
 ·obtain⟨a,t,rfl,ht,hd,hc,hg,hC,q⟩:=h;have l5:=YK;cases t with
  |never=>exact absurd hC T.ne_Never_Later
  |after k d=>exact absurd hC T.ne_After_Later
  |earlier x y=>exact absurd hC.symm T.ne_Later_Earlier
  |later x y=>
   obtain⟨dx,p1,p2,ha,t1,t2⟩:=ht;obtain⟨g1,g2⟩:=hg;have hdeep:max x.deep y.deep+1<n+1:=hd;have hcnt:x.cnt+y.cnt<=100:=hc;have lx:=JC x (-1) g1;have ly:=JC y (-1) g2;refine⟨_,(Zk (ZC (Zat PySem.F.plainAttrs_str PySem.F.slot_str_join PySem.F.type_str_join Zav Zx (Za (Yg (Za Zx (Za (Zc4 (Zcm (pv 0) rfl) JD (hr.mono (by omega)) Yk) (Za (Zc4 (Zcm (pv 0) rfl) JD (hr.mono (by omega)) Yk) Zf)))) Zf)))), ?_⟩
   refine⟨rfl,_,rfl,a,_,dx,_,_,rfl,ha,T.cl_Later,T.n_Later_one,Zi7 p1 p2,shR t1 (by omega) (by omega) g1 fun H1 s1=> ?_⟩;refine⟨_,rfl,a,_,dx,_,_,rfl,s1 _ _ ha,T.cl_Later,T.n_Later_other,Zfx p1 p2,shR (t2.same s1) (by omega) (by omega) g2 fun H2 s2=>⟨show 3<=sizeLine from sl,fun p hp=> ?_⟩⟩;refine⟨_,p,[Str.ofString "later",x.tC (-1),y.tC (-1)],rfl,rfl,SqL.of Zb, ?_, ?_⟩
   ·show(Str.ofString "later").length+((x.tC (-1)).length+((y.tC (-1)).length+0))+3*(Str.ofString " ").length<=_;rw[sp1,Zl5];omega
   ·rw[Zek];exact q _ (s1.trans (s2.trans (Ze hp)))
theorem Zcu:ZV ["self"] ["self"] (Zz Jv):=⟨rfl,rfl,rfl,by decide+kernel,rfl,by decide+kernel,by decide+kernel⟩
theorem Zcv{f:Addr}{fd:FuncData}(F:Fun K "shown" "Earlier.shown" Jv f fd)(T:Txt K mg t_YEAR_DAYS t_MONTH_DAYS t_MOST_FIGURES t_MOST_LETTERS t_FIGURES t_LETTERS t_MOST_WORDS Zn Zi Zj Zc Zo ZP Zh Zd Zu ZD Zr Zq Zt Zv ZF ZQ)(n:Nat)(JD:ZhJ P w K mg base CX0 (1+n+1) "shown" ["self"] (Xq Zn Zi Zj Zc n) (fun C=>C=Zn\/C=Zi\/C=Zj\/C=Zc)):Yx P w K mg base CX0 (1+n+1+1) f fd ["self"] (Xq Zn Zi Zj Zc (n+1) Zc):=by
 refine F.ok Zcu (fun vs H Q E h=> ?_) (fun cdv A outer s H vs Q E hr h=> ?_)
 ·obtain⟨a,t,rfl,_⟩:=h
  rfl
 ·obtain⟨a,t,rfl,ht,hd,hc,hg,hC,q⟩:=h;have l5:=YK;cases t with
  |never=>exact absurd hC T.ne_Never_Earlier
  |after k d=>exact absurd hC T.ne_After_Earlier
  |later x y=>exact absurd hC T.ne_Later_Earlier
  |earlier x y=>
   obtain⟨dx,p1,p2,ha,t1,t2⟩:=ht;obtain⟨g1,g2⟩:=hg;have hdeep:max x.deep y.deep+1<n+1:=hd;have hcnt:x.cnt+y.cnt<=100:=hc;have lx:=JC x (-1) g1;have ly:=JC y (-1) g2;refine⟨_,(Zk (ZC (Zat PySem.F.plainAttrs_str PySem.F.slot_str_join PySem.F.type_str_join Zav Zx (Za (Yg (Za Zx (Za (Zc4 (Zcm (pv 0) rfl) JD (hr.mono (by omega)) Yk) (Za (Zc4 (Zcm (pv 0) rfl) JD (hr.mono (by omega)) Yk) Zf)))) Zf)))), ?_⟩
   refine⟨rfl,_,rfl,a,_,dx,_,_,rfl,ha,T.cl_Earlier,T.n_Earlier_one,Zi7 p1 p2,shR t1 (by omega) (by omega) g1 fun H1 s1=> ?_⟩;refine⟨_,rfl,a,_,dx,_,_,rfl,s1 _ _ ha,T.cl_Earlier,T.n_Earlier_other,Zfx p1 p2,shR (t2.same s1) (by omega) (by omega) g2 fun H2 s2=>⟨show 3<=sizeLine from sl,fun p hp=> ?_⟩⟩;refine⟨_,p,[Str.ofString "earlier",x.tC (-1),y.tC (-1)],rfl,rfl,SqL.of Zb, ?_, ?_⟩
   ·show(Str.ofString "earlier").length+((x.tC (-1)).length+((y.tC (-1)).length+0))+3*(Str.ofString " ").length<=_;rw[sp1,sp7];omega
   ·rw[Zek];exact q _ (s1.trans (s2.trans (Ze hp)))
theorem Zby{H H1 H2:Hp}{R:Addr}{o1 o2:HO}(s1:ZS (upd H R o1) H1)(s2:ZS (upd H1 R o2) H2):ZS (upd H R o2) H2:=fun b u e=>by
 by_cases h:b=R
 ·subst h;rw[Zb] at e
  exact s2 _ _ (by rw[Zb];exact e)
 ·rw[Zw h] at e
  exact s2 _ _ (by rw[Zw h];exact s1 _ _ (by rw[Zw h];exact e))
theorem Zj3(xs:List V)(v:V):¬V.int (((xs++[v]).length:Nat):Int)=V.int 0:=fun e=>by
 injection e with e
 rw[List.length_append] at e
 have:[v].length=1:=rfl;omega
theorem Zih(w:Str)(r:List Str):(w::r).reverse.map V.str=r.reverse.map V.str++[V.str w]:=by
 rw[List.reverse_cons,List.map_append]
 rfl
theorem ZdV:ZV ["rest"] ["rest"] (Zz ZaE):=⟨rfl,rfl,rfl,by decide+kernel,rfl,by decide+kernel,by decide+kernel⟩
theorem ZdW{f:Addr}{fd:FuncData}(F:Fun K "word_taken" "word_taken" ZaE f fd)(T:Txt K mg t_YEAR_DAYS t_MONTH_DAYS t_MOST_FIGURES t_MOST_LETTERS t_FIGURES t_LETTERS t_MOST_WORDS Zn Zi Zj Zc Zo ZP Zh Zd Zu ZD Zr Zq Zt Zv ZF ZQ)(o_NoTerm:ZcM "NoTerm" Zd mg base):Yx P w K mg base (CXr P w) 1 f fd ["rest"] (Xo Zd):=by
 refine okX F ZdV (fun vs H Q E h=> ?_) (fun cdv A outer s H vs Q E hr h=> ?_)
 ·obtain⟨R,ws,rfl,_⟩:=h
  rfl
 ·obtain⟨R,ws,rfl,hR,k1,k2⟩:=h;have l5:=YK;refine⟨_,(Zg (Yc (ZG Yn (ZL Ym (by rfl) T.z_len YW (Za (pv 0) Zf)) Zm (ZJ _)) (Zk (Zax Je o_NoTerm rfl rfl (Za Zx Zf))) ZM) (Zk (ZC (Zda PySem.F.plainAttrs_list PySem.F.slot_list_pop PySem.F.type_list_pop Zdb (pv 0))))), ?_⟩;cases ws with
  |nil=>
   have hR:H R=some (.lst []):=hR;exact⟨_,rfl,_,_,rfl,.inl ⟨_,SqL.of hR,rfl⟩,rfl,_,rfl,ZiY rfl ⟨(by show 1<=sizeLine;omega),k1 rfl⟩⟩
  |cons z r=>
   rw[Zih] at hR
   refine⟨_,rfl,_,_,rfl,.inl ⟨_,SqL.of hR,rfl⟩,rfl,_,rfl,Zee (Zj3 _ (.str z)) ?_⟩;refine⟨_,rfl,.inl ⟨rfl,_,SqL.of hR⟩,R,_,V.str z,rfl,rfl,hR,ZgG _ _, ?_⟩;rw[Zei];exact k2 z r rfl
theorem ZbB:ZV ["rest","word"] ["rest"] (Zz ZaG):=⟨rfl,rfl,rfl,by decide+kernel,rfl,by decide+kernel,by decide+kernel⟩
theorem ZdX{f:Addr}{fd:FuncData}(F:Fun K "kind_taken" "kind_taken" ZaG f fd)(T:Txt K mg t_YEAR_DAYS t_MONTH_DAYS t_MOST_FIGURES t_MOST_LETTERS t_FIGURES t_LETTERS t_MOST_WORDS Zn Zi Zj Zc Zo ZP Zh Zd Zu ZD Zr Zq Zt Zv ZF ZQ)(o_NoTerm:ZcM "NoTerm" Zd mg base)(Zcw:Cal P w K mg base CX0 2 "is_name" ["text"] ZbM)(Yw:Cal P w K mg base (CXr P w) 1 "word_taken" ["rest"] (Xo Zd)):Yx P w K mg base (CXr P w) 3 f fd ["rest"] (Zah Zd):=by
 refine okX F ZbB (fun vs H Q E h=> ?_) (fun cdv A outer s H vs Q E hr h=> ?_)
 ·obtain⟨R,ws,rfl,_⟩:=h
  rfl
 ·obtain⟨R,ws,rfl,hR,hw,k1,k2⟩:=h;have l5:=YK;refine⟨_,(Zg (ZR (i:=1) ZbB.nd rfl (Or.inl rfl) (Yi Yw (hr.mono (by omega)) rfl Jk (Za (pv 0) Zf))) (Zg (Yc (XF (XD (Yi Zcw (hr.mono (by omega)) rfl Yk (Za (pv 1) Zf)))) (Zk (Zax Je o_NoTerm rfl rfl (Za (Zc3 (XN (ZcX (pv 1)) (XN Zcn Zdf))) Zf))) ZM) (Zk (ZC (pv 1))))), ?_⟩;refine⟨_,rfl,R,ws,rfl,hR,fun e=> ?_,fun z r e=> ?_⟩
  ·exact k2 (fun w r z=>by rw[e] at z;cases z) (ws.reverse.map V.str) H (fun b u y=>by
    by_cases bR:b=R
    ·rw[bR,Zb] at y;rw[bR,hR];exact y
    ·rwa [Zw bR] at y)
  ·subst e;obtain⟨lz,_,okz⟩:=hw z (List.mem_cons_self ..);refine⟨_,rfl,z,rfl,by omega,fun H1 s1=>⟨_,rfl, ?_⟩⟩;cases f:Yp z with
   |true=>exact YT ⟨_,rfl,k1 z r rfl f H1 s1⟩
   |false=>
    refine Xm ⟨_,rfl,z,rfl,by omega,okz, ?_⟩
    try dsimp only
    rw[JH];exact⟨by have:=StrLaws.reprText_len z okz;omega,Jp (by omega) okz (by decide),Jp (by omega) okz (by decide),(by show 1<=sizeLine;omega),k2 (fun w r e=>by injection e with e1 e2;rw[<-e1];exact f) _ H1 s1⟩
theorem ZaW:ZV ["rest","word"] ["rest"] (Zz JN):=⟨rfl,rfl,rfl,by decide+kernel,rfl,by decide+kernel,by decide+kernel⟩
theorem ZcR{f:Addr}{fd:FuncData}(F:Fun K "length_taken" "length_taken" JN f fd)(T:Txt K mg t_YEAR_DAYS t_MONTH_DAYS t_MOST_FIGURES t_MOST_LETTERS t_FIGURES t_LETTERS t_MOST_WORDS Zn Zi Zj Zc Zo ZP Zh Zd Zu ZD Zr Zq Zt Zv ZF ZQ)(o_NoTerm:ZcM "NoTerm" Zd mg base)(Zaj:Cal P w K mg base (CXr P w) 3 "length_read" ["text"] (JR Zh))(Yw:Cal P w K mg base (CXr P w) 1 "word_taken" ["rest"] (Xo Zd)):Yx P w K mg base (CXr P w) 4 f fd ["rest"] (Jx Zd):=by
 refine okX F ZaW (fun vs H Q E h=> ?_) (fun cdv A outer s H vs Q E hr h=> ?_)
 ·obtain⟨R,ws,rfl,_⟩:=h
  rfl
 ·obtain⟨R,ws,rfl,hR,hw,k1,k2⟩:=h;have l5:=YK;refine⟨_,(Zg (ZR (i:=1) ZaW.nd rfl (Or.inl rfl) (Yi Yw (hr.mono (by omega)) rfl Jk (Za (pv 0) Zf))) (Zk (Zh7 (by rfl) Zaj (hr.mono (by omega)) (by rfl) (Za (pv 1) Zf) (by rfl) T.mg_NoLength o_NoTerm (by rfl) (fun _=>(Za (Zc3 (XN (ZcX (pv 1)) (XN Zcn Zdf))) Zf))))), ?_⟩;refine⟨_,rfl,R,ws,rfl,hR,fun e=> ?_,fun z r e=> ?_⟩
  ·exact k2 (fun w r z=>by rw[e] at z;cases z) (ws.reverse.map V.str) H (fun b u y=>by
    by_cases bR:b=R
    ·rw[bR,Zb] at y;rw[bR,hR];exact y
    ·rwa [Zw bR] at y)
  ·subst e;obtain⟨lz,_,okz⟩:=hw z (List.mem_cons_self ..);refine⟨_,rfl,z,rfl,by omega,okz,fun ne H1 s1=> ?_,fun e H1 s1=> ?_⟩
   ·obtain⟨d,ed⟩:=Zds ne;rw[ed];exact k1 z r d rfl ed H1 s1
   ·refine⟨_,rfl,T.xm_n, ?_⟩;refine⟨_,rfl,z,rfl,by omega,okz, ?_⟩
    try dsimp only
    rw[JH];exact⟨by have:=StrLaws.reprText_len z okz;omega,Jp (by omega) okz (by decide),Jp (by omega) okz (by decide),(by show 1<=sizeLine;omega),k2 (fun w r y=>by injection y with e1 e2;rw[<-e1];exact e) _ H1 s1⟩
theorem ZeT:∀{n:Nat} {ws:List Str} {t:Tr} {r:List Str},pt n ws=some (t,r)->r.length<ws.length/\∀x∈r,x∈ws:=by
 intro n
 induction n with
 |zero=>intro ws t r h;cases h
 |succ n ih=>
  intro ws t r h;cases ws with
  |nil=>cases h
  |cons w q=>
   have two:∀{f:Tr->Tr->Tr},((pt n q).bind fun x=>(pt n x.2).bind fun y=>some (f x.1 y.1,y.2))=some (t,r)->r.length<(w::q).length/\∀x∈r,x∈w::q:=fun{f} h=>by
    obtain⟨⟨x,r1⟩,e1,h⟩:=Option.bind_eq_some_iff.mp h;obtain⟨⟨y,r2⟩,e2,h⟩:=Option.bind_eq_some_iff.mp h
    injection h with h
    injection h with _ h
    subst h;obtain⟨a1,b1⟩:=ih e1;obtain⟨a2,b2⟩:=ih e2;exact⟨by have a2:r2.length<r1.length:=a2;have a1:r1.length<q.length:=a1;show r2.length<q.length+1;omega,fun z hz=>List.mem_cons_of_mem _ (b1 z (b2 z hz))⟩
   unfold pt at h
   split at h
   ·injection h with h
    injection h with _ h
    subst h;exact⟨Nat.lt_succ_self _,fun z hz=>List.mem_cons_of_mem _ hz⟩
   ·split at h
    ·cases q with
     |nil=>cases h
     |cons k q=>
      cases q with
      |nil=>cases h
      |cons l q=>
       dsimp only at h
       split at h
       ·injection h with h
        injection h with _ h
        subst h;exact⟨by simp only [List.length_cons];omega,fun z hz=>by simp[hz]⟩
       ·cases h
    ·split at h
     ·exact two h
     ·split at h
      ·exact two h
      ·cases h
theorem ZdG(n:Nat)(r:List Str):pt (n+1) (Str.ofString "never"::r)=some (.never,r):=by
 unfold pt;rw[if_pos rfl]
theorem an1:¬Str.ofString "after"=Str.ofString "never":=by decide+kernel
theorem ln1:¬Str.ofString "later"=Str.ofString "never":=by decide+kernel
theorem ln2:¬Str.ofString "later"=Str.ofString "after":=by decide+kernel
theorem en1:¬Str.ofString "earlier"=Str.ofString "never":=by decide+kernel
theorem en2:¬Str.ofString "earlier"=Str.ofString "after":=by decide+kernel
theorem en3:¬Str.ofString "earlier"=Str.ofString "later":=by decide+kernel
theorem ZdH(n:Nat){k l:Str}{d:Int}(q:List Str)(hk:Yp k=true)(hd:Jo l=.int d):pt (n+1) (Str.ofString "after"::k::l::q)=some (.after k d,q):=by
 unfold pt;rw[if_neg an1,if_pos rfl]
 dsimp only
 rw[hk,hd]
theorem Za0(n:Nat){q:List Str}(h:∀w r,q=w::r->Yp w=false):pt (n+1) (Str.ofString "after"::q)=none:=by
 unfold pt;rw[if_neg an1,if_pos rfl];cases q with
 |nil=>rfl
 |cons k q=>
  cases q with
  |nil=>rfl
  |cons l q=>
   dsimp only
   rw[h k _ rfl]
theorem Zaz(n:Nat){k:Str}{q:List Str}(h:∀w r,q=w::r->Jo w=.non):pt (n+1) (Str.ofString "after"::k::q)=none:=by
 unfold pt;rw[if_neg an1,if_pos rfl];cases q with
 |nil=>rfl
 |cons l q=>
  dsimp only
  rw[h l _ rfl];cases Yp k<;>rfl
theorem ZdI(n:Nat)(q:List Str):pt (n+1) (Str.ofString "later"::q)=(pt n q).bind fun x=>(pt n x.2).bind fun y=>some (.later x.1 y.1,y.2):=by
 show(if _ then _ else _)=_;rw[if_neg ln1,if_neg ln2,if_pos rfl]
theorem ZbP(n:Nat)(q:List Str):pt (n+1) (Str.ofString "earlier"::q)=(pt n q).bind fun x=>(pt n x.2).bind fun y=>some (.earlier x.1 y.1,y.2):=by
 show(if _ then _ else _)=_;rw[if_neg en1,if_neg en2,if_neg en3,if_pos rfl]
theorem Zha{H:Hp}{R:Addr}{o:HO}(h:H R=some o):ZS (upd H R o) H:=fun b u y=>by
 by_cases bR:b=R
 ·rw[bR,Zb] at y;rw[bR,h];exact y
 ·rwa [Zw bR] at y
theorem Xr:ZV ["rest","word","kind","one"] ["rest"] (Zz ZaF):=⟨rfl,rfl,rfl,by decide+kernel,rfl,by decide+kernel,by decide+kernel⟩
theorem ZdY{f:Addr}{fd:FuncData}(F:Fun K "part_taken" "part_taken" ZaF f fd)(T:Txt K mg t_YEAR_DAYS t_MONTH_DAYS t_MOST_FIGURES t_MOST_LETTERS t_FIGURES t_LETTERS t_MOST_WORDS Zn Zi Zj Zc Zo ZP Zh Zd Zu ZD Zr Zq Zt Zv ZF ZQ)(n:Nat)(o_NoTerm:ZcM "NoTerm" Zd mg base)(ZeU:Cal P w K mg base CX0 3 "after" ["kind","days"] (Zdo Zn Zi Zj Zc))(Zcx:Cal P w K mg base CX0 3 "earlier" ["one","other"] (ZbN Zn Zi Zj Zc))(ZaP:Cal P w K mg base (CXr P w) 3 "kind_taken" ["rest"] (Zah Zd))(ZeV:Cal P w K mg base CX0 3 "later" ["one","other"] (Zdp Zn Zi Zj Zc))(Za1:Cal P w K mg base (CXr P w) 4 "length_taken" ["rest"] (Jx Zd))(ZeW:Cal P w K mg base CX0 1 "never" [] (Zdn Zn Zi Zj Zc))(YD:Cal P w K mg base (CXr P w) (4+n+1) "part_taken" ["rest"] (Xp Zn Zi Zj Zc Zd n))(Yw:Cal P w K mg base (CXr P w) 1 "word_taken" ["rest"] (Xo Zd)):Yx P w K mg base (CXr P w) (4+n+1+1) f fd ["rest"] (Xp Zn Zi Zj Zc Zd (n+1)):=by
 refine okX F Xr (fun vs H Q E h=> ?_) (fun cdv A outer s H vs Q E hr h=> ?_)
 ·obtain⟨R,ws,rfl,_⟩:=h
  rfl
 ·obtain⟨R,ws,rfl,hR,hw,hl,k1,k2⟩:=h;have l5:=YK;refine⟨_,(Zg (ZR (i:=1) Xr.nd rfl (Or.inl rfl) (Yi Yw (hr.mono (by omega)) rfl Jk (Za (pv 0) Zf))) (Zg (Yc (ZG Yn (pv 1) Zx (ZJ _)) (Zk (ZC (Zjx ZeW (hr.mono (by omega)) rfl Yk))) ZM) (Zg (Yc (ZG Yn (pv 1) Zx (ZJ _)) (Zg (ZR (i:=2) Xr.nd rfl (Or.inl rfl) (Yi ZaP (hr.mono (by omega)) rfl Jk (Za (pv 0) Zf))) (Zk (ZC (Yi ZeU (hr.mono (by omega)) rfl Yk (Za (pv 2) (Za (Yi Za1 (hr.mono (by omega)) rfl Jk (Za (pv 0) Zf)) Zf)))))) ZM) (Zg (Yc (ZG Yn (pv 1) Zx (ZJ _)) (Zg (ZR (i:=3) Xr.nd rfl (Or.inl rfl) (Yi YD (hr.mono (by omega)) rfl Jk (Za (pv 0) Zf))) (Zk (ZC (Yi ZeV (hr.mono (by omega)) rfl Yk (Za (pv 3) (Za (Yi YD (hr.mono (by omega)) rfl Jk (Za (pv 0) Zf)) Zf)))))) ZM) (Zg (Yc (ZG Yn (pv 1) Zx (ZJ _)) (Zg (ZR (i:=3) Xr.nd rfl (Or.inl rfl) (Yi YD (hr.mono (by omega)) rfl Jk (Za (pv 0) Zf))) (Zk (ZC (Yi Zcx (hr.mono (by omega)) rfl Yk (Za (pv 3) (Za (Yi YD (hr.mono (by omega)) rfl Jk (Za (pv 0) Zf)) Zf)))))) ZM) (Zk (Zax Je o_NoTerm rfl rfl (Za (Zc3 (XN Zcn (XN (ZcX (pv 1)) Zdf))) Zf)))))))), ?_⟩
  refine⟨_,rfl,R,ws,rfl,hR,fun e=> ?_,fun w r e=> ?_⟩
  ·subst e;exact k2 rfl _ H (Zha hR)
  subst e;obtain⟨lw,_,okw⟩:=hw w (List.mem_cons_self ..);have hw':∀x∈r,Wd x:=fun x hx=>hw x (List.mem_cons_of_mem _ hx);have hl':r.length<n:=by rw[List.length_cons] at hl;omega
  have ew:∀y:Str,V.str w=V.str y->w=y:=fun y e=>by injection e
  refine⟨_,rfl,rfl,_,rfl,Xd (fun e=> ?_) (fun e=> ?_)⟩
  ·obtain rfl:=ew _ (of_decide_eq_true e);exact⟨rfl,fun p H' s _ t=>k1 .never r (ZdG n r) p H' s t⟩
  have n1:¬w=Str.ofString "never":=fun z=>e (decide_eq_true (by rw[z]));refine⟨_,rfl,rfl,_,rfl,Xd (fun e=> ?_) (fun e=> ?_)⟩
  ·obtain rfl:=ew _ (of_decide_eq_true e);refine⟨_,rfl,R,r,rfl,Zb,hw',fun k q e nk H2 s2=> ?_,fun no zs H2 s2=> ?_⟩
   ·subst e;rw[YZ] at s2
    refine⟨_,rfl,_,rfl,R,q,rfl,s2 _ _ Zb,fun x hx=>hw' x (List.mem_cons_of_mem _ hx),fun l q2 d e2 ld H3 s3=> ?_,fun no zs H3 s3=> ?_⟩
    ·subst e2;exact⟨k,d,rfl,fun p H4 s4 _ t=>k1 (.after k d) q2 (ZdH n q2 nk ld) p H4 ((Zby s2 s3).trans s4) t⟩
    ·exact k2 (Zaz n no) zs H3 (Zby s2 s3)
   ·rw[YZ] at s2
    exact k2 (Za0 n no) zs H2 s2
  have n2:¬w=Str.ofString "after":=fun z=>e (decide_eq_true (by rw[z]));refine⟨_,rfl,rfl,_,rfl,Xd (fun e=> ?_) (fun e=> ?_)⟩
  ·obtain rfl:=ew _ (of_decide_eq_true e);rw[ZdI] at k1 k2
   refine⟨_,rfl,R,r,rfl,Zb,hw',hl',fun x r1 ex m1 H2 s2 t1=> ?_,fun no zs H2 s2=> ?_⟩
   ·rw[YZ] at s2
    obtain⟨lr,sub⟩:=ZeT ex;rw[ex] at k1 k2
    refine⟨_,rfl,_,rfl,R,r1,rfl,s2 _ _ Zb,fun y hy=>hw' y (sub y hy),by omega,fun y r2 ey m2 H3 s3 t2=> ?_,fun no zs H3 s3=> ?_⟩
    ·have t3:=t1.keep fun b C dx fs e=>s3 b (.ins C dx fs) (by rw[Zw (Ze1 e (s2 _ _ Zb) (fun z=>nomatch z))];exact e)
     exact⟨m1,m2,x,y,rfl,t3,t2,fun p H4 s4 _ t4=>k1 (.later x y) r2 (by show(pt n r1).bind _=_;rw[ey];rfl) p H4 ((Zby s2 s3).trans s4) t4⟩
    ·exact k2 (by show(pt n r1).bind _=_;rw[no];rfl) zs H3 (Zby s2 s3)
   ·rw[YZ] at s2
    exact k2 (by rw[no];rfl) zs H2 s2
  have n3:¬w=Str.ofString "later":=fun z=>e (decide_eq_true (by rw[z]));refine⟨_,rfl,rfl,_,rfl,Xd (fun e=> ?_) (fun e=> ?_)⟩
  ·obtain rfl:=ew _ (of_decide_eq_true e);rw[ZbP] at k1 k2
   refine⟨_,rfl,R,r,rfl,Zb,hw',hl',fun x r1 ex m1 H2 s2 t1=> ?_,fun no zs H2 s2=> ?_⟩
   ·rw[YZ] at s2
    obtain⟨lr,sub⟩:=ZeT ex;rw[ex] at k1 k2
    refine⟨_,rfl,_,rfl,R,r1,rfl,s2 _ _ Zb,fun y hy=>hw' y (sub y hy),by omega,fun y r2 ey m2 H3 s3 t2=> ?_,fun no zs H3 s3=> ?_⟩
    ·have t3:=t1.keep fun b C dx fs e=>s3 b (.ins C dx fs) (by rw[Zw (Ze1 e (s2 _ _ Zb) (fun z=>nomatch z))];exact e)
     exact⟨m1,m2,x,y,rfl,t3,t2,fun p H4 s4 _ t4=>k1 (.earlier x y) r2 (by show(pt n r1).bind _=_;rw[ey];rfl) p H4 ((Zby s2 s3).trans s4) t4⟩
    ·exact k2 (by show(pt n r1).bind _=_;rw[no];rfl) zs H3 (Zby s2 s3)
   ·rw[YZ] at s2
    exact k2 (by rw[no];rfl) zs H2 s2
  have n4:¬w=Str.ofString "earlier":=fun z=>e (decide_eq_true (by rw[z]));have pn:pt (n+1) (w::r)=none:=by
   show(if _ then _ else _)=_;rw[if_neg n1,if_neg n2,if_neg n3,if_neg n4]
  have lr:=StrLaws.reprText_len w okw;have la:(Str.empty++Str.ofString "no term begins with ").length<=sizeLine:=by
   rw[JH,show(Str.ofString "no term begins with ").length=20 by decide+kernel];omega
  have lb:(Str.empty++Str.ofString "no term begins with "++reprText w).length<=sizeLine:=by
   rw[JH,strLen_append,show(Str.ofString "no term begins with ").length=20 by decide+kernel];omega
  exact⟨la,_,rfl,w,rfl,by omega,okw,lb,lb,(by show 1<=sizeLine;omega),k2 pn _ _ (ZS.refl _)⟩
theorem JF:ZV ["text","words","rest","term"] ["text"] (Zz Zb6):=⟨rfl,rfl,rfl,by decide+kernel,rfl,by decide+kernel,by decide+kernel⟩
theorem ZeX{f:Addr}{fd:FuncData}(F:Fun K "term_read" "term_read" Zb6 f fd)(T:Txt K mg t_YEAR_DAYS t_MONTH_DAYS t_MOST_FIGURES t_MOST_LETTERS t_FIGURES t_LETTERS t_MOST_WORDS Zn Zi Zj Zc Zo ZP Zh Zd Zu ZD Zr Zq Zt Zv ZF ZQ)(o_NoTerm:ZcM "NoTerm" Zd mg base)(YD:Cal P w K mg base (CXr P w) 69 "part_taken" ["rest"] (Xp Zn Zi Zj Zc Zd 64)):Yx P w K mg base (CXr P w) 70 f fd ["text"] (ZaK Zn Zi Zj Zc Zd):=by
 refine okX F JF (fun vs H Q E h=> ?_) (fun cdv A outer s H vs Q E hr h=> ?_)
 ·obtain⟨x,rfl,_⟩:=h
  rfl
 ·obtain⟨x,rfl,hw,lx,lws,k1,k2⟩:=h;have l5:=YK;refine⟨_,(Zg (ZR (i:=1) JF.nd rfl (Or.inl rfl) (Zat PySem.F.plainAttrs_str PySem.F.slot_str_split PySem.F.type_str_split ZbH (pv 0) (Za Zx Zf))) (Zg (Yc (ZG Zd6 (ZL Ym (by rfl) T.z_len YW (Za (pv 1) Zf)) (Ye (v:=.int 61) rfl T.g_MOST_WORDS ⟨_,rfl⟩) (ZJ _)) (Zk (Zax Je o_NoTerm rfl rfl (Za (Zc3 (XN Zcn (XN (ZjP (Ye (v:=.int 61) rfl T.g_MOST_WORDS ⟨_,rfl⟩)) (XN Zcn Zdf)))) Zf))) ZM) (Zg (ZR (i:=2) JF.nd rfl (Or.inl rfl) (Zdj rfl (by rfl) T.z_list (by rfl) T.z_reversed (pv 1))) (Zg (ZR (i:=3) JF.nd rfl (Or.inl rfl) (Yi YD (hr.mono (by omega)) rfl Jk (Za (pv 2) Zf))) (Zg (Yc (ZG Zd6 (ZL Ym (by rfl) T.z_len YW (Za (pv 2) Zf)) Zm (ZJ _)) (Zk (Zax Je o_NoTerm rfl rfl (Za Zx Zf))) ZM) (Zk (ZC (pv 3)))))))), ?_⟩
  refine⟨_,rfl,rfl,x,32,rfl,by rw[Zeh],by omega,fun p hp=> ?_⟩;generalize Txt.split x ⟨#[32]⟩=ws at hw lws k1 k2⊢
  refine⟨_,rfl,_,_,rfl,.inl ⟨_,SqL.of Zb,rfl⟩,_,_,rfl,rfl,_,rfl,Xd (fun e=> ?_) (fun e=> ?_)⟩
  ·have e:(61:Int)<((ws.map V.str).length:Nat):=of_decide_eq_true e;have e61:61<ws.length:=by rw[List.length_map] at e;omega
   have la:(Str.empty++Str.ofString "a term has at most ").length<=100:=by decide+kernel
   have lb:(Str.empty++Str.ofString "a term has at most "++((toString (61:Int):String):Str)).length<=100:=by decide+kernel
   have lc:(Str.empty++Str.ofString "a term has at most "++((toString (61:Int):String):Str)++Str.ofString " words").length<=100:=by decide+kernel
   exact⟨by omega,61,rfl,by decide+kernel,by omega,by omega,by omega,(by show 1<=sizeLine;omega),k2 (by unfold JT;rw[if_pos e61]) _ (Ze hp)⟩
  have e61:¬61<ws.length:=fun z=>e (decide_eq_true (by rw[List.length_map];omega))
  refine⟨_,rfl,p,_,rfl,SqL.of Zb,fun R hR2=> ?_⟩;have s12:=(Ze hp (o:=.lst (ws.map V.str))).trans (Ze hR2 (o:=.lst (ws.map V.str).reverse));refine⟨_,rfl,R,ws,rfl,by rw[Zb,List.map_reverse],hw,by omega,fun t r et m H1 s1 tm=> ?_,fun no zs H1 s1=> ?_⟩
  ·rw[YZ] at s1
   have s2:=((Ze hp (o:=.lst (ws.map V.str))).trans (Ze hR2)).trans s1;refine⟨_,rfl,_,_,rfl,.inl ⟨_,SqL.of (s1 _ _ Zb),rfl⟩,_,_,rfl,rfl,_,rfl,Xd (fun e=> ?_) (fun e=> ?_)⟩
   ·refine⟨(by show 1<=sizeLine;omega),k2 ?_ H1 s2⟩
    have e:(0:Int)<((r.reverse.map V.str).length:Nat):=of_decide_eq_true e;unfold JT;rw[if_neg e61,et];cases r with
    |nil=>exact absurd e (by decide)
    |cons _ _=>rfl
   ·refine⟨_,rfl,k1 t ?_ m H1 s2 tm⟩;unfold JT;rw[if_neg e61,et];cases r with
    |nil=>rfl
    |cons a b=>exact absurd (decide_eq_true (by rw[List.length_map,List.length_reverse,List.length_cons];omega)) e
  ·rw[YZ] at s1
   exact k2 (by unfold JT;rw[if_neg e61,no]) H1 (((Ze hp (o:=.lst (ws.map V.str))).trans (Ze hR2)).trans s1)
theorem Zcd{K:PySem.W.Frag}{H:Hp}:∀ws:List Str,Paired (Rep K H) (ws.map fun w=>Dt.v (.str w)) (ws.map V.str)
 |[]=> .nil
 |w::ws=> .cons (.flat rfl) (Zcd ws)
theorem ZgH(z:Str)(ws:List Str):inV (.str z) (ws.map V.str)=decide (z∈ws):=by
 unfold inV
 apply Bool.eq_iff_iff.mpr
 rw[List.any_eq_true,decide_eq_true_iff]
 constructor
 ·rintro⟨y,hy,e⟩;obtain⟨w,hw,rfl⟩:=List.mem_map.mp hy;have e:(w==z)=true:=e;exact eq_of_beq e▸hw
 ·exact fun h=>⟨.str z,List.mem_map.mpr ⟨z,h,rfl⟩,Zb3 rfl⟩
theorem ZaQ:∀{t:Tr},t.lw.length+1<=4*t.cnt
 | .never=>by show 2<=4*1;decide
 | .after k d=>by show 4<=4*1;decide
 | .later x y=>by
  have a:=ZaQ (t:=x);have b:=ZaQ (t:=y);show(x.lw++y.lw).length+1+1<=4*(x.cnt+y.cnt);rw[List.length_append];omega
 | .earlier x y=>by
  have a:=ZaQ (t:=x);have b:=ZaQ (t:=y);show(x.lw++y.lw).length+1+1<=4*(x.cnt+y.cnt);rw[List.length_append];omega
theorem ZdJ{H H':Hp}(s:ZS H H'){c:Addr}(h:H' c=none):H c=none:=by
 cases e:H c with
 |none=>rfl
 |some o=>rw[s _ _ e] at h;cases h
theorem ZeY:ZV ["_law_tree"] ["_law_tree"] (Zz Zb7):=⟨rfl,rfl,rfl,by decide+kernel,rfl,by decide+kernel,by decide+kernel⟩
theorem ZeZ{f:Addr}{fd:FuncData}(F:Fun K "_law_words" "_law_words" Zb7 f fd)(T:Txt K mg t_YEAR_DAYS t_MONTH_DAYS t_MOST_FIGURES t_MOST_LETTERS t_FIGURES t_LETTERS t_MOST_WORDS Zn Zi Zj Zc Zo ZP Zh Zd Zu ZD Zr Zq Zt Zv ZF ZQ)(n:Nat)(Xz:Cal P w K mg base CX0 (0+n+1) "_law_words" ["_law_tree"] (XS n)):Yx P w K mg base CX0 (0+n+1+1) f fd ["_law_tree"] (XS (n+1)):=by
 refine F.ok ZeY (fun vs H Q E h=> ?_) (fun cdv A outer s H vs Q E hr h=> ?_)
 ·obtain⟨a,t,rfl,_⟩:=h
  rfl
 ·obtain⟨a,t,rfl,ht,hd,hc,hg,q⟩:=h;have l5:=YK;refine⟨_,(Zg (Yc (ZG Yn (YJ ZbF (pv 0) Zm (fun _ _=>rfl)) Zx (ZJ _)) (Zk (ZC (Yg (Za Zx Zf)))) ZM) (Zg (Yc (ZG Yn (YJ ZbF (pv 0) Zm (fun _ _=>rfl)) Zx (ZJ _)) (Zk (ZC (Yg (Za Zx (Za (YJ ZbF (pv 0) Zm (fun _ _=>rfl)) (Za (Zy Jc (Xy XM (by rfl) T.z_str Zde (Za (YJ ZbF (pv 0) Zm (fun _ _=>rfl)) Zf)) Zx) Zf)))))) ZM) (Zk (ZC (Zy Yz (Zy Yz (Yg (Za (YJ ZbF (pv 0) Zm (fun _ _=>rfl)) Zf)) (Yi Xz (hr.mono (by omega)) rfl Yk (Za (YJ ZbF (pv 0) Zm (fun _ _=>rfl)) Zf))) (Yi Xz (hr.mono (by omega)) rfl Yk (Za (YJ ZbF (pv 0) Zm (fun _ _=>rfl)) Zf))))))), ?_⟩
  cases t with
  |never=>
   have ha:H a=some _:=ht;exact(ixT rfl (SqT.of ha) rfl ⟨rfl,_,rfl,ZiY rfl ⟨show 1<=sizeLine from sl,fun p hp=>q p _ hp (Ze hp) Zb⟩⟩)
  |after k d=>
   have ha:H a=some _:=ht;obtain⟨nk,d0,d1⟩:=hg;have e0:d=((d.toNat:Nat):Int):=by omega
   have dl:=Zbt (k:=40) (by decide) (Zdt d0 d1);refine(ixT rfl (SqT.of ha) rfl ⟨rfl,_,rfl,Zee w1 (ixT rfl (SqT.of ha) rfl ⟨rfl,_,rfl,ZiY rfl ?_⟩)⟩);refine(ixT rfl (SqT.of ha) rfl (ixT rfl (SqT.of ha) rfl ⟨((d.toNat:Nat):Int),by rw[<-e0],Zdk (ZkD d0 d1),_,_,rfl,rfl, ?_,show 3<=sizeLine from sl,fun p hp=>q p _ hp (Ze hp) Zb⟩));show(num d.toNat).length+1<=sizeLine;omega
  |later x y=>
   obtain⟨p1,p2,ha,t1,t2⟩:=ht;have hdeep:max x.deep y.deep+1<n+1:=hd;have hcnt:x.cnt+y.cnt<=15:=hc;have lx:=ZaQ (t:=x);have ly:=ZaQ (t:=y);refine(ixT rfl (SqT.of ha) rfl ⟨rfl,_,rfl,Zee w2 (ixT rfl (SqT.of ha) rfl ⟨rfl,_,rfl,Zee w4 ?_⟩)⟩);refine(ixT rfl (SqT.of ha) rfl ⟨show 1<=sizeLine from sl,fun t0 h0=> ?_⟩);have s0:=Ze h0 (o:=.lst [.str (Str.ofString "later")]);refine(ixT rfl (SqT.of (s0 _ _ ha)) rfl ⟨p1,x,rfl,t1.same s0,by omega,by omega,hg.1,fun L1 H1 n1 s1 e1=> ?_⟩)
   refine⟨t0,L1,_,_,rfl,rfl,SqL.of (s1 _ _ Zb),SqL.of e1,by rw[List.length_map];show 1+_<=_;omega,fun L2 n2=> ?_⟩
   have s2:=(s0.trans s1).trans (Ze n2 (o:=.lst ([.str (Str.ofString "later")]++x.lw.map V.str)));refine(ixT rfl (SqT.of (s2 _ _ ha)) rfl ⟨p2,y,rfl,t2.same s2,by omega,by omega,hg.2,fun L3 H3 n3 s3 e3=> ?_⟩);refine⟨L2,L3,_,_,rfl,rfl,SqL.of (s3 _ _ Zb),SqL.of e3,by rw[List.length_append,List.length_map,List.length_map];show 1+_+_<=_;omega,fun L4 n4=> ?_⟩
   refine q L4 _ (ZdJ (s2.trans s3) n4) ((s2.trans s3).trans (Ze n4)) ?_;rw[Zb];simp[Tr.lw]
  |earlier x y=>
   obtain⟨p1,p2,ha,t1,t2⟩:=ht;have hdeep:max x.deep y.deep+1<n+1:=hd;have hcnt:x.cnt+y.cnt<=15:=hc;have lx:=ZaQ (t:=x);have ly:=ZaQ (t:=y);refine(ixT rfl (SqT.of ha) rfl ⟨rfl,_,rfl,Zee w3 (ixT rfl (SqT.of ha) rfl ⟨rfl,_,rfl,Zee w5 ?_⟩)⟩);refine(ixT rfl (SqT.of ha) rfl ⟨show 1<=sizeLine from sl,fun t0 h0=> ?_⟩);have s0:=Ze h0 (o:=.lst [.str (Str.ofString "earlier")]);refine(ixT rfl (SqT.of (s0 _ _ ha)) rfl ⟨p1,x,rfl,t1.same s0,by omega,by omega,hg.1,fun L1 H1 n1 s1 e1=> ?_⟩)
   refine⟨t0,L1,_,_,rfl,rfl,SqL.of (s1 _ _ Zb),SqL.of e1,by rw[List.length_map];show 1+_<=_;omega,fun L2 n2=> ?_⟩
   have s2:=(s0.trans s1).trans (Ze n2 (o:=.lst ([.str (Str.ofString "earlier")]++x.lw.map V.str)));refine(ixT rfl (SqT.of (s2 _ _ ha)) rfl ⟨p2,y,rfl,t2.same s2,by omega,by omega,hg.2,fun L3 H3 n3 s3 e3=> ?_⟩);refine⟨L2,L3,_,_,rfl,rfl,SqL.of (s3 _ _ Zb),SqL.of e3,by rw[List.length_append,List.length_map,List.length_map];show 1+_+_<=_;omega,fun L4 n4=> ?_⟩
   refine q L4 _ (ZdJ (s2.trans s3) n4) ((s2.trans s3).trans (Ze n4)) ?_;rw[Zb];simp[Tr.lw]
theorem ZcG:ZV ["_law_text","_law_sign"] ["_law_text"] (Zz ZbK):=⟨rfl,rfl,rfl,by decide+kernel,rfl,by decide+kernel,by decide+kernel⟩
theorem Zfy{f:Addr}{fd:FuncData}(F:Fun K "_law_name" "_law_name" ZbK f fd)(T:Txt K mg t_YEAR_DAYS t_MONTH_DAYS t_MOST_FIGURES t_MOST_LETTERS t_FIGURES t_LETTERS t_MOST_WORDS Zn Zi Zj Zc Zo ZP Zh Zd Zu ZD Zr Zq Zt Zv ZF ZQ):Yx P w K mg base CX0 1 f fd ["_law_text"] Zbc:=by
 refine F.ok ZcG (fun vs H Q E h=> ?_) (fun cdv A outer s H vs Q E hr h=> ?_)
 ·obtain⟨x,rfl,_⟩:=h
  rfl
 ·obtain⟨x,rfl,hx,k⟩:=h;have l5:=YK;have hl:x.cps.toList.length=x.length:=by rw[Array.length_toList];rfl
  refine⟨_,(Zg (Zck PassesOwn.never rfl (ZfS (pv 0)) (XH (i:=1) ZcG.nd rfl (Or.inl rfl)) (Zk (Yc (ZG ZbZ (pv 1) Zx rfl) (Zk (ZC Zar)) ZM))) (Zk (ZC (Zfc Zfb Zfb Zm (ZL Ym (by rfl) T.z_len YW (Za (pv 0) Zf)) Zm)))), ?_⟩;refine⟨_,rfl,x,rfl,Zgu (fun i σ H'=>∃v,σ=[some (.str x),v]/\H'=H/\(x.cps.toList.take i).all (inS YH)=true) ?_ ?_ ?_⟩
  ·exact⟨none,rfl,rfl,by simp⟩
  ·rintro i c σ H1 hc ⟨v,rfl,rfl,ha⟩;refine⟨_,rfl,_,_,rfl,rfl,_,rfl, ?_⟩;show if(!(inS YH c))=true then _ else _;have e3:x.cps.toList[i]? =some c:=by rw[Array.getElem?_toList];exact hc
   cases q:inS YH c with
   |false=>
    refine Xm ?_;have af:x.cps.toList.all (inS YH)=false:=by
     rw[List.all_eq_false];exact⟨c,List.mem_of_getElem? e3,by rw[q];exact Bool.false_ne_true⟩
    exact JQ (k _ (ZS.refl _)) (by unfold Yp;rw[af,Bool.and_false])
   |true=>
    refine YT ⟨_,rfl,rfl, ?_⟩;rw[List.take_add_one,e3,List.all_append,ha];simp[q]
  ·rintro σ H1 ⟨v,rfl,rfl,ha⟩;rw[List.take_of_length_le (by rw[hl];exact Nat.le_refl _)] at ha
   have hz:x.length<=sizeLine:=by omega
   have q:=k _ (ZS.refl _);refine⟨_,rfl,_,_,rfl,⟨hz,rfl⟩,_,_,rfl,rfl,_,rfl, ?_⟩
   by_cases h1:1<=x.length
   ·rw[decide_eq_true (show(1:Int)<=((x.length:Nat):Int) by omega)];refine Xm ⟨_,_,rfl,rfl,JQ q ?_⟩;unfold Yp;rw[ha,decide_eq_true h1,Bool.true_and,Bool.and_true]
    congr 1
    exact decide_eq_decide.mpr ⟨fun z=>by omega,fun z=>by omega⟩
   ·rw[decide_eq_false (show¬(1:Int)<=((x.length:Nat):Int) by omega)];refine YT (JQ q ?_);unfold Yp;rw[decide_eq_false h1]
    rfl
theorem Zak:ZV ["_law_text","_law_figures","_law_sign"] ["_law_text"] (Zz ZaH):=⟨rfl,rfl,rfl,by decide+kernel,rfl,by decide+kernel,by decide+kernel⟩
theorem ZdZ{f:Addr}{fd:FuncData}(F:Fun K "_law_length" "_law_length" ZaH f fd)(T:Txt K mg t_YEAR_DAYS t_MONTH_DAYS t_MOST_FIGURES t_MOST_LETTERS t_FIGURES t_LETTERS t_MOST_WORDS Zn Zi Zj Zc Zo ZP Zh Zd Zu ZD Zr Zq Zt Zv ZF ZQ):Yx P w K mg base CX0 1 f fd ["_law_text"] Jm:=by
 refine F.ok Zak (fun vs H Q E h=> ?_) (fun cdv A outer s H vs Q E hr h=> ?_)
 ·obtain⟨x,rfl,_⟩:=h
  rfl
 ·obtain⟨x,rfl,hx,k⟩:=h;have l5:=YK;have hz:x.length<=sizeLine:=by omega
  have ln:(Xh x).length<=x.length:=Txt.slice_le x none (some (-1));have hl:(Xh x).cps.toList.length=(Xh x).length:=by rw[Array.length_toList];rfl
  have isl:Yy x=(decide (ZbA x≠.non)&&Xj (Xh x)):=by
   unfold Yy Jo;rcases Zdm (Txt.slice x (some (-1)) none) with e|⟨u,e,_⟩
   ·rw[show ZbA x=.non from e]
    rfl
   ·rw[show ZbA x=.int (u:Int) from e];cases Xj (Xh x)<;>rfl
  refine⟨_,(Zg (ZR (i:=1) Zak.nd rfl (Or.inl rfl) (Yo Zex (pv 0) Xa (Ys (Zgo Zer Zm)))) (Zg (Zck PassesOwn.never rfl (ZfS (pv 1)) (XH (i:=2) Zak.nd rfl (Or.inl rfl)) (Zk (Yc (ZG ZbZ (pv 2) Zx rfl) (Zk (ZC Zar)) ZM))) (Zk (ZC (ZaZ (XJ Ze8 (Yo Zex (pv 0) (Ys (Zgo Zer Zm)) Xa) (Yg (Za Zx (Za Zx (Za Zx Zf)))) rfl) (ZaZ (Zfc Zfb Zfb Zm (ZL Ym (by rfl) T.z_len YW (Za (pv 1) Zf)) Zm) (Zd3 (Zk3 (XJ Zj8 (YJ Zd8 (pv 1) Zm (fun _ _=>rfl)) Zx (ZJ _)) (Zd3 (XJ Yn (pv 1) Zx (ZJ _))))))))))), ?_⟩
  refine⟨_,rfl,_,rfl,_,rfl,_,rfl,hz, ?_⟩;refine⟨_,rfl,Xh x,rfl,Zgu (fun i σ H'=>∃v,σ=[some (.str x),some (.str (Xh x)),v]/\H'=H/\((Xh x).cps.toList.take i).all (inS Yj)=true) ?_ ?_ ?_⟩
  ·exact⟨none,rfl,rfl,by simp⟩
  ·rintro i c σ H1 hc ⟨v,rfl,rfl,ha⟩;refine⟨_,rfl,_,_,rfl,rfl,_,rfl, ?_⟩;show if(!(inS Yj c))=true then _ else _;have e3:(Xh x).cps.toList[i]? =some c:=by rw[Array.getElem?_toList];exact hc
   cases q:inS Yj c with
   |false=>
    refine Xm ?_;have af:(Xh x).cps.toList.all (inS Yj)=false:=by
     rw[List.all_eq_false];exact⟨c,List.mem_of_getElem? e3,by rw[q];exact Bool.false_ne_true⟩
    have nf:Xj (Xh x)=false:=by
     cases z:Xj (Xh x) with
     |false=>rfl
     |true=>rw[(Zdl z).1] at af;cases af
    exact JQ (k _ (ZS.refl _)) (by rw[isl,nf,Bool.and_false])
   |true=>
    refine YT ⟨_,rfl,rfl, ?_⟩;rw[List.take_add_one,e3,List.all_append,ha];simp[q]
  ·rintro σ H1 ⟨v,rfl,rfl,ha⟩;rw[List.take_of_length_le (by rw[hl];exact Nat.le_refl _)] at ha
   refine⟨_,rfl,_,rfl,_,rfl,_,rfl,hz,show 3<=sizeLine from sl,fun t0 h0=> ?_⟩;have q:=k _ (Ze h0 (o:=.lst [.str (Str.ofString "y"),.str (Str.ofString "m"),.str (Str.ofString "d")]));refine⟨t0,_,rfl,.inl (SqL.of Zb),rfl,rfl,_,rfl, ?_⟩;show if inV (.str (Txt.slice x (some (-1)) none)) ([Str.ofString "y",Str.ofString "m",Str.ofString "d"].map V.str)=true then _ else _;rw[ZgH]
   by_cases m:Txt.slice x (some (-1)) none∈[Str.ofString "y",Str.ofString "m",Str.ofString "d"]
   ·have nn:ZbA x≠.non:=by
     simp only [List.mem_cons,List.mem_nil_iff,or_false] at m
     show Ja (Txt.slice x (some (-1)) none)≠.non;rcases m with m|m|m<;>rw[m]<;>decide+kernel
    rw[decide_eq_true m];have isl:Yy x=Xj (Xh x):=by rw[isl,decide_eq_true nn,Bool.true_and]
    refine Xm ?_;refine⟨_,rfl,_,_,rfl,⟨by omega,rfl⟩,_,_,rfl,rfl,_,rfl, ?_⟩
    by_cases h1:1<=(Xh x).length
    ·rw[decide_eq_true (show(1:Int)<=(((Xh x).length:Nat):Int) by omega)];refine Xm ⟨_,_,rfl,rfl,_,rfl, ?_⟩
     by_cases h2:(Xh x).length<=40
     ·rw[decide_eq_true (show(((Xh x).length:Nat):Int)<=40 by omega)];refine Xm ?_;have hn:¬((Xh x).length=0\/40<(Xh x).length):=by omega
      obtain⟨c,hc⟩:=Zc7 (xs:=(Xh x).cps.toList) (i:=0) (by omega) (by rw[Array.length_toList];show(0:Int)<(((Xh x).length:Nat):Int);omega)
      have hh:(cs (Xh x)).head? =some c:=Zfv hc;refine⟨_,rfl,Xh x,0,c,rfl,rfl,by omega,hc,rfl,_,rfl, ?_⟩
      by_cases e3:c=48
      ·rw[decide_eq_true ((Zc8 c).mpr e3)];refine YT ⟨_,rfl,rfl,JQ q ?_⟩;rw[isl];unfold Xj;rw[if_neg hn]
       by_cases ex:Xh x=⟨#[48]⟩
       ·rw[if_neg (fun z=>z.2 ex),ha,decide_eq_true (by rw[ex,<-Zi2])]
       ·rw[if_pos ⟨by rw[hh,e3],ex⟩,decide_eq_false (fun z=>ex ((V.str.inj z).trans Zi2))]
      ·rw[decide_eq_false (fun z=>e3 ((Zc8 c).mp z))];refine Xm (JQ q ?_);rw[isl];unfold Xj;rw[if_neg hn,if_neg (fun z=>e3 (by have:=z.1;rw[hh] at this;exact Option.some.inj this)),ha]
     ·rw[decide_eq_false (show¬(((Xh x).length:Nat):Int)<=40 by omega)];refine YT (JQ q ?_);rw[isl];unfold Xj;rw[if_pos (.inr (by omega))]
    ·rw[decide_eq_false (show¬(1:Int)<=(((Xh x).length:Nat):Int) by omega)];refine YT ⟨_,rfl,YT (JQ q ?_)⟩;rw[isl];unfold Xj;rw[if_pos (.inl (by omega))]
   ·have nn:¬ZbA x≠.non:=fun z=>by
     simp only [List.mem_cons,List.mem_nil_iff,or_false,not_or] at m
     refine z ?_;show Ja (Txt.slice x (some (-1)) none)=.non;unfold Ja;rw[if_neg m.1,if_neg m.2.1,if_neg m.2.2]
    rw[decide_eq_false m];refine YT (JQ q ?_);rw[isl,decide_eq_false nn]
    rfl
theorem Jb{a b:TS}{D:ZbV}{σ:L2.St}{H:Hp}(h:∀B:L2.St->Hp->Prop,(∀σ' H',b D σ' H'->B σ' H')->Zjo a (fun _=>B) D σ H):Zjo a b D σ H:=h (b D) fun _ _ x=>x
theorem Zel(m:Nat)(r:List Str):okW (m+1) (Str.ofString "never"::r)=okW m r:=by
 rw[okW,if_pos rfl]
theorem Zem(m:Nat)(k l:Str)(q:List Str):okW (m+1) (Str.ofString "after"::k::l::q)=(Yp k&&Yy l&&okW m q):=by
 rw[okW,if_neg an1,if_pos rfl];show(decide (2<=q.length+1+1)&&Yp k&&Yy l&&okW m q)=_;rw[decide_eq_true (by omega),Bool.true_and]
theorem Zcy(m:Nat){q:List Str}(h:q.length<2):okW (m+1) (Str.ofString "after"::q)=false:=by
 rw[okW,if_neg an1,if_pos rfl,decide_eq_false (by omega)]
 rfl
theorem Zf0(m:Nat){w:Str}(h:w=Str.ofString "later"\/w=Str.ofString "earlier")(q:List Str):okW (m+1) (w::q)=okW (m+2) q:=by
 rw[okW,if_neg (fun z=>h.elim (fun y=>ln1 (y.symm.trans z)) fun y=>en1 (y.symm.trans z)),if_neg (fun z=>h.elim (fun y=>ln2 (y.symm.trans z)) fun y=>en2 (y.symm.trans z)),if_pos h]
theorem Zgg(m:Nat){w:Str}(q:List Str)(h1:¬w=Str.ofString "never")(h2:¬w=Str.ofString "after")(h3:¬(w=Str.ofString "later"\/w=Str.ofString "earlier")):okW (m+1) (w::q)=false:=by
 rw[okW,if_neg h1,if_neg h2,if_neg h3]
theorem ZgI(m:Nat):okW (m+1) []=false:=by rw[okW]
theorem Zfz(r:List Str):okW 0 r=r.isEmpty:=by
 cases r<;>rw[okW]
theorem ZkI:∀(n:Nat) (ws:List Str),ws.length<n->∀m,okW (m+1) ws=match pt n ws with
  |some (_,r)=>okW m r
  |none=>false:=by
 intro n
 induction n with
 |zero=>exact fun ws h=>absurd h (Nat.not_lt_zero _)
 |succ n ih=>
  intro ws h m;cases ws with
  |nil=>exact ZgI m
  |cons w q=>
   have hq:q.length<n:=by rw[List.length_cons] at h;omega
   by_cases h1:w=Str.ofString "never"
   ·subst h1;rw[Zel,ZdG]
   ·by_cases h2:w=Str.ofString "after"
    ·subst h2
     match q with
     |[]=>rw[Zcy m (by decide),Za0 n (q:=[]) (fun a b z=>by cases z)]
     |[k]=>rw[Zcy m (by show 1<2;decide),Zaz n (q:=[]) (fun a b z=>by cases z)]
     |k::l::r=>
      rw[Zem];cases nk:Yp k with
      |false=>rw[Za0 n (fun a b z=>by injection z with z _;rw[<-z];exact nk)];rfl
      |true=>
       by_cases z:Jo l=.non
       ·rw[Zaz n (fun a b y=>by injection y with y _;rw[<-y];exact z),show Yy l=false by unfold Yy;rw[z]]
        rfl
       ·obtain⟨d,ed⟩:=Zds z;rw[ZdH n r nk ed,show Yy l=true by unfold Yy;rw[ed]]
        rfl
    ·have two:∀(f:Tr->Tr->Tr),okW (m+2) q=match ((pt n q).bind fun x=>(pt n x.2).bind fun y=>some (f x.1 y.1,y.2)) with
       |some (_,r)=>okW m r
       |none=>false:=fun f=>by
      rw[ih q hq (m+1)];cases e1:pt n q with
      |none=>rfl
      |some x=>
       obtain⟨x,r1⟩:=x;show okW (m+1) r1=match ((pt n r1).bind fun y=>some (f x y.1,y.2)) with
        |some (_,r)=>okW m r
        |none=>false
       rw[ih r1 (Nat.lt_trans (ZeT e1).1 hq) m];cases pt n r1<;>rfl
     by_cases h3:w=Str.ofString "later"
     ·subst h3;rw[Zf0 m (.inl rfl),ZdI];exact two _
     ·by_cases h4:w=Str.ofString "earlier"
      ·subst h4;rw[Zf0 m (.inr rfl),ZbP];exact two _
      ·rw[Zgg m q h1 h2 (fun z=>z.elim h3 h4)];have pn:pt (n+1) (w::q)=none:=by
        show(if _ then _ else _)=_;rw[if_neg h1,if_neg h2,if_neg h3,if_neg h4]
       rw[pn]
theorem ZgJ(ws:List Str):(JT ws).isSome=(decide (ws.length<=61)&&okW 1 ws):=by
 unfold JT
 by_cases h:61<ws.length
 ·rw[if_pos h,decide_eq_false (by omega)]
  rfl
 ·rw[if_neg h,decide_eq_true (by omega),Bool.true_and,ZkI 64 ws (by omega) 0];cases e:pt 64 ws with
  |none=>rfl
  |some x=>
   obtain⟨t,r⟩:=x;show _=okW 0 r;rw[Zfz];cases r<;>rfl
theorem Zgh{ws:List Str}{k:Nat}{w:Str}(e:ws[k]? =some w):atI (ws.map V.str) (k:Int)=some (.str w):=by
 have lt:=(List.getElem?_eq_some_iff.mp e).1;unfold atI ixN;rw[if_pos (by omega),if_pos (by rw[List.length_map];omega)]
 show(ws.map V.str)[((k:Int)).toNat]? =_;rw[Int.toNat_natCast,List.getElem?_map,e]
 rfl
theorem YF:ZV ["_law_words_here","_law_wanted","_law_k"] ["_law_words_here"] (Zz Zb8):=⟨rfl,rfl,rfl,by decide+kernel,rfl,by decide+kernel,by decide+kernel⟩
theorem Zf1{f:Addr}{fd:FuncData}(F:Fun K "_law_right" "_law_right" Zb8 f fd)(T:Txt K mg t_YEAR_DAYS t_MONTH_DAYS t_MOST_FIGURES t_MOST_LETTERS t_FIGURES t_LETTERS t_MOST_WORDS Zn Zi Zj Zc Zo ZP Zh Zd Zu ZD Zr Zq Zt Zv ZF ZQ)(YM:Cal P w K mg base CX0 1 "_law_length" ["_law_text"] Jm)(ZbQ:Cal P w K mg base CX0 1 "_law_name" ["_law_text"] Zbc):Yx P w K mg base CX0 2 f fd ["_law_words_here"] ZaM:=by
 refine F.ok YF (fun vs H Q E h=> ?_) (fun cdv A outer s H vs Q E hr h=> ?_)
 ·obtain⟨p,ws,rfl,_⟩:=h
  rfl
 ·obtain⟨p,ws,rfl,hp,hw,hl,q⟩:=h;have l5:=YK;rw[ZgJ] at q
  refine⟨_,(Zg (ZR (i:=1) YF.nd rfl (Or.inl rfl) Zm) (Zg (ZR (i:=2) YF.nd rfl (Or.inl rfl) Zm) (Zg (Zfa PassesOwn.never (PW.pt (Zeq (ZG Zd6 (pv 1) Zm (ZJ _)) (ZcT (ZG Zgs (pv 2) (ZL Ym (by rfl) T.z_len YW (Za (pv 0) Zf)) (ZJ _))))) (Zg (Yc (ZG Yn (YJ Xb (pv 0) (pv 2) (fun _ _=>rfl)) Zx (ZJ _)) (Zk (ZR (i:=1) YF.nd rfl (Or.inl rfl) (Zy Zhj (pv 1) Zm))) (Zk (Yc (ZG Yn (YJ Xb (pv 0) (pv 2) (fun _ _=>rfl)) Zx (ZJ _)) (Zg (Yc (PW.pt (ZbW (ZG Zkc (Zy Xf (pv 2) Zm) (ZL Ym (by rfl) T.z_len YW (Za (pv 0) Zf)) (ZJ _)) (ZbW (XF (XD (Yi ZbQ (hr.mono (by omega)) rfl Yk (Za (YJ Xb (pv 0) (Zy Xf (pv 2) Zm) (fun _ _=>rfl)) Zf)))) (Zcj (XF (XD (Yi YM (hr.mono (by omega)) rfl Yk (Za (YJ Xb (pv 0) (Zy Xf (pv 2) Zm) (fun _ _=>rfl)) Zf)))))))) (Zk (ZC Zar)) ZM) (Zg (ZR (i:=1) YF.nd rfl (Or.inl rfl) (Zy Zhj (pv 1) Zm)) (Zk (ZR (i:=2) YF.nd rfl (Or.inl rfl) (Zy Xf (pv 2) Zm))))) (Zk (Yc (ZG Ze8 (YJ Xb (pv 0) (pv 2) (fun _ _=>rfl)) (Yg (Za Zx (Za Zx Zf))) rfl) (Zk (ZR (i:=1) YF.nd rfl (Or.inl rfl) (Zy Xf (pv 1) Zm))) (Zk (ZC Zar))))))) (Zk (ZR (i:=2) YF.nd rfl (Or.inl rfl) (Zy Xf (pv 2) Zm))))) (Zk (ZC (ZaZ (XJ Yn (pv 1) Zm (ZJ _)) (ZaZ (XJ Yn (pv 2) (ZL Ym (by rfl) T.z_len YW (Za (pv 0) Zf)) (ZJ _)) (Zd3 (XJ Zfb (ZL Ym (by rfl) T.z_len YW (Za (pv 0) Zf)) Zm (ZJ _)))))))))), ?_⟩
  refine Jb fun B_ hB=> ?_;refine hB _ _ ?_;refine Jb fun B_ hB=> ?_;refine hB _ _ ?_;refine Jb fun B_ hB=> ?_;have fin:∀(j k:Nat) H2,ZS H H2->k<=ws.length->(j=0\/k=ws.length)->okW j (ws.drop k)=okW 1 ws->B_ [some (.ref p),some (.int (j:Int)),some (.int (k:Int))] H2:=by
   intro j k H2 s2 hk jk ok;refine hB _ _ ?_;have q2:=q H2 s2;have hp2:=s2 _ _ hp;have ml:(ws.map V.str).length=ws.length:=List.length_map ..;refine⟨_,rfl,rfl,_,rfl, ?_⟩
   by_cases j0:j=0
   ·subst j0;refine ZiY rfl ⟨_,rfl,_,rfl,_,_,rfl,.inl ⟨_,SqL.of hp2,rfl⟩,rfl,_,rfl, ?_⟩;rw[Zfz] at ok
    by_cases kl:k=ws.length
    ·rw[decide_eq_true (by rw[ml,kl])];refine Xm ⟨_,rfl,_,_,rfl,.inl ⟨_,SqL.of hp2,rfl⟩,_,_,rfl,rfl,JQ q2 ?_⟩;rw[<-ok,kl,List.drop_length,List.isEmpty_nil,Bool.and_true,ml]
     congr 1
     exact decide_eq_decide.mpr ⟨fun z=>by omega,fun z=>by omega⟩
    ·rw[decide_eq_false (fun z=>kl (by injection z with z;rw[ml] at z;omega))]
     refine YT (JQ q2 ?_);rw[<-ok];cases e:ws.drop k with
     |nil=>exact absurd (List.drop_eq_nil_iff.mp e) (by omega)
     |cons _ _=>rw[List.isEmpty_cons,Bool.and_false]
   ·rw[decide_eq_false (fun z=>j0 (by injection z with z;omega))]
    refine YT (JQ q2 ?_);obtain kl:k=ws.length:=jk.resolve_left j0;obtain⟨i,rfl⟩:∃i,j=i+1:=⟨j-1,by omega⟩
    rw[<-ok,kl,List.drop_length,ZgI,Bool.and_false]
  refine⟨fun m σ H2=>∃k j:Nat,σ=[some (.ref p),some (.int (j:Int)),some (.int (k:Int))]/\m=ws.length-k/\k<=ws.length/\okW j (ws.drop k)=okW 1 ws/\ZS H H2,⟨_,0,1,rfl,rfl,Nat.zero_le _,rfl,ZS.refl _⟩, ?_⟩;rintro m σ H2 ⟨k,j,rfl,rfl,hk,ok,s2⟩;have hp2:=s2 _ _ hp;have ml:(ws.map V.str).length=ws.length:=List.length_map ..;refine⟨_,rfl,_,_,rfl,rfl,_,rfl, ?_⟩
  by_cases j0:j=0
  ·rw[decide_eq_false (show¬(0:Int)<(j:Int) by omega)];exact YT (YT (fin j k H2 s2 hk (.inl j0) ok))
  rw[decide_eq_true (show(0:Int)<(j:Int) by omega)];refine Xm ⟨_,rfl,_,rfl,_,_,rfl,.inl ⟨_,SqL.of hp2,rfl⟩,_,_,rfl,rfl,_,rfl, ?_⟩;rw[ml]
  by_cases kl:k=ws.length
  ·rw[decide_eq_false (show¬(k:Int)<(ws.length:Nat) by omega)];exact YT (fin j k H2 s2 hk (.inr kl) ok)
  rw[decide_eq_true (show(k:Int)<(ws.length:Nat) by omega)];refine Xm ⟨fun σ H3=>∃k' j':Nat,σ=[some (.ref p),some (.int (j':Int)),some (.int (k':Int))]/\k<k'/\k'<=ws.length/\okW j' (ws.drop k')=okW 1 ws/\ZS H H3,fun σ' H' ⟨k',j',e,lt,hk',ok',s'⟩=>⟨_,by omega,k',j',e,rfl,hk',ok',s'⟩, ?_⟩;obtain⟨i,rfl⟩:∃i,j=i+1:=⟨j-1,by omega⟩
  obtain⟨w,ew⟩:∃w,ws[k]? =some w:=⟨_,List.getElem?_eq_getElem (by omega)⟩
  have ed:ws.drop k=w::ws.drop (k+1):=by
   obtain⟨lt,e⟩:=List.getElem?_eq_some_iff.mp ew;rw[List.drop_eq_getElem_cons lt,e]
  rw[ed] at ok
  have at0:=Zgh ew;have ee:∀y:Str,V.str w=V.str y->w=y:=fun y e=>by injection e
  refine Jb fun B2 hB2=> ?_;have nxt:∀(j' k':Nat) H3,ZS H H3->k<=k'->k'<ws.length->okW j' (ws.drop (k'+1))=okW 1 ws->B2 [some (.ref p),some (.int (j':Int)),some (.int (k':Int))] H3:=fun j' k' H3 s3 h1 h2 h3=>hB2 _ _ ⟨_,rfl,_,_,rfl,rfl,k'+1,j',rfl,by omega,by omega,h3,s3⟩;refine⟨_,rfl,_,rfl,p,_,_,_,rfl,rfl,SqL.of hp2,at0,rfl,_,rfl,Xd (fun e=> ?_) (fun e=> ?_)⟩
  ·obtain rfl:=ee _ (of_decide_eq_true e);rw[Zel] at ok
   refine⟨_,rfl,_,_,rfl,rfl, ?_⟩;have:=nxt i k H2 s2 (Nat.le_refl _) (by omega) ok
   rwa [show(i:Int)=((i+1:Nat):Int)-1 by omega] at this
  have n1:¬w=Str.ofString "never":=fun z=>e (decide_eq_true (by rw[z]));refine⟨_,rfl,_,rfl,p,_,_,_,rfl,rfl,SqL.of hp2,at0,rfl,_,rfl,Xd (fun e=> ?_) (fun e=> ?_)⟩
  ·obtain rfl:=ee _ (of_decide_eq_true e);refine Jb fun B3 hB3=> ?_;refine⟨_,rfl,_,_,rfl,rfl,_,rfl,_,_,rfl,.inl ⟨_,SqL.of hp2,rfl⟩,_,_,rfl,rfl,_,rfl, ?_⟩;rw[ml]
   by_cases short:ws.length<=k+2
   ·rw[decide_eq_true (show((ws.length:Nat):Int)<=(k:Int)+2 by omega)];rw[Zcy i (by rw[List.length_drop];omega)] at ok
    exact Xm (Xm (JQ (q _ s2) (by rw[<-ok,Bool.and_false])))
   rw[decide_eq_false (show¬((ws.length:Nat):Int)<=(k:Int)+2 by omega)];obtain⟨w1,e1⟩:∃w,ws[k+1]? =some w:=⟨_,List.getElem?_eq_getElem (by omega)⟩
   obtain⟨w2,e2⟩:∃w,ws[k+2]? =some w:=⟨_,List.getElem?_eq_getElem (by omega)⟩
   have d1:ws.drop (k+1)=w1::w2::ws.drop (k+3):=by
    obtain⟨l1,y1⟩:=List.getElem?_eq_some_iff.mp e1;obtain⟨l2,y2⟩:=List.getElem?_eq_some_iff.mp e2;rw[List.drop_eq_getElem_cons l1,y1,List.drop_eq_getElem_cons l2,y2]
   rw[d1,Zem] at ok
   have at1:atI (ws.map V.str) ((k:Int)+1)=some (.str w1):=Zgh e1;have at2:atI (ws.map V.str) ((k:Int)+2)=some (.str w2):=Zgh e2;have b1:=(hw w1 (List.mem_of_getElem? e1)).1;have b2:=(hw w2 (List.mem_of_getElem? e2)).1;refine YT ?_;refine⟨_,rfl,_,rfl,_,_,rfl,rfl,p,_,_,_,rfl,rfl,SqL.of hp2,at1,w1,rfl,by omega,fun H3 s3=>⟨_,rfl, ?_⟩⟩;cases nk:Yp w1 with
   |false=>
    rw[nk] at ok
    exact Xm (Xm (JQ (q _ (s2.trans s3)) (by rw[<-ok];exact congrArg V.bl (Bool.and_false _))))
   |true=>
    rw[nk] at ok
    refine YT ?_;refine⟨_,rfl,_,rfl,_,_,rfl,rfl,p,_,_,_,rfl,rfl,SqL.of (s3 _ _ hp2),at2,w2,rfl,by omega,fun H4 s4=>⟨_,rfl, ?_⟩⟩;cases nl:Yy w2 with
    |false=>
     rw[nl] at ok
     exact Xm (JQ (q _ (s2.trans (s3.trans s4))) (by rw[<-ok];exact congrArg V.bl (Bool.and_false _)))
    |true=>
     rw[nl] at ok
     refine YT ?_;refine hB3 _ _ ?_;refine⟨_,rfl,_,_,rfl,rfl,_,rfl,_,_,rfl,rfl, ?_⟩;have:=nxt i (k+2) H4 (s2.trans (s3.trans s4)) (by omega) (by omega) ok
     rwa [show(i:Int)=((i+1:Nat):Int)-1 by omega] at this
  have n2:¬w=Str.ofString "after":=fun z=>e (decide_eq_true (by rw[z]));refine⟨_,rfl,_,rfl,p,_,_,_,rfl,rfl,SqL.of hp2,at0,show 2<=sizeLine from sl,fun t0 h0=> ?_⟩;have s3:=s2.trans (Ze h0 (o:=.lst [.str (Str.ofString "later"),.str (Str.ofString "earlier")]));refine⟨t0,_,rfl,.inl (SqL.of Zb),rfl,rfl,_,rfl, ?_⟩;show if inV (.str w) ([Str.ofString "later",Str.ofString "earlier"].map V.str)=true then _ else _
  rw[ZgH]
  by_cases m:w∈[Str.ofString "later",Str.ofString "earlier"]
  ·rw[decide_eq_true m];have m2:w=Str.ofString "later"\/w=Str.ofString "earlier":=by simpa using m
   rw[Zf0 i m2] at ok
   refine Xm ⟨_,rfl,_,_,rfl,rfl, ?_⟩;exact nxt (i+2) k _ s3 (Nat.le_refl _) (by omega) ok
  ·rw[decide_eq_false m];rw[Zgg i _ n1 n2 (fun z=>m (by simpa using z))] at ok
   exact YT (JQ (q _ s3) (by rw[<-ok,Bool.and_false]))
theorem Xx{x:Str}(h1:x.length<=60)(h2:(cs x).all (fun c=>decide (c≠32)&&decide (c<16^8))=true):Wd x:=by
 rw[List.all_eq_true] at h2
 refine⟨h1,fun m=> ?_,fun c hc=> ?_⟩
 ·have:=h2 32 m;simp at this
 ·have:=h2 c hc;rw[Bool.and_eq_true] at this
  exact of_decide_eq_true this.2
theorem Zii{n:Nat}(h:n<10^41){c:Nat}(hc:c=121\/c=109\/c=100):Wd (num n++⟨#[c]⟩):=by
 have l:=Zbt (k:=41) (by decide) h;refine⟨by rw[ZeK];omega,fun m=> ?_,fun x hx=> ?_⟩
 ·rw[Yu,Za8] at m
  rcases List.mem_append.mp m with m|m
  ·have:=ZaB n 32 m;omega
  ·have e:32=c:=by simpa using m
   omega
 ·have hx:x∈cs (num n++⟨#[c]⟩):=hx;rw[Yu,Za8] at hx
  rcases List.mem_append.mp hx with m|m
  ·have:=ZaB n x m;omega
  ·have e:x=c:=by simpa using m
   omega
theorem ZkJ{z:Str}(h:Nm z):Wd z:=⟨by have:=h.2.1;omega,fun m=>by have:=h.2.2 32 m;omega,fun c hc=>by have:=h.2.2 c hc;omega⟩
theorem ZfA:∀{t:Tr},t.good->∀w∈t.lw,Wd w
 | .never,_,w,hw=>by
  rw[show w=Str.ofString "never" by simpa [Tr.lw] using hw];exact Xx (by decide+kernel) (by decide+kernel)
 | .after k d,⟨nk,d0,d1⟩,w,hw=>by
  have m:w=Str.ofString "after"\/w=k\/w=num d.toNat++Str.ofString "d":=by simpa [Tr.lw] using hw
  rcases m with rfl|rfl|rfl
  ·exact Xx (by decide+kernel) (by decide+kernel)
  ·exact ZkJ nk
  ·rw[ZiZ];exact Zii (Nat.lt_trans (Zdt d0 d1) (by decide+kernel)) (.inr (.inr rfl))
 | .later x y,⟨g1,g2⟩,w,hw=>by
  rcases List.mem_cons.mp (show w∈Str.ofString "later"::(x.lw++y.lw) from hw) with rfl|m
  ·exact Xx (by decide+kernel) (by decide+kernel)
  ·exact(List.mem_append.mp m).elim (ZfA g1 w) (ZfA g2 w)
 | .earlier x y,⟨g1,g2⟩,w,hw=>by
  rcases List.mem_cons.mp (show w∈Str.ofString "earlier"::(x.lw++y.lw) from hw) with rfl|m
  ·exact Xx (by decide+kernel) (by decide+kernel)
  ·exact(List.mem_append.mp m).elim (ZfA g1 w) (ZfA g2 w)
theorem Zij(ws:List Str)(a b:Option Int):∃us:List Str,ZaY (ws.map V.str) a b=us.map V.str/\us.length<=ws.length/\∀u∈us,u∈ws:=by
 refine⟨(ws.drop (HT.sIx ws.length 0 a)).take (HT.sIx ws.length ws.length b-HT.sIx ws.length 0 a), ?_, ?_,fun u hu=>List.mem_of_mem_drop (List.mem_of_mem_take hu)⟩
 ·unfold ZaY;rw[List.length_map,List.map_take,List.map_drop]
 ·rw[List.length_take,List.length_drop];omega
def Ze0:List Str:=[Str.ofString "",Str.ofString "later",Str.ofString "never",Str.ofString "after",Str.ofString "3d",Str.ofString "a1",Str.ofString "Never",Str.ofString "03d",Str.ofString "3",Str.ofString "d",Str.ofString "earlier",Str.ofString "thirteensigns",Str.ofString "-3d"]
theorem Zj4:∀w∈Ze0,Wd w:=by
 have:Ze0.all (fun x=>decide (x.length<=60)&&(cs x).all (fun c=>decide (c≠32)&&decide (c<16^8)))=true:=by decide+kernel
 rw[List.all_eq_true] at this
 intro w hw;have:=this w hw;rw[Bool.and_eq_true] at this
 exact Xx (of_decide_eq_true this.1) this.2
theorem Zj5{k:Int}(h0:0<=k)(h1:k<13):∃w,atI (Ze0.map V.str) k=some (.str w)/\Wd w:=by
 obtain⟨v,ev⟩:=Zc7 (xs:=Ze0.map V.str) (i:=k) (by omega) (by rw[List.length_map];exact h1)
 obtain⟨j,_,hj,_⟩:=Zc1 ev;rw[List.getElem?_map] at hj
 obtain⟨w,hw,rfl⟩:=Option.map_eq_some_iff.mp hj;exact⟨w,ev,Zj4 w (List.mem_of_getElem? hw)⟩
abbrev bb(i:Nat):Stmt:=(Jj JP).getD i (.Pass ⟨0,0,0,0⟩)
theorem Zhb:∃p es q r,Jj JP=[bb 0,.Assign [.Name (Str.ofString "_law_odd") p] (.List es q) r,bb 2,bb 3,bb 4,bb 5,bb 6,bb 7,bb 8,bb 9,bb 10,bb 11]/\ZeF es=some Ze0:=⟨_,_,_,_,rfl,rfl⟩
theorem ZjY{k:Int}(h0:0<=k)(h1:k<3):∃d:Nat,atI (Str.ofString "ymd").cps.toList k=some d/\(d=121\/d=109\/d=100):=by
 have e:k=0\/k=1\/k=2:=by omega
 rcases e with rfl|rfl|rfl
 ·exact⟨121,by decide+kernel,.inl rfl⟩
 ·exact⟨109,by decide+kernel,.inr (.inl rfl)⟩
 ·exact⟨100,by decide+kernel,.inr (.inr rfl)⟩
theorem Za7:ZV ["_law_words_here","_law_cell","_law_at","_law_odd","_law_way"] ["_law_words_here","_law_cell"] (Zz JP):=⟨rfl,rfl,rfl,by decide+kernel,rfl,by decide+kernel,by decide+kernel⟩
theorem ZfB{f:Addr}{fd:FuncData}(F:Fun K "_law_bent" "_law_bent" JP f fd)(T:Txt K mg t_YEAR_DAYS t_MONTH_DAYS t_MOST_FIGURES t_MOST_LETTERS t_FIGURES t_LETTERS t_MOST_WORDS Zn Zi Zj Zc Zo ZP Zh Zd Zu ZD Zr Zq Zt Zv ZF ZQ):Yx P w K mg base CX0 1 f fd ["_law_words_here","_law_cell"] Zbd:=by
 refine F.ok Za7 (fun vs H Q E h=> ?_) (fun cdv A outer s H vs Q E hr h=> ?_)
 ·obtain⟨p,ws,c,rfl,_⟩:=h
  rfl
 ·obtain⟨p,ws,c,rfl,hp,hw,ne,hl,c0,q⟩:=h;have l5:=YK;have ml:(ws.map V.str).length=ws.length:=List.length_map ..;have pl:0<ws.length:=List.length_pos_iff.mpr ne;obtain⟨p0,es0,q0,r0,eb,eL⟩:=Zhb;rw[eb];refine⟨_,(Zg (ZR (i:=2) Za7.nd rfl (Or.inl rfl) (Zy Yt (Zy YC (pv 1) Zm) (ZL Ym (by rfl) T.z_len YW (Za (pv 0) Zf)))) (Zg (ZR (i:=3) Za7.nd rfl (Or.inl rfl) (ZiU Ze0 eL) ZiV) (Zg (ZR (i:=4) Za7.nd rfl (Or.inl rfl) (Zy Yt (pv 1) Zm)) (Zg (Yc (ZG Yn (pv 4) Zm (ZJ _)) (Zk (ZC (Zy Yz (Yo Xg (pv 0) Xa (Ys (pv 2))) (Yo Xg (pv 0) (Ys (Zy Xf (pv 2) Zm)) Xa)))) ZM) (Zg (Yc (ZG Yn (pv 4) Zm (ZJ _)) (Zk (ZC (Zy Yz (Zy Yz (Yo Xg (pv 0) Xa (Ys (pv 2))) (Yg (Za (YJ Xb (pv 3) (Zy Yt (Zy YC (pv 1) Zm) Zm) (fun _ _=>rfl)) Zf))) (Yo Xg (pv 0) (Ys (Zy Xf (pv 2) Zm)) Xa)))) ZM) (Zg (Yc (ZG Yn (pv 4) Zm (ZJ _)) (Zk (ZC (Zy Yz (Zy Yz (Yo Xg (pv 0) Xa (Ys (pv 2))) (Yg (Za (YJ Xb (pv 3) (Zy Yt (Zy YC (pv 1) Zm) Zm) (fun _ _=>rfl)) Zf))) (Yo Xg (pv 0) (Ys (pv 2)) Xa)))) ZM) (Zg (Yc (ZG Yn (pv 4) Zm (ZJ _)) (Zk (ZC (Zy Yz (Zy Yz (Yo Xg (pv 0) Xa (Ys (pv 2))) (Yo Xg (pv 0) (Ys (pv 2)) (Ys (Zy Xf (pv 2) Zm)))) (Yo Xg (pv 0) (Ys (pv 2)) Xa)))) ZM) (Zg (Yc (ZG Yn (pv 4) Zm (ZJ _)) (Zk (ZC (Zdj rfl (by rfl) T.z_list (by rfl) T.z_reversed (pv 0)))) ZM) (Zg (Yc (ZG Yn (pv 4) Zm (ZJ _)) (Zk (ZC (Zy Yz (Zy Yz (Yg (Za Zx Zf)) (pv 0)) (pv 0)))) ZM) (Zg (Yc (ZG Yn (pv 4) Zm (ZJ _)) (Zk (ZC (Zy Yz (pv 0) (pv 0)))) ZM) (Zg (Yc (ZG Yn (pv 4) Zm (ZJ _)) (Zk (ZC (Zy Yz (Yo Xg (pv 0) (Ys (pv 2)) Xa) (Yo Xg (pv 0) Xa (Ys (pv 2)))))) ZM) (Zk (ZC (Zy Yz (Zy Yz (Yg (Za Zx Zf)) (pv 0)) (Yg (Za Zx (Za Zx (Za (Zy Jc (Xy XM (by rfl) T.z_str Zde (Za (Zy Yt (Zy Zbr (pv 1) Zm) (Zy Zhk Zm Zm)) Zf)) (YJ Zd8 Zx (Zy Yt (Zy YC (pv 1) Zm) Zm) (fun _ _=>rfl))) Zf)))))))))))))))))), ?_⟩
  refine(vI rfl ⟨by decide,by decide⟩ ⟨_,rfl,_,_,rfl,.inl ⟨_,SqL.of hp,rfl⟩,_,_,rfl,rfl,(by rw[ml];omega), ?_⟩)
  refine⟨show 13<=sizeLine by omega,fun o ho=> ?_⟩;have so:=Ze ho (o:=.lst (Ze0.map V.str));have hoo:upd H o (.lst (Ze0.map V.str)) o=some (.lst (Ze0.map V.str)):=Zb;generalize upd H o (.lst (Ze0.map V.str))=H1 at so hoo
  have hp1:=so _ _ hp;have cut:∀(H2:Hp),ZS H1 H2->∀(x y:Option Int),∃us:List Str,ZaY (ws.map V.str) x y=us.map V.str/\us.length<=ws.length/\(∀u∈us,Wd u)/\SqL K H2 p (ws.map V.str):=fun H2 s2 x y=>by
   obtain⟨us,e,l,m⟩:=Zij ws x y;exact⟨us,e,l,fun u hu=>hw u (m u hu),SqL.of (s2 _ _ hp1)⟩
  have done:∀{us:List Str} {L:Addr} {H2:Hp},ZS H1 H2->H2 L=none->(∀u∈us,Wd u)->us.length<=3*ws.length+4->Q (.ref L) (upd H2 L (.lst (us.map V.str))):=fun{us L H2} s2 hL wu lu=>q L us _ (ZdJ (so.trans s2) hL) ((so.trans s2).trans (Ze hL)) Zb wu lu;have app:∀{us vs:List Str},(∀u∈us,Wd u)->(∀u∈vs,Wd u)->∀u∈us++vs,Wd u:=fun a b u hu=>(List.mem_append.mp hu).elim (a u) (b u);refine(vI rfl (by show(0:Int)<9;decide) ?_)
  refine⟨_,rfl,rfl,_,rfl,Xd (fun _=> ?_) (fun _=> ?_)⟩
  ·obtain⟨us,e1,l1,w1,q1⟩:=cut H1 (ZS.refl _) none (some (c/9%(((ws.map V.str).length:Nat):Int)));refine⟨_,rfl,_,rfl,_,rfl,p,_,rfl,q1,fun L1 h1=> ?_⟩;obtain⟨vs,e2,l2,w2,q2⟩:=cut _ (Ze h1) (some (c/9%(((ws.map V.str).length:Nat):Int)+1)) none;refine⟨_,rfl,_,rfl,_,_,rfl,rfl,_,rfl,p,_,rfl,q2,fun L2 h2=> ?_⟩;refine⟨L1,L2,_,_,rfl,rfl,SqL.of (Ze h2 _ _ Zb),SqL.of Zb,by rw[e1,e2,List.length_map,List.length_map];omega,fun L3 h3=> ?_⟩
   have z:=done (us:=us++vs) ((Ze h1).trans (Ze h2)) h3 (app w1 w2) (by rw[List.length_append];omega)
   rw[List.map_append,<-e1,<-e2] at z
   exact z
  obtain⟨ow,eo,wo⟩:=Zj5 (Int.emod_nonneg (c/99) (show(13:Int)≠0 by decide)) (Int.emod_lt_of_pos (c/99) (by decide));have one:∀u∈[ow],Wd u:=fun u hu=>by rw[List.mem_singleton.mp hu];exact wo
  refine⟨_,rfl,rfl,_,rfl,Xd (fun _=> ?_) (fun _=> ?_)⟩
  ·obtain⟨us,e1,l1,w1,q1⟩:=cut H1 (ZS.refl _) none (some (c/9%(((ws.map V.str).length:Nat):Int)));refine⟨_,rfl,_,rfl,_,rfl,p,_,rfl,q1,fun L1 h1=> ?_⟩;refine⟨_,rfl,vI rfl ⟨by decide,by decide⟩ ⟨_,_,rfl,rfl,(by show(0:Int)<13;decide),o,_,_,_,rfl,rfl,SqL.of (Ze h1 _ _ hoo),eo,show 1<=sizeLine by omega,fun T0 hT=> ?_⟩⟩
   refine⟨L1,T0,_,_,rfl,rfl,SqL.of (Ze hT _ _ Zb),SqL.of Zb,by rw[e1,List.length_map];show _+1<=_;omega,fun L2 h2=> ?_⟩
   obtain⟨vs,e2,l2,w2,q2⟩:=cut _ ((Ze h1).trans ((Ze hT).trans (Ze h2))) (some (c/9%(((ws.map V.str).length:Nat):Int)+1)) none;refine⟨_,rfl,_,rfl,_,_,rfl,rfl,_,rfl,p,_,rfl,q2,fun L3 h3=> ?_⟩;refine⟨L2,L3,_,_,rfl,rfl,SqL.of (Ze h3 _ _ Zb),SqL.of Zb,by rw[e1,e2,List.length_append,List.length_map,List.length_map];show _+1+_<=_;omega,fun L4 h4=> ?_⟩
   have z:=done (us:=us++[ow]++vs) ((Ze h1).trans ((Ze hT).trans ((Ze h2).trans (Ze h3)))) h4 (app (app w1 one) w2) (by rw[List.length_append,List.length_append];show _+1+_<=_;omega)
   rw[List.map_append,List.map_append,<-e1,<-e2] at z
   exact z
  refine⟨_,rfl,rfl,_,rfl,Xd (fun _=> ?_) (fun _=> ?_)⟩
  ·obtain⟨us,e1,l1,w1,q1⟩:=cut H1 (ZS.refl _) none (some (c/9%(((ws.map V.str).length:Nat):Int)));refine⟨_,rfl,_,rfl,_,rfl,p,_,rfl,q1,fun L1 h1=> ?_⟩;refine⟨_,rfl,vI rfl ⟨by decide,by decide⟩ ⟨_,_,rfl,rfl,(by show(0:Int)<13;decide),o,_,_,_,rfl,rfl,SqL.of (Ze h1 _ _ hoo),eo,show 1<=sizeLine by omega,fun T0 hT=> ?_⟩⟩
   refine⟨L1,T0,_,_,rfl,rfl,SqL.of (Ze hT _ _ Zb),SqL.of Zb,by rw[e1,List.length_map];show _+1<=_;omega,fun L2 h2=> ?_⟩
   obtain⟨vs,e2,l2,w2,q2⟩:=cut _ ((Ze h1).trans ((Ze hT).trans (Ze h2))) (some (c/9%(((ws.map V.str).length:Nat):Int))) none;refine⟨_,rfl,_,rfl,_,rfl,p,_,rfl,q2,fun L3 h3=> ?_⟩;refine⟨L2,L3,_,_,rfl,rfl,SqL.of (Ze h3 _ _ Zb),SqL.of Zb,by rw[e1,e2,List.length_append,List.length_map,List.length_map];show _+1+_<=_;omega,fun L4 h4=> ?_⟩
   have z:=done (us:=us++[ow]++vs) ((Ze h1).trans ((Ze hT).trans ((Ze h2).trans (Ze h3)))) h4 (app (app w1 one) w2) (by rw[List.length_append,List.length_append];show _+1+_<=_;omega)
   rw[List.map_append,List.map_append,<-e1,<-e2] at z
   exact z
  refine⟨_,rfl,rfl,_,rfl,Xd (fun _=> ?_) (fun _=> ?_)⟩
  ·obtain⟨us,e1,l1,w1,q1⟩:=cut H1 (ZS.refl _) none (some (c/9%(((ws.map V.str).length:Nat):Int)));refine⟨_,rfl,_,rfl,_,rfl,p,_,rfl,q1,fun L1 h1=> ?_⟩;obtain⟨vs,e2,l2,w2,q2⟩:=cut _ (Ze h1) (some (c/9%(((ws.map V.str).length:Nat):Int))) (some (c/9%(((ws.map V.str).length:Nat):Int)+1));refine⟨_,rfl,_,rfl,_,rfl,_,rfl,_,_,rfl,rfl,_,rfl,p,_,rfl,q2,fun L2 h2=> ?_⟩;refine⟨L1,L2,_,_,rfl,rfl,SqL.of (Ze h2 _ _ Zb),SqL.of Zb,by rw[e1,e2,List.length_map,List.length_map];omega,fun L3 h3=> ?_⟩
   obtain⟨xs,e3,l3,w3,q3⟩:=cut _ ((Ze h1).trans ((Ze h2).trans (Ze h3))) (some (c/9%(((ws.map V.str).length:Nat):Int))) none;refine⟨_,rfl,_,rfl,_,rfl,p,_,rfl,q3,fun L4 h4=> ?_⟩;refine⟨L3,L4,_,_,rfl,rfl,SqL.of (Ze h4 _ _ Zb),SqL.of Zb,by rw[e1,e2,e3,List.length_append,List.length_map,List.length_map,List.length_map];omega,fun L5 h5=> ?_⟩
   have z:=done (us:=us++vs++xs) ((Ze h1).trans ((Ze h2).trans ((Ze h3).trans (Ze h4)))) h5 (app (app w1 w2) w3) (by rw[List.length_append,List.length_append];omega)
   rw[List.map_append,List.map_append,<-e1,<-e2,<-e3] at z
   exact z
  refine⟨_,rfl,rfl,_,rfl,Xd (fun _=> ?_) (fun _=> ?_)⟩
  ·refine⟨_,rfl,p,_,rfl,SqL.of hp1,fun L1 h1=> ?_⟩;have z:=done (us:=ws.reverse) (ZS.refl _) h1 (fun u hu=>hw u (List.mem_reverse.mp hu)) (by rw[List.length_reverse];omega)
   rw[List.map_reverse] at z
   exact z
  refine⟨_,rfl,rfl,_,rfl,Xd (fun _=> ?_) (fun _=> ?_)⟩
  ·have we:∀u∈[Str.ofString "earlier"],Wd u:=fun u hu=>by rw[List.mem_singleton.mp hu];exact Xx (by decide+kernel) (by decide+kernel)
   refine⟨show 1<=sizeLine by omega,fun T0 hT=>⟨_,rfl,T0,p,_,_,rfl,rfl,SqL.of Zb,SqL.of (Ze hT _ _ hp1),by rw[List.length_map];show 1+_<=_;omega,fun L1 h1=> ?_⟩⟩
   refine⟨_,rfl,L1,p,_,_,rfl,rfl,SqL.of Zb,SqL.of (Ze h1 _ _ (Ze hT _ _ hp1)),by rw[List.length_append,List.length_map];show 1+_+_<=_;omega,fun L2 h2=> ?_⟩
   have z:=done (us:=[Str.ofString "earlier"]++ws++ws) ((Ze hT).trans (Ze h1)) h2 (app (app we hw) hw) (by rw[List.length_append,List.length_append];show 1+_+_<=_;omega)
   rw[List.map_append,List.map_append] at z
   exact z
  refine⟨_,rfl,rfl,_,rfl,Xd (fun _=> ?_) (fun _=> ?_)⟩
  ·refine⟨_,rfl,_,rfl,p,p,_,_,rfl,rfl,SqL.of hp1,SqL.of hp1,by rw[List.length_map];omega,fun L1 h1=> ?_⟩
   have z:=done (us:=ws++ws) (ZS.refl _) h1 (app hw hw) (by rw[List.length_append];omega)
   rw[List.map_append] at z
   exact z
  refine⟨_,rfl,rfl,_,rfl,Xd (fun _=> ?_) (fun _=> ?_)⟩
  ·obtain⟨us,e1,l1,w1,q1⟩:=cut H1 (ZS.refl _) (some (c/9%(((ws.map V.str).length:Nat):Int))) none;refine⟨_,rfl,_,rfl,_,rfl,p,_,rfl,q1,fun L1 h1=> ?_⟩;obtain⟨vs,e2,l2,w2,q2⟩:=cut _ (Ze h1) none (some (c/9%(((ws.map V.str).length:Nat):Int)));refine⟨_,rfl,_,rfl,_,rfl,p,_,rfl,q2,fun L2 h2=> ?_⟩;refine⟨L1,L2,_,_,rfl,rfl,SqL.of (Ze h2 _ _ Zb),SqL.of Zb,by rw[e1,e2,List.length_map,List.length_map];omega,fun L3 h3=> ?_⟩
   have z:=done (us:=us++vs) ((Ze h1).trans (Ze h2)) h3 (app w1 w2) (by rw[List.length_append];omega)
   rw[List.map_append,<-e1,<-e2] at z
   exact z
  have we:∀u∈[Str.ofString "later"],Wd u:=fun u hu=>by rw[List.mem_singleton.mp hu];exact Xx (by decide+kernel) (by decide+kernel)
  refine⟨show 1<=sizeLine by omega,fun T0 hT=>⟨_,rfl,T0,p,_,_,rfl,rfl,SqL.of Zb,SqL.of (Ze hT _ _ hp1),by rw[List.length_map];show 1+_<=_;omega,fun L1 h1=> ?_⟩⟩
  obtain⟨m,hm,em⟩:=ZjQ (v:=c*982451653%10^(41:Int).toNat) (ZeL (41:Int).toNat) (Int.emod_nonneg _ (Int.ne_of_gt (pow_pos _))) (Int.emod_lt_of_pos _ (pow_pos _));have hm:m<10^41:=hm;have ml:=Zbt (k:=41) (by decide) hm;obtain⟨d,ed,hd⟩:=ZjY (Int.emod_nonneg (c/9) (show(3:Int)≠0 by decide)) (Int.emod_lt_of_pos (c/9) (by decide));have wl:∀u∈[Str.ofString "after",Str.ofString "a",num m++⟨#[d]⟩],Wd u:=fun u hu=>by
   have z:u=Str.ofString "after"\/u=Str.ofString "a"\/u=num m++⟨#[d]⟩:=by simpa using hu
   rcases z with rfl|rfl|rfl
   ·exact Xx (by decide+kernel) (by decide+kernel)
   ·exact Xx (by decide+kernel) (by decide+kernel)
   ·exact Zii hm hd
  refine⟨_,rfl,_,_,rfl,rfl,IntMulOk.of_right (intBits_le_64 (by decide) (by decide)),_,_,rfl,rfl,Zi1 (by decide) (by decide),_,_,rfl,rfl,pow_pos _, ?_⟩;refine⟨(m:Int),congrArg (fun z=>[V.int z]) em,Zdk (Nat.lt_trans hm (by decide+kernel)), ?_⟩;refine vI rfl ⟨by decide,by decide⟩ ⟨_,_,rfl,rfl,(by show(0:Int)<3;decide),_,_,d,rfl,rfl,show 3<=sizeLine by omega,ed,_,_,rfl,rfl, ?_,show 3<=sizeLine by omega,fun T1 hT1=> ?_⟩
  ·show(num m).length+1<=sizeLine;omega
  refine⟨L1,T1,_,_,rfl,rfl,SqL.of (Ze hT1 _ _ Zb),SqL.of Zb,by rw[List.length_append,List.length_map];show 1+_+3<=_;omega,fun L2 h2=> ?_⟩
  have z:=done (us:=[Str.ofString "later"]++ws++[Str.ofString "after",Str.ofString "a",num m++⟨#[d]⟩]) ((Ze hT).trans ((Ze h1).trans (Ze hT1))) h2 (app (app we hw) wl) (by rw[List.length_append,List.length_append];show 1+_+3<=_;omega)
  rw[List.map_append,List.map_append] at z
  exact z
theorem JG:ZV ["_law_kept","_law_some"] ["_law_kept"] (Zz Zb9):=⟨rfl,rfl,rfl,by decide+kernel,rfl,by decide+kernel,by decide+kernel⟩
theorem Zf2{f:Addr}{fd:FuncData}(F:Fun K "_law_alone" "_law_alone" Zb9 f fd)(T:Txt K mg t_YEAR_DAYS t_MONTH_DAYS t_MOST_FIGURES t_MOST_LETTERS t_FIGURES t_LETTERS t_MOST_WORDS Zn Zi Zj Zc Zo ZP Zh Zd Zu ZD Zr Zq Zt Zv ZF ZQ):Yx P w K mg base CX0 1 f fd ["_law_kept"] (ZaN Zd):=by
 refine F.ok JG (fun vs H Q E h=> ?_) (fun cdv A outer s H vs Q E hr h=> ?_)
 ·obtain⟨e,rfl,_⟩:=h
  rfl
 ·obtain⟨e,rfl,he,q⟩:=h;have l5:=YK;refine⟨_,(Zg (ZR (i:=1) JG.nd rfl (Or.inl rfl) (Yg (Za (ZL ZX (by rfl) T.z_isinstance ZW (Za (pv 0) (Za (Ye (v:=.ref ZP) rfl T.mg_NoDay rfl) Zf))) (Za (ZL ZX (by rfl) T.z_isinstance ZW (Za (pv 0) (Za (Ye (v:=.ref Zh) rfl T.mg_NoLength rfl) Zf))) (Za (ZL ZX (by rfl) T.z_isinstance ZW (Za (pv 0) (Za (Ye (v:=.ref Zd) rfl T.mg_NoTerm rfl) Zf))) (Za (ZL ZX (by rfl) T.z_isinstance ZW (Za (pv 0) (Za (Ye (v:=.ref Zu) rfl T.mg_TooWide rfl) Zf))) Zf)))))) (Zg (ZR (i:=1) JG.nd rfl (Or.inl rfl) (Zy Yz (pv 1) (Yg (Za (ZL ZX (by rfl) T.z_isinstance ZW (Za (pv 0) (Za (Ye (v:=.ref ZD) rfl T.mg_NoBook rfl) Zf))) (Za (ZL ZX (by rfl) T.z_isinstance ZW (Za (pv 0) (Za (Ye (v:=.ref Zr) rfl T.mg_PutTwice rfl) Zf))) (Za (ZL ZX (by rfl) T.z_isinstance ZW (Za (pv 0) (Za (Ye (v:=.ref Zq) rfl T.mg_HeldTwice rfl) Zf))) Zf)))))) (Zg (ZR (i:=1) JG.nd rfl (Or.inl rfl) (Zy Yz (pv 1) (Yg (Za (ZL ZX (by rfl) T.z_isinstance ZW (Za (pv 0) (Za (Ye (v:=.ref Zt) rfl T.mg_NoSeries rfl) Zf))) (Za (ZL ZX (by rfl) T.z_isinstance ZW (Za (pv 0) (Za (Ye (v:=.ref Zv) rfl T.mg_RunBack rfl) Zf))) (Za (ZL ZX (by rfl) T.z_isinstance ZW (Za (pv 0) (Za (Ye (v:=.ref ZF) rfl T.mg_Unlike rfl) Zf))) Zf)))))) (Zk (ZC (ZaZ (XJ Yn (Zat PySem.F.plainAttrs_list PySem.F.slot_list_count PySem.F.type_list_count ZhZ (pv 1) (Za Zar Zf)) Zm (ZJ _)) (ZaZ (ZL ZX (by rfl) T.z_isinstance ZW (Za (pv 0) (Za (Ye (v:=.ref Zo) rfl T.mg_HallError rfl) Zf))) (Zd3 (Zjn (ZL ZX (by rfl) T.z_isinstance ZW (Za (pv 0) (Za (Ye (v:=.ref ZQ) rfl T.mg_NoRow rfl) Zf)))))))))))), ?_⟩
  refine⟨_,rfl,e,_,_,_,false,rfl,he,T.xc_NoTerm,rfl,T.i_t_NoDay,_,rfl,e,_,_,_,false,rfl,he,T.xc_NoTerm,rfl,T.i_t_NoLength,_,rfl,e,_,_,_,true,rfl,he,T.xc_NoTerm,rfl,T.i_t_NoTerm,_,rfl,e,_,_,_,false,rfl,he,T.xc_NoTerm,rfl,T.i_t_TooWide,show 4<=sizeLine from sl,fun p1 h1=> ?_⟩;have s1:=Ze h1 (o:=.lst [.bl false,.bl false,.bl true,.bl false]);have e1:upd H p1 (.lst [.bl false,.bl false,.bl true,.bl false]) p1=some (.lst [.bl false,.bl false,.bl true,.bl false]):=Zb
  generalize upd H p1 (.lst [.bl false,.bl false,.bl true,.bl false])=H1 at s1 e1⊢
  have he0:=s1 _ _ he;refine⟨_,rfl,_,rfl,e,_,_,_,false,rfl,he0,T.xc_NoTerm,rfl,T.i_t_NoBook,_,rfl,e,_,_,_,false,rfl,he0,T.xc_NoTerm,rfl,T.i_t_PutTwice,_,rfl,e,_,_,_,false,rfl,he0,T.xc_NoTerm,rfl,T.i_t_HeldTwice,show 3<=sizeLine from sl,fun t0 ht0=>⟨p1,t0,_,_,rfl,rfl,SqL.of (Ze ht0 _ _ e1),SqL.of Zb,(by show 7<=sizeLine;omega),fun p2 h2=> ?_⟩⟩
  have s2:=s1.trans ((Ze ht0 (o:=.lst [.bl false,.bl false,.bl false])).trans (Ze h2 (o:=.lst ([.bl false,.bl false,.bl true,.bl false]++[.bl false,.bl false,.bl false]))));have e2:upd (upd H1 t0 (.lst [.bl false,.bl false,.bl false])) p2 (.lst ([.bl false,.bl false,.bl true,.bl false]++[.bl false,.bl false,.bl false])) p2=some (.lst [.bl false,.bl false,.bl true,.bl false,.bl false,.bl false,.bl false]):=Zb
  generalize upd (upd H1 t0 (.lst [.bl false,.bl false,.bl false])) p2 (.lst ([.bl false,.bl false,.bl true,.bl false]++[.bl false,.bl false,.bl false]))=H2 at s2 e2⊢
  have he1:=s2 _ _ he;refine⟨_,rfl,_,rfl,e,_,_,_,false,rfl,he1,T.xc_NoTerm,rfl,T.i_t_NoSeries,_,rfl,e,_,_,_,false,rfl,he1,T.xc_NoTerm,rfl,T.i_t_RunBack,_,rfl,e,_,_,_,false,rfl,he1,T.xc_NoTerm,rfl,T.i_t_Unlike,show 3<=sizeLine from sl,fun t1 ht1=>⟨p2,t1,_,_,rfl,rfl,SqL.of (Ze ht1 _ _ e2),SqL.of Zb,(by show 10<=sizeLine;omega),fun p3 h3=> ?_⟩⟩
  have s3:=s2.trans ((Ze ht1 (o:=.lst [.bl false,.bl false,.bl false])).trans (Ze h3 (o:=.lst ([.bl false,.bl false,.bl true,.bl false,.bl false,.bl false,.bl false]++[.bl false,.bl false,.bl false]))));have e3:upd (upd H2 t1 (.lst [.bl false,.bl false,.bl false])) p3 (.lst ([.bl false,.bl false,.bl true,.bl false,.bl false,.bl false,.bl false]++[.bl false,.bl false,.bl false])) p3=some (.lst [.bl false,.bl false,.bl true,.bl false,.bl false,.bl false,.bl false,.bl false,.bl false,.bl false]):=Zb
  generalize upd (upd H2 t1 (.lst [.bl false,.bl false,.bl false])) p3 (.lst ([.bl false,.bl false,.bl true,.bl false,.bl false,.bl false,.bl false]++[.bl false,.bl false,.bl false]))=H3 at s3 e3⊢
  have he2:=s3 _ _ he;refine⟨_,rfl,.inl ⟨rfl,_,SqL.of e3⟩,p3,[false,false,true,false,false,false,false,false,false,false],rfl,rfl,e3,rfl, ?_⟩;exact⟨true,congrArg V.bl (decide_eq_true rfl),Xm ⟨_,rfl,e,_,_,_,true,rfl,he2,T.xc_NoTerm,rfl,T.i_t_HallError,true,rfl,Xm ⟨_,rfl,e,_,_,_,false,rfl,he2,T.xc_NoTerm,rfl,T.i_t_NoRow,_,rfl,q _ s3⟩⟩⟩
theorem Zik:∀(cs:List Nat),NumText.AllDigits cs->∀acc k,acc<10^k->cs.foldl (fun acc c=>acc*10+(c-48)) acc<10^(k+cs.length)
 |[],_,acc,k,h=>h
 |c::cs,hd,acc,k,h=>by
  have c9:=hd c (List.mem_cons_self ..);have:=Zik cs (fun x hx=>hd x (List.mem_cons_of_mem _ hx)) (acc*10+(c-48)) (k+1) (by rw[Nat.pow_succ];generalize 10^k=B at h⊢;omega)
  rw[List.length_cons,show k+(cs.length+1)=k+1+cs.length by omega];exact this
theorem Zil{x:Str}(h:Xj x=true):dv x<10^40:=by
 obtain⟨a1,a2,a3⟩:=Zdl h;have z:=Zik (cs x) (ZcF a1) 0 0 (by decide);have l:(cs x).length<=40:=by rw[<-JL];exact a3
 exact Nat.lt_of_lt_of_le z (Nat.pow_le_pow_right (by decide) (by omega))
theorem Zgi{x:Str}{u:Int}(h:Ja x=.int u):u=360\/u=30\/u=1:=by
 unfold Ja at h
 split at h
 ·injection h with h;exact .inl h.symm
 ·split at h
  ·injection h with h;exact .inr (.inl h.symm)
  ·split at h
   ·injection h with h;exact .inr (.inr h.symm)
   ·cases h
theorem Zgj{l:Str}{d:Int}(h:Jo l=.int d):∃N u:Nat,d=((N*u:Nat):Int)/\N<10^40/\(u=360\/u=30\/u=1):=by
 unfold Jo at h
 split at h
 ·rename_i u e
  split at h
  ·rename_i f
   injection h with h
   rcases Zgi e with rfl|rfl|rfl
   ·exact⟨_,360,by rw[<-h];omega,Zil f,.inl rfl⟩
   ·exact⟨_,30,by rw[<-h];omega,Zil f,.inr (.inl rfl)⟩
   ·exact⟨_,1,by rw[<-h];omega,Zil f,.inr (.inr rfl)⟩
  ·cases h
 ·cases h
theorem Zcz{n c u:Nat}(hn:n<10^40)(hu:Ja ⟨#[c]⟩=.int (u:Int)):Yy (num n++⟨#[c]⟩)=true:=by
 unfold Yy Jo ZbA Xh;rw[ZfZ,ZfY,hu]
 dsimp only
 rw[if_pos (Zh8 hn)]
theorem ZfC{N u:Nat}(hN:N<10^40)(hu:u=360\/u=30\/u=1):Yy (Zbb (N*u))=true:=by
 unfold Zbb;generalize hB:(10^40:Nat)=B at hN
 split
 ·rw[ZkB];exact Zcz (by rw[hB];rcases hu with rfl|rfl|rfl<;>omega) Zi3
 ·split
  ·rw[ZjT];exact Zcz (by rw[hB];rcases hu with rfl|rfl|rfl<;>omega) Zg9
  ·rw[ZiZ];exact Zcz (by rw[hB];rcases hu with rfl|rfl|rfl<;>omega) Zga
theorem ZjZ:∀c∈cs YH,97<=c/\c<=122:=by decide+kernel
theorem Zj6{k:Str}(h:Yp k=true):Nm k:=by
 unfold Yp at h
 rw[Bool.and_eq_true,Bool.and_eq_true] at h
 refine⟨of_decide_eq_true h.1.1,of_decide_eq_true h.1.2,fun c hc=> ?_⟩;have:=List.all_eq_true.mp h.2 c hc;exact ZjZ c ((Zgz _ _).mp this)
theorem tw_filter:∀{n:Nat} {ws:List Str} {t:Tr} {r:List Str},pt n ws=some (t,r)->∃u,ws=u++r/\u.filter (fun w=> !Yy w)=(t.wC (-1)).filter (fun w=> !Yy w)/\t.ok7/\t.cnt<=u.length/\t.deep<u.length:=by
 intro n
 induction n with
 |zero=>intro ws t r h;cases h
 |succ n ih=>
  intro ws t r h;cases ws with
  |nil=>cases h
  |cons w q=>
   by_cases h1:w=Str.ofString "never"
   ·subst h1;rw[ZdG] at h
    injection h with h
    injection h with ht hr
    subst ht;subst hr;exact⟨[Str.ofString "never"],rfl,rfl,trivial,Nat.le_refl 1,Nat.zero_lt_one⟩
   ·by_cases h2:w=Str.ofString "after"
    ·subst h2
     match q with
     |[]=>rw[Za0 n (q:=[]) (fun a b z=>by cases z)] at h;cases h
     |[k]=>rw[Zaz n (q:=[]) (fun a b z=>by cases z)] at h;cases h
     |k::l::q=>
      cases nk:Yp k with
      |false=>rw[Za0 n (fun a b z=>by injection z with z _;rw[<-z];exact nk)] at h;cases h
      |true=>
       by_cases z:Jo l=.non
       ·rw[Zaz n (fun a b y=>by injection y with y _;rw[<-y];exact z)] at h;cases h
       ·obtain⟨d,ed⟩:=Zds z;rw[ZdH n q nk ed] at h
        injection h with h
        injection h with ht hr
        subst ht;subst hr;obtain⟨N,u,e1,e2,e3⟩:=Zgj ed;have il:Yy l=true:=by unfold Yy;rw[ed]
        refine⟨[Str.ofString "after",k,l],rfl, ?_,⟨Zj6 nk,by rw[e1];omega, ?_⟩,(by show 1<=3;decide),(by show 0<3;decide)⟩
        ·show _=([Str.ofString "after",k,Zc9 d.toNat (-1)]:List Str).filter _;have is:Yy (Zc9 d.toNat (-1))=true:=by
          rw[ZbO,e1,Int.toNat_natCast];exact ZfC e2 e3
         simp[List.filter_cons,il,is]
        ·rw[e1,ZkC];have:N*u<10^43:=by
          have:N*u<=N*360:=Nat.mul_le_mul_left _ (by rcases e3 with rfl|rfl|rfl<;>decide)
          have b:(10^43:Nat)=1000*10^40:=by decide+kernel
          rw[b];generalize (10^40:Nat)=B at e2⊢
          omega
         generalize (10^43:Nat)=B at this⊢
         exact Int.ofNat_lt.mpr this
    ·have two:∀(f:Tr->Tr->Tr) (nm:Str),w=nm->(∀x y,(f x y).wC (-1)=nm::(x.wC (-1)++y.wC (-1)))->(∀x y,x.ok7->y.ok7->(f x y).ok7)->(∀x y,(f x y).cnt=x.cnt+y.cnt)->(∀x y,(f x y).deep=max x.deep y.deep+1)->((pt n q).bind fun x=>(pt n x.2).bind fun y=>some (f x.1 y.1,y.2))=some (t,r)->∃u,w::q=u++r/\u.filter (fun w=> !Yy w)=(t.wC (-1)).filter (fun w=> !Yy w)/\t.ok7/\t.cnt<=u.length/\t.deep<u.length:=fun f nm ew f1 f2 f3 f4 h=>by
      obtain⟨⟨x,r1⟩,e1,h⟩:=Option.bind_eq_some_iff.mp h;obtain⟨⟨y,r2⟩,e2,h⟩:=Option.bind_eq_some_iff.mp h
      injection h with h
      injection h with ht hr
      subst hr;subst ht;subst ew;obtain⟨u1,a1,b1,c1,d1,g1⟩:=ih e1;obtain⟨u2,a2,b2,c2,d2,g2⟩:=ih e2;have a2:r1=u2++r2:=a2;refine⟨w::(u1++u2), ?_, ?_,f2 _ _ c1 c2, ?_, ?_⟩
      ·rw[a1,a2,List.cons_append,List.append_assoc]
      ·show List.filter _ (w::(u1++u2))=List.filter _ ((f x y).wC (-1));rw[f1,List.filter_cons,List.filter_cons,List.filter_append,List.filter_append,b1,b2]
      ·show(f x y).cnt<=_;rw[f3,List.length_cons,List.length_append];omega
      ·show(f x y).deep<_;rw[f4,List.length_cons,List.length_append];omega
     by_cases h3:w=Str.ofString "later"
     ·have h':=h;rw[h3,ZdI] at h'
      exact two .later _ h3 (fun _ _=>rfl) (fun _ _ a b=>⟨a,b⟩) (fun _ _=>rfl) (fun _ _=>rfl) h'
     ·by_cases h4:w=Str.ofString "earlier"
      ·have h':=h;rw[h4,ZbP] at h'
       exact two .earlier _ h4 (fun _ _=>rfl) (fun _ _ a b=>⟨a,b⟩) (fun _ _=>rfl) (fun _ _=>rfl) h'
      ·have pn:pt (n+1) (w::q)=none:=by
        show(if _ then _ else _)=_;rw[if_neg h1,if_neg h2,if_neg h3,if_neg h4]
       rw[pn] at h
       cases h
theorem Zim{ws:List Str}(h:∀w∈ws,Wd w):(ws.map Str.length).sum<=60*ws.length:=by
 induction ws with
 |nil=>exact Nat.le_refl _
 |cons w ws ih=>
  have a:=(h w (List.mem_cons_self ..)).1;have b:=ih fun x hx=>h x (List.mem_cons_of_mem _ hx);rw[List.map_cons,List.sum_cons,List.length_cons];omega
theorem Zjh(c:Nat):∀ps:List (List Nat),(J c ps).length<=(ps.map List.length).sum+ps.length
 |[]=>Nat.zero_le _
 |[p]=>by show p.length<=p.length+0+1;omega
 |p::q::r=>by
  have:=Zjh c (q::r);show(p++c::J c (q::r)).length<=p.length+((q::r).map List.length).sum+((q::r).length+1);rw[List.length_append,List.length_cons];omega
theorem ZgK(ws:List Str):cs (Txt.join (Str.ofString " ") ws)=J 32 (ws.map cs):=by
 have e:Txt.join (Str.ofString " ") ws=Str.join (Str.ofString " ") ws:=StrLaws.glued_eq_join _ _;rw[e,Zeh,ZcV]
theorem Zin{ws:List Str}(h:∀w∈ws,Wd w):(Txt.join (Str.ofString " ") ws).length<=61*ws.length:=by
 have a:=Zjh 32 (ws.map cs);have b:=Zim h;rw[JL,ZgK];have e:(ws.map cs).map List.length=ws.map Str.length:=by
  rw[List.map_map];exact List.map_congr_left fun w _=>(JL w).symm
 rw[e,List.length_map] at a
 omega
theorem ZfD{ws:List Str}(h:∀w∈ws,Wd w)(ne:ws≠[]):Txt.split (Txt.join (Str.ofString " ") ws) ⟨#[32]⟩=ws:=Zdg _ 32 ws ne (fun w hw=>(h w hw).2.1) (ZgK ws)
theorem Zhc:Txt.split (Txt.join (Str.ofString " ") []) ⟨#[32]⟩=[Str.empty]:=by
 refine Zg7 (x:=Str.empty) ?_;intro m;cases m
theorem ZcH{α β:Type}(f:α->List β):∀l:List α,(List.range l.length).flatMap (fun j=>((l[j]?).map f).getD [])=l.flatMap f
 |[]=>rfl
 |a::l=>by
  rw[List.length_cons,List.range_succ_eq_map,List.flatMap_cons,List.flatMap_map,List.flatMap_cons]
  congr 1
  exact ZcH f l
theorem ZcI(P:Str->Bool):∀ws:List Str,(List.range ws.length).flatMap (fun j=>((ws[j]?).map fun w=>if P w=true then[V.str w] else[]).getD [])=(ws.filter P).map V.str:=by
 intro ws;have go:∀(us:List Str),us.flatMap (fun w=>if P w=true then[V.str w] else[])=(us.filter P).map V.str:=by
  intro us
  induction us with
  |nil=>rfl
  |cons u us ih=>
   rw[List.flatMap_cons,ih,List.filter_cons];cases P u<;>rfl
 rw[<-go,<-ZcH (fun w=>if P w=true then[V.str w] else[]) ws]
theorem ZgL(P:Str->Bool)(o:Option Str):((o.map fun w=>if P w=true then[V.str w] else[]).getD []).length<=1:=by
 cases o with
 |none=>exact Nat.zero_le _
 |some w=>
  show(if P w=true then[V.str w] else[]).length<=1
  split
  ·exact Nat.le_refl 1
  ·exact Nat.zero_le _
theorem Zgk{ws:List Str}{t:Tr}(h:JT ws=some t):ws.length<=61/\pt 64 ws=some (t,[]):=by
 unfold JT at h
 split at h
 ·cases h
 ·split at h
  ·rename_i e
   cases h;exact⟨by omega,e⟩
  ·cases h
theorem Zgl{t:Tr}:JT [Str.empty]≠some t:=fun z=>by
 have:(JT [Str.empty]).isSome=false:=by
  rw[ZgJ,Zgg 0 [] (by decide+kernel) (by decide+kernel) (by decide+kernel),Bool.and_false]
 rw[z] at this
 cases this
theorem Zio{ws:List Str}{j:Nat}{y:V}(h:(ws.map V.str)[j]? =some y):∃w,ws[j]? =some w/\y=.str w:=by
 rw[List.getElem?_map] at h
 obtain⟨w,e,rfl⟩:=Option.map_eq_some_iff.mp h;exact⟨w,e,rfl⟩
theorem Zhd:∀us:List Str,Xe 1 (.lst (us.map fun w=>Dt.v (.str w))) (.lst (us.map fun w=>Dt.v (.str w)))=true/\JB 1 (.lst (us.map fun w=>Dt.v (.str w))) (.lst (us.map fun w=>Dt.v (.str w)))=true:=by
 intro us;have z:∀d∈us.map (fun w=>Dt.v (.str w)),Xe 0 d d=true/\JB 0 d d=true:=fun d hd=>by
  obtain⟨w,_,rfl⟩:=List.mem_map.mp hd;exact⟨Zb3 rfl,rfl⟩
 have zz:∀(l:List Dt),(∀d∈l,Xe 0 d d=true/\JB 0 d d=true)->(l.zip l).all (fun p=>Xe 0 p.1 p.2)=true/\(l.zip l).all (fun p=>JB 0 p.1 p.2)=true:=by
  intro l
  induction l with
  |nil=>exact fun _=>⟨rfl,rfl⟩
  |cons d l ih=>
   intro h;obtain⟨a,b⟩:=ih fun x hx=>h x (List.mem_cons_of_mem _ hx);obtain⟨c,e⟩:=h d (List.mem_cons_self ..);rw[List.zip_cons_cons,List.all_cons,List.all_cons];exact⟨by rw[c,a];rfl,by rw[e,b];rfl⟩
 obtain⟨a,b⟩:=zz _ z;refine⟨?_,b⟩;show((us.map fun w=>Dt.v (.str w)).length==(us.map fun w=>Dt.v (.str w)).length&&((us.map fun w=>Dt.v (.str w)).zip (us.map fun w=>Dt.v (.str w))).all (fun p=>Xe 0 p.1 p.2))=true;rw[a,beq_self_eq_true]
 rfl
theorem Zce:∀{t:Tr},t.ok7->∀w∈t.wC (-1),32∉cs w/\w.length<=60
 | .never,_,w,m=>by
  rw[show w=Str.ofString "never" by simpa [Tr.wC] using m];exact⟨by decide+kernel,by decide+kernel⟩
 | .after k d,⟨nk,d0,d1⟩,w,m=>by
  have m:w=Str.ofString "after"\/w=k\/w=Zc9 d.toNat (-1):=by simpa [Tr.wC] using m
  rcases m with rfl|rfl|rfl
  ·exact⟨by decide+kernel,by decide+kernel⟩
  ·exact⟨fun z=>by have:=nk.2.2 32 z;omega,by have:=nk.2.1;omega⟩
  ·have l:=Zcq (Zbx d0 d1) (-1);refine⟨fun z=> ?_,by omega⟩;obtain⟨n,c,u,e1,_,e3,_⟩:=Zdq d.toNat (-1);rw[e1,Yu,Za8] at z
   rcases List.mem_append.mp z with z|z
   ·have:=ZaB n 32 z;omega
   ·have e:32=c:=by simpa using z
    rw[<-e,show Ja ⟨#[32]⟩=.non by decide+kernel] at e3
    cases e3
 | .later x y,⟨g1,g2⟩,w,m=>by
  rcases List.mem_cons.mp (show w∈Str.ofString "later"::(x.wC (-1)++y.wC (-1)) from m) with rfl|m
  ·exact⟨by decide+kernel,by decide+kernel⟩
  ·exact(List.mem_append.mp m).elim (Zce g1 w) (Zce g2 w)
 | .earlier x y,⟨g1,g2⟩,w,m=>by
  rcases List.mem_cons.mp (show w∈Str.ofString "earlier"::(x.wC (-1)++y.wC (-1)) from m) with rfl|m
  ·exact⟨by decide+kernel,by decide+kernel⟩
  ·exact(List.mem_append.mp m).elim (Zce g1 w) (Zce g2 w)
theorem ZdK:∀{t:Tr},(t.wC (-1)).length+1<=4*t.cnt
 | .never=>by show 2<=4*1;decide
 | .after k d=>by show 4<=4*1;decide
 | .later x y=>by
  have a:=ZdK (t:=x);have b:=ZdK (t:=y);show(x.wC (-1)++y.wC (-1)).length+1+1<=4*(x.cnt+y.cnt);rw[List.length_append];omega
 | .earlier x y=>by
  have a:=ZdK (t:=x);have b:=ZdK (t:=y);show(x.wC (-1)++y.wC (-1)).length+1+1<=4*(x.cnt+y.cnt);rw[List.length_append];omega
theorem YQ:ZV ["_law_words_here","_law_text","_law_kept","_law_term","refusal","_law_due"] ["_law_words_here"] (Zz Zba):=⟨rfl,rfl,rfl,by decide+kernel,rfl,by decide+kernel,by decide+kernel⟩
theorem Zf3{f:Addr}{fd:FuncData}(F:Fun K "_law_holds" "_law_holds" Zba f fd)(T:Txt K mg t_YEAR_DAYS t_MONTH_DAYS t_MOST_FIGURES t_MOST_LETTERS t_FIGURES t_LETTERS t_MOST_WORDS Zn Zi Zj Zc Zo ZP Zh Zd Zu ZD Zr Zq Zt Zv ZF ZQ)(Zbg:Cal P w K mg base CX0 1 "_law_alone" ["_law_kept"] (ZaN Zd))(YM:Cal P w K mg base CX0 1 "_law_length" ["_law_text"] Jm)(Zbh:Cal P w K mg base CX0 2 "_law_right" ["_law_words_here"] ZaM)(JD:ZhJ P w K mg base CX0 66 "shown" ["self"] (Xq Zn Zi Zj Zc 64) (fun C=>C=Zn\/C=Zi\/C=Zj\/C=Zc))(Zbi:Cal P w K mg base (CXr P w) 70 "term_read" ["text"] (ZaK Zn Zi Zj Zc Zd)):Yx P w K mg base CX0 71 f fd ["_law_words_here"] ZaO:=by
 refine F.ok YQ (fun vs H Q E h=> ?_) (fun cdv A outer s H vs Q E hr h=> ?_)
 ·obtain⟨p,ws,rfl,_⟩:=h
  rfl
 ·obtain⟨p,ws,rfl,hp,hw,hl,q⟩:=h;have l5:=YK;have hu:=Zjd hr;have hu3:=ZjG hr;have jl:=Zin hw;have sl7:=Zim hw;refine⟨_,(Zg (ZR (i:=1) YQ.nd rfl (Or.inl rfl) (Zat PySem.F.plainAttrs_str PySem.F.slot_str_join PySem.F.type_str_join Zav Zx (Za (pv 0) Zf))) (Zg (ZR (i:=2) YQ.nd rfl (Or.inl rfl) Zd2) (Zg (ZR (i:=3) YQ.nd rfl (Or.inl rfl) Zd2) (Zg (Zfp (CX:=CX0) (iy:=3) (i:=4) (by rfl) Zbi (hr.mono (by omega)) (by rfl) (Za (pv 1) Zf) YQ.nd (by rfl) (by rfl) (by rfl) T.mg_HallError (by rfl) (by rfl) (fun _=>(Zk (ZR (i:=2) YQ.nd rfl (Or.inl rfl) (pv 4))))) (Zg (Yc (XF (XD (Yi Zbh (hr.mono (by omega)) rfl Yk (Za (Zat PySem.F.plainAttrs_str PySem.F.slot_str_split PySem.F.type_str_split ZbH (pv 1) (Za Zx Zf)) Zf)))) (Zk (ZC (ZaZ (ZL ZX (by rfl) T.z_isinstance ZW (Za (pv 2) (Za (Ye (v:=.ref Zd) rfl T.mg_NoTerm rfl) Zf))) (ZaZ (ZL ZX (by rfl) T.z_isinstance ZW (Za (pv 2) (Za (Ziq (v:=.ty "ValueError") rfl T.z_ValueError ZdP rfl) Zf))) (Zd3 (Yi Zbg (hr.mono (by omega)) rfl Yk (Za (pv 2) Zf))))))) ZM) (Zg (Yc (ZG Zis (pv 2) Zd2 (ZJ _)) (Zk (ZC Zar)) ZM) (Zg (ZiE (i:=5) ["_law_word"] [] YQ.nd rfl (Or.inl rfl) rfl (ZbX (pv 0)) (by rfl) (by exact trivial) (by rfl) (by exact trivial) (fun _ _ _ _=>(XH (i:=0) (show(nmY ["_law_word"] []).Nodup by decide+kernel) rfl (Or.inl rfl))) (fun _ _ _ _=>(Zgw (XF (XD (Yi YM (hr.mono (by omega)) rfl Yk (Za (pv 0) Zf)))))) (fun _ _ _ _=>(pv 0))) (Zk (ZC (XJ (ZjE hu3) (Zez ["_law_word"] [] rfl (ZbX (Zat PySem.F.plainAttrs_str PySem.F.slot_str_split PySem.F.type_str_split ZbH (Zc4 (pv 3) JD (hr.mono (by omega)) Yk) (Za Zx Zf))) (by rfl) (by exact trivial) (by rfl) (by exact trivial) (fun _ _ _ _=>(XH (i:=0) (show(nmY ["_law_word"] []).Nodup by decide+kernel) rfl (Or.inl rfl))) (fun _ _ _ _=>(Zgw (XF (XD (Yi YM (hr.mono (by omega)) rfl Yk (Za (pv 0) Zf)))))) (fun _ _ _ _=>(pv 0))) (pv 5) (ZJ _))))))))))), ?_⟩
  refine Jb fun B_ hB=> ?_;refine⟨rfl,_,rfl,Str.ofString " ",p,ws,rfl,rfl,SqL.of hp, ?_,hB _ _ ?_⟩
  ·have e:(ws.map fun x=>x.length).sum=(ws.map Str.length).sum:=rfl;rw[e,show(Str.ofString " ").length=1 by decide+kernel];omega
  have hx:(ws≠[]/\Txt.split (Txt.join (Str.ofString " ") ws) ⟨#[32]⟩=ws)\/(ws=[]/\Txt.split (Txt.join (Str.ofString " ") ws) ⟨#[32]⟩=[Str.empty]):=by
   by_cases z:ws=[]
   ·exact .inr ⟨z,by rw[z];exact Zhc⟩
   ·exact .inl ⟨z,ZfD hw z⟩
  generalize Txt.join (Str.ofString " ") ws=x at jl hx
  generalize es:Txt.split x ⟨#[32]⟩=sp at hx
  have hsw:∀w∈sp,Wd w:=by
   rcases hx with ⟨_,rfl⟩|⟨_,rfl⟩
   ·exact hw
   ·exact fun w m=>by rw[List.mem_singleton.mp m];exact Xx (by decide) (by decide)
  have lsp:sp.length<=601:=by
   rcases hx with ⟨_,rfl⟩|⟨_,rfl⟩
   ·omega
   ·show 1<=601;decide
  refine Jb fun B_ hB=> ?_;refine hB _ _ ?_;refine Jb fun B_ hB=> ?_;refine hB _ _ ?_;refine Jb fun B_ hB=> ?_;have no:JT sp=none->∀(e:Addr) H1,ZS H H1->H1 e=some (XO e Zd none)->B_ [some (.ref p),some (.str x),some (.ref e),some .non,none,none] H1:=by
   intro rn e H1 s1 he;refine hB _ _ ?_;refine⟨_,rfl,rfl,x,32,rfl,by rw[Zeh],by omega,fun L hL=> ?_⟩;rw[es];have s2:=Ze hL (o:=.lst (sp.map V.str));refine⟨L,sp,rfl,Zb,hsw,by omega,fun H3 s3=>⟨_,rfl, ?_⟩⟩;rw[rn];have he3:=s3 _ _ (s2 _ _ he);refine Xm ⟨_,rfl,e,_,_,_,true,rfl,he3,T.xc_NoTerm,rfl,T.i_t_NoTerm,true,rfl,Xm ⟨_,rfl,e,_,_,_,true,rfl,he3,T.xc_NoTerm,rfl,T.i_t_ve,true,rfl,Xm ⟨_,rfl,e,rfl,he3,fun H4 s4=>q _ (s1.trans (s2.trans (s3.trans s4)))⟩⟩⟩
  have yes:∀t,JT sp=some t->∀(m:Addr) H1,ZS H H1->Yv Zn Zi Zj Zc H1 t m->B_ [some (.ref p),some (.str x),some .non,some (.ref m),none,none] H1:=by
   intro t rt m H1 s1 tm;refine hB _ _ ?_;refine Jb fun B_ hB=> ?_;refine⟨_,rfl,rfl,x,32,rfl,by rw[Zeh],by omega,fun L hL=> ?_⟩;rw[es];have s2:=Ze hL (o:=.lst (sp.map V.str));refine⟨L,sp,rfl,Zb,hsw,by omega,fun H3 s3=>⟨_,rfl, ?_⟩⟩;rw[rt];refine YT (hB _ _ ?_);have s13:=s1.trans (s2.trans s3);have tm3:=tm.same (s2.trans s3);have hp3:=s13 _ _ hp;refine Jb fun B_ hB=> ?_;refine⟨_,rfl,rfl,_,rfl,YT (hB _ _ ?_)⟩
   refine Jb fun B_ hB=> ?_;obtain rfl:sp=ws:=by
    rcases hx with ⟨_,e⟩|⟨_,e⟩
    ·exact e
    ·rw[e] at rt
     exact absurd rt Zgl
   obtain⟨l61,ept⟩:=Zgk rt;obtain⟨u,eu,ef,ok7,cu,du⟩:=tw_filter ept;rw[List.append_nil] at eu
   subst eu;refine⟨_,rfl,p,rfl,⟨_,SqL.of hp3⟩,ZgA sp.length (fun j=>((sp[j]?).map fun w=>if(!Yy w)=true then[V.str w] else[]).getD []) (by omega) (fun j=>ZgL _ _) (fun j H4 s4 lt=>⟨_,_,SqL.of (s4 _ _ hp3),List.getElem?_eq_getElem (by rw[List.length_map];exact lt)⟩) (fun H4 s4=>⟨_,SqL.of (s4 _ _ hp3),by rw[List.length_map];exact Nat.le_refl _⟩) (fun j y H4 H5 s4 lt yl RT RF rt rf=> ?_) fun N H4 hN s4 d4=> ?_⟩
   ·obtain⟨rfl,yl⟩:=yl;obtain⟨w1,ew,rfl⟩:=Zio (yl _ (SqL.of (s4 _ _ hp3)));rw[ew] at rt rf
    have b1:=(hw w1 (List.mem_of_getElem? ew)).1;refine⟨trivial,_,rfl,w1,rfl,by omega,fun H6 s6=>⟨_,rfl, ?_⟩⟩;cases nl:Yy w1 with
    |false=>exact Xm ⟨_,rfl,rt _ _ (by show(if(!Yy w1)=true then[V.str w1] else[])=_;rw[nl];rfl) s6⟩
    |true=>exact YT (rf _ (by show(if(!Yy w1)=true then[V.str w1] else[])=_;rw[nl];rfl) s6)
   rw[ZcI] at d4
   refine hB _ _ ?_;have s14:=s13.trans s4;refine⟨_,rfl,shR (tm3.same s4) (by omega) (by omega) ok7 fun H5 s5=> ?_⟩;have lt:=JC t (-1) ok7;refine⟨rfl,_,32,rfl,by rw[Zeh],by omega,fun L2 hL2=> ?_⟩;have wl:=ZdK (t:=t);have wf:=Zce ok7;rw[Zdg (t.tC (-1)) 32 (t.wC (-1)) (t.wC_ne _) (fun w hw=>(wf w hw).1) (Zeg t (-1))];have s6:=Ze hL2 (o:=.lst ((t.wC (-1)).map V.str));have h6:upd H5 L2 (.lst ((t.wC (-1)).map V.str)) L2=some (.lst ((t.wC (-1)).map V.str)):=Zb
   generalize upd H5 L2 (.lst ((t.wC (-1)).map V.str))=H6 at s6 h6⊢
   generalize t.wC (-1)=tw at ef wl wf h6
   refine⟨L2,rfl,⟨_,SqL.of h6⟩,ZgA tw.length (fun j=>((tw[j]?).map fun w=>if(!Yy w)=true then[V.str w] else[]).getD []) (by omega) (fun j=>ZgL _ _) (fun j H4 s4 lt=>⟨_,_,SqL.of (s4 _ _ h6),List.getElem?_eq_getElem (by rw[List.length_map];exact lt)⟩) (fun H4 s4=>⟨_,SqL.of (s4 _ _ h6),by rw[List.length_map];exact Nat.le_refl _⟩) (fun j y H4 H5 s4 lt yl RT RF rt rf=> ?_) fun M H7 hM s7 d7=> ?_⟩
   ·obtain⟨rfl,yl⟩:=yl;obtain⟨w1,ew,rfl⟩:=Zio (yl _ (SqL.of (s4 _ _ h6)));rw[ew] at rt rf
    have b1:=(wf w1 (List.mem_of_getElem? ew)).2;refine⟨trivial,_,rfl,w1,rfl,by omega,fun H6 s6=>⟨_,rfl, ?_⟩⟩;cases nl:Yy w1 with
    |false=>exact Xm ⟨_,rfl,rt _ _ (by show(if(!Yy w1)=true then[V.str w1] else[])=_;rw[nl];rfl) s6⟩
    |true=>exact YT (rf _ (by show(if(!Yy w1)=true then[V.str w1] else[])=_;rw[nl];rfl) s6)
   rw[ZcI,<-ef] at d7
   have dN:=s7 _ _ (s6 _ _ (s5 _ _ d4));obtain⟨z1,z2⟩:=Zhd (sp.filter fun w=> !Yy w);refine⟨_,rfl,1,_,_,by decide,rfl,.lst (SqL.of d7) (Zcd _),.lst (SqL.of dN) (Zcd _),z2, ?_⟩;exact JQ (q _ (s14.trans (s5.trans (s6.trans s7)))) (congrArg V.bl z1.symm)
  refine⟨_,rfl,x,rfl,by rw[es];exact hsw,by omega,by rw[es];omega,fun t rt m H1 s1 tm=> ?_,fun rn H1 s1 e he=> ?_⟩
  ·rw[es] at rt
   exact yes t rt m H1 s1 tm
  ·rw[es] at rn
   exact⟨Zd,rfl,T.xm_t,_,rfl,no rn e _ (s1.trans (Ze he)) Zb⟩
theorem Zen(ns:List Int)(a b:Option Int):∃ms:List Int,ZaY (ns.map V.int) a b=ms.map V.int/\ms.length<=ns.length/\∀i∈ms,i∈ns:=by
 refine⟨(ns.drop (HT.sIx ns.length 0 a)).take (HT.sIx ns.length ns.length b-HT.sIx ns.length 0 a), ?_, ?_,fun u hu=>List.mem_of_mem_drop (List.mem_of_mem_take hu)⟩
 ·unfold ZaY;rw[List.length_map,List.map_take,List.map_drop]
 ·rw[List.length_take,List.length_drop];omega
theorem ZcA:ZV ["_law_script","_law_names_by","_law_words_here","_law_word","_law_cell","_law_bent_here"] ["_law_script"] (Zz Zc6):=⟨rfl,rfl,rfl,by decide+kernel,rfl,by decide+kernel,by decide+kernel⟩
theorem Zk0{f:Addr}{fd:FuncData}(F:Fun K "law" "law" Zc6 f fd)(T:Txt K mg t_YEAR_DAYS t_MONTH_DAYS t_MOST_FIGURES t_MOST_LETTERS t_FIGURES t_LETTERS t_MOST_WORDS Zn Zi Zj Zc Zo ZP Zh Zd Zu ZD Zr Zq Zt Zv ZF ZQ)(ZaR:Cal P w K mg base CX0 1 "_law_bent" ["_law_words_here","_law_cell"] Zbd)(Zal:Cal P w K mg base CX0 1 "_law_cell_at" ["_law_script","_law_k"] (JW K))(YG:Cal P w K mg base CX0 71 "_law_holds" ["_law_words_here"] ZaO)(Zam:Cal P w K mg base CX0 2 "_law_tree_by" ["_law_cells","_law_names_by","_law_most"] JV)(Xz:Cal P w K mg base CX0 65 "_law_words" ["_law_tree"] (XS 64)):Yx P w K mg base CX0 72 f fd ["_law_script"] (Zhx K):=by
 refine F.ok ZcA (fun vs H Q E h=> ?_) (fun cdv A outer s H vs Q E hr h=> ?_)
 ·obtain⟨a,ns,rfl,_⟩:=h
  rfl
 ·obtain⟨a,ns,rfl,hS,hlen,hbits,fin⟩:=h;have l5:=YK;have hu:=Zjd hr;have hu3:=ZjG hr;refine⟨_,(Zg (ZR (i:=1) ZcA.nd rfl (Or.inl rfl) (Yi Zal (hr.mono (by omega)) rfl Yk (Za (pv 0) (Za Zm Zf)))) (Zg (ZR (i:=2) ZcA.nd rfl (Or.inl rfl) (Yi Xz (hr.mono (by omega)) rfl Yk (Za (Yi Zam (hr.mono (by omega)) rfl Yk (Za (Yo Xg (pv 0) (Ys Zm) (Ys Zm)) (Za (pv 1) (Za Zm Zf)))) Zf))) (Zg (Zck PassesOwn.never rfl (ZbX (Yg (Za Zx (Za Zx (Za Zx (Za Zx (Za Zx Zf))))))) (XH (i:=3) ZcA.nd rfl (Or.inl rfl)) (Zk (Yc (XF (XD (Yi YG (hr.mono (by omega)) rfl Yk (Za (Yg (Za Zx (Za (pv 3) (Za Zx Zf)))) Zf)))) (Zk (ZC Zar)) ZM))) (Zg (Yc (PW.pt (ZbW (XF (XD (Yi YG (hr.mono (by omega)) rfl Yk (Za (pv 2) Zf)))) (ZbW (XF (XD (Yi YG (hr.mono (by omega)) rfl Yk (Za (Yg (Za Zx Zf)) Zf)))) (ZbW (XF (XD (Yi YG (hr.mono (by omega)) rfl Yk (Za (Yg (Za Zx (Za Zx Zf))) Zf)))) (Zcj (XF (XD (Yi YG (hr.mono (by omega)) rfl Yk (Za (Yg (Za Zx (Za Zx Zf))) Zf))))))))) (Zk (ZC Zar)) ZM) (Zg (Zck PassesOwn.never rfl (ZbX (Zy Yz (Yg (Za (pv 1) Zf)) (Yo Xg (pv 0) (Ys Zm) (Ys Zm)))) (XH (i:=4) ZcA.nd rfl (Or.inl rfl)) (Zg (ZR (i:=5) ZcA.nd rfl (Or.inl rfl) (Yi ZaR (hr.mono (by omega)) rfl Yk (Za (pv 2) (Za (ZL Zfd (by rfl) T.z_abs Zhw (Za (pv 4) Zf)) Zf)))) (Zk (Yc (PW.pt (ZbW (XF (XD (Yi YG (hr.mono (by omega)) rfl Yk (Za (pv 5) Zf)))) (Zcj (PW.pt (Zeq (ZG (ZjF hu3) (pv 5) (Yg Zf) (ZJ _)) (ZcT (XF (XD (Yi YG (hr.mono (by omega)) rfl Yk (Za (Yi ZaR (hr.mono (by omega)) rfl Yk (Za (pv 5) (Za (Zy YC (ZL Zfd (by rfl) T.z_abs Zhw (Za (pv 4) Zf)) Zm) Zf))) Zf)))))))))) (Zk (ZC Zar)) ZM)))) (Zk (ZC Zar))))))), ?_⟩
  refine Jb fun B_ hB=> ?_;refine⟨_,rfl,a,ns,0,rfl,hS,fun H0 s0=> ?_⟩;refine hB _ _ ?_;generalize ns[0]?.getD 0=n0;refine Jb fun B_ hB=> ?_;obtain⟨ms,em,lm,im⟩:=Zen ns (some 1) (some 41);refine⟨_,rfl,_,rfl,_,rfl,a,_,rfl,s0.seq hS,fun Pc hP=> ?_⟩;have s1:=Ze hP (o:=.lst (ZaY (ns.map V.int) (some 1) (some 41)));have hPc:upd H0 Pc (.lst (ZaY (ns.map V.int) (some 1) (some 41))) Pc=some (.lst (ms.map V.int)):=by rw[Zb,em]
  generalize upd H0 Pc (.lst (ZaY (ns.map V.int) (some 1) (some 41)))=H1 at s1 hPc
  refine⟨_,rfl,Pc,ms,n0,rfl,hPc,by omega,fun tp t H2 s2 tr ct gd=> ?_⟩;have dp:=t.deep_cnt;refine⟨tp,t,rfl,tr,by omega,ct,gd,fun W H3 hW s3 dW=> ?_⟩;refine hB _ _ ?_;have s03:=s0.trans (s1.trans (s2.trans s3));have wW:=ZfA gd;have lW:=ZaQ (t:=t);have neW:t.lw≠[]:=by cases t<;>simp[Tr.lw]
  generalize t.lw=ws at dW wW lW neW
  have wd3:Wd (Str.ofString "3d"):=Xx (by decide+kernel) (by decide+kernel);have wda:Wd (Str.ofString "after"):=Xx (by decide+kernel) (by decide+kernel);have wdn:Wd (Str.ofString "never"):=Xx (by decide+kernel) (by decide+kernel);have wde:Wd (Str.ofString ""):=Xx (by decide+kernel) (by decide+kernel);clear hPc tr;refine Jb fun B_ hB=> ?_;refine⟨show 5<=sizeLine by omega,fun t0 h0=> ?_⟩;have sT:=Ze h0 (o:=.lst ([Str.ofString "earlier",Str.ofString "later",Str.ofString "never",Str.ofString "after",Str.ofString "put"].map V.str))
  have hT:upd H3 t0 (.lst ([Str.ofString "earlier",Str.ofString "later",Str.ofString "never",Str.ofString "after",Str.ofString "put"].map V.str)) t0=some (.lst ([Str.ofString "earlier",Str.ofString "later",Str.ofString "never",Str.ofString "after",Str.ofString "put"].map V.str)):=Zb;have five:∀w∈[Str.ofString "earlier",Str.ofString "later",Str.ofString "never",Str.ofString "after",Str.ofString "put"],Wd w:=fun w hw=>by
   simp only [List.mem_cons,List.mem_nil_iff,or_false] at hw
   rcases hw with rfl|rfl|rfl|rfl|rfl<;>exact Xx (by decide+kernel) (by decide+kernel)
  refine⟨t0,rfl,⟨_,SqL.of hT⟩,Zd5 (xs:=[Str.ofString "earlier",Str.ofString "later",Str.ofString "never",Str.ofString "after",Str.ofString "put"].map V.str) (fun i σ H'=>∃v:Option V,σ=[some (.ref a),some (.int n0),some (.ref W),v,none,none]/\ZS (upd H3 t0 (.lst ([Str.ofString "earlier",Str.ofString "later",Str.ofString "never",Str.ofString "after",Str.ofString "put"].map V.str))) H') ⟨_,rfl,ZS.refl _⟩ ?_ ?_ ?_⟩
  ·rintro i σ H4 _ ⟨v,rfl,s4⟩;exact SqL.of (s4 _ _ hT)
  ·rintro i y σ H4 hy ⟨v,rfl,s4⟩;obtain⟨w,ew,rfl⟩:=Zio hy;have ww:=five w (List.mem_of_getElem? ew);refine⟨_,rfl,show 3<=sizeLine by omega,fun L hL=>⟨L,[Str.ofString "after",w,Str.ofString "3d"],rfl,Zb,fun z hz=> ?_,(by show 3<=600;decide),fun H5 s5=>⟨_,rfl,YT ⟨_,rfl,s4.trans ((Ze hL).trans s5)⟩⟩⟩⟩
   simp only [List.mem_cons,List.mem_nil_iff,or_false] at hz
   rcases hz with rfl|rfl|rfl
   ·exact wda
   ·exact ww
   ·exact wd3
  rintro σ H4 ⟨v,rfl,s4⟩;refine hB _ _ ?_;have w2:∀{x y:Str},Wd x->Wd y->∀z∈[x,y],Wd z:=fun{x y} hx hy z hz=>by
   simp only [List.mem_cons,List.mem_nil_iff,or_false] at hz
   rcases hz with rfl|rfl
   ·exact hx
   ·exact hy
  refine Jb fun B_ hB=> ?_;have sW4:=sT.trans s4;refine⟨_,rfl,W,ws,rfl,sW4 _ _ dW,wW,by omega,fun H5 s5=>⟨_,rfl,YT ⟨show 1<=sizeLine by omega,fun L1 h1=>⟨L1,[Str.ofString ""],rfl,Zb,(fun z hz=>by rw[List.mem_singleton.mp hz];exact wde),(by show 1<=600;decide),fun H6 s6=>⟨_,rfl,YT ?_⟩⟩⟩⟩⟩
  refine⟨show 2<=sizeLine by omega,fun L2 h2=>⟨L2,[Str.ofString "never",Str.ofString ""],rfl,Zb,w2 wdn wde,(by show 2<=600;decide),fun H7 s7=>⟨_,rfl,YT ?_⟩⟩⟩
  refine⟨show 2<=sizeLine by omega,fun L3 h3=>⟨L3,[Str.ofString "",Str.ofString "never"],rfl,Zb,w2 wde wdn,(by show 2<=600;decide),fun H8 s8=>⟨_,rfl,YT ?_⟩⟩⟩
  refine hB _ _ ?_;have sW8:=sW4.trans (s5.trans ((Ze h1).trans (s6.trans ((Ze h2).trans (s7.trans ((Ze h3).trans s8))))));have dW8:=sW8 _ _ dW;have hS8:=(s03.trans sW8).seq hS;clear s5 s6 s7 s8 s4 sT;refine Jb fun B_ hB=> ?_;obtain⟨ks,ek,lk,ik⟩:=Zen ns (some 1) (some 9);refine⟨_,rfl,show 1<=sizeLine by omega,fun t1 g1=> ?_⟩;have q1:=Ze g1 (o:=.lst [.int n0]);refine⟨_,rfl,_,rfl,_,rfl,a,_,rfl,q1.seq hS8,fun P2 g2=> ?_⟩
  have q2:=Ze g2 (o:=.lst (ZaY (ns.map V.int) (some 1) (some 9)));refine⟨t1,P2,_,_,rfl,rfl,SqL.of (q2 _ _ Zb),SqL.of Zb,by rw[ek,List.length_map];show 1+_<=_;omega,fun LL g3=> ?_⟩
  have q3:=Ze g3 (o:=.lst ([.int n0]++ZaY (ns.map V.int) (some 1) (some 9)));have hLL:upd (upd (upd H8 t1 (.lst [.int n0])) P2 (.lst (ZaY (ns.map V.int) (some 1) (some 9)))) LL (.lst ([.int n0]++ZaY (ns.map V.int) (some 1) (some 9))) LL=some (.lst ((n0::ks).map V.int)):=by rw[Zb,ek];rfl
  have qs:=q1.trans (q2.trans q3);generalize upd (upd (upd H8 t1 (.lst [.int n0])) P2 (.lst (ZaY (ns.map V.int) (some 1) (some 9)))) LL (.lst ([.int n0]++ZaY (ns.map V.int) (some 1) (some 9)))=H9 at qs hLL
  have dW9:=qs _ _ dW8;refine⟨LL,rfl,⟨_,SqL.of hLL⟩,Zd5 (xs:=(n0::ks).map V.int) (fun i σ H'=>∃v4 v5:Option V,σ=[some (.ref a),some (.int n0),some (.ref W),v,v4,v5]/\ZS H9 H') ⟨_,_,rfl,ZS.refl _⟩ ?_ ?_ ?_⟩
  ·rintro i σ H4 _ ⟨v4,v5,rfl,s4⟩;exact SqL.of (s4 _ _ hLL)
  ·rintro i y σ H4 hy ⟨v4,v5,rfl,s4⟩;obtain⟨c,rfl⟩:∃c,y=V.int c:=by
    rw[List.getElem?_map] at hy
    obtain⟨c,_,e⟩:=Option.map_eq_some_iff.mp hy;exact⟨c,e.symm⟩
   have c0:0<=(if c<0 then-c else c):=by split<;>omega
   refine Jb fun B_ hB=> ?_;refine⟨_,rfl,_,rfl,c,rfl,W,ws,_,rfl,s4 _ _ dW9,wW,neW,by omega,c0,fun L ys H5 hL s5 dL wy ly=> ?_⟩;refine hB _ _ ?_;refine⟨_,rfl,L,ys,rfl,dL,wy,by omega,fun H6 s6=>⟨_,rfl,YT ?_⟩⟩;refine⟨_,rfl,Nat.zero_le _,fun e0 h0=> ?_⟩;have sE:=Ze h0 (o:=.lst []);refine⟨1,.lst (ys.map fun w=>Dt.v (.str w)),.lst [],by decide,rfl,.lst (SqL.of (sE _ _ (s6 _ _ dL))) (Zcd _),.lst (SqL.of Zb) .nil, ?_,_,rfl, ?_⟩
   ·show((ys.map fun w=>Dt.v (.str w)).zip []).all (fun p=>JB 0 p.1 p.2)=true;rw[List.zip_nil_right]
    rfl
   have s46:=s4.trans (s5.trans (s6.trans sE));cases ys with
   |nil=>exact YT (YT ⟨_,_,rfl,s46⟩)
   |cons y0 ys=>
    refine Xm ?_;refine⟨_,rfl,_,rfl,c,rfl,_,_,rfl,rfl,⟨by decide,by decide⟩, ?_⟩;refine⟨L,y0::ys,_,rfl,sE _ _ (s6 _ _ dL),wy,(fun z=>by cases z),by omega,Int.ediv_nonneg c0 (by decide),fun L2 zs H7 hL2 s7 dL2 wz lz=> ?_⟩;refine⟨L2,zs,rfl,dL2,wz,by omega,fun H8 s8=>⟨_,rfl,YT ⟨_,_,rfl,s46.trans (s7.trans s8)⟩⟩⟩
  rintro σ H4 ⟨v4,v5,rfl,s4⟩;refine hB _ _ ?_;exact fin _
end
def Gd(K:PySem.W.Frag)(x:Str)(st:Stmt):Prop:=∃A fd,PySem.W.nsIn K mainGlobals x=some (some (.ref A))/\Fun K x x st A fd
def Md(K:PySem.W.Frag)(C:Addr)(x q:Str)(st:Stmt):Prop:=∃A fd,PySem.W.findIn K (.ref C) x=some (some (.ref A))/\PySem.W.isFn K (.ref A)=true/\Fun K x q st A fd
theorem all_mk{l:PySem.W.OpenLaw}{w:World}{K:PySem.W.Frag}{h:Heap}{mg:Str->Option Value}{fa:Addr}{A_law:Addr}{oc_law kV_law dc_law pm_law cd_law ct_law:Value}{od_law an_law:Option Addr}{sl_law:Array (Option Value)}{Zn:Addr}{Zi:Addr}{Zj:Addr}{Zc:Addr}{Zo:Addr}{ZP:Addr}{Zh:Addr}{Zd:Addr}{Zu:Addr}{ZD:Addr}{Zr:Addr}{Zq:Addr}{Zt:Addr}{Zv:Addr}{ZF:Addr}{ZQ:Addr}{t_YEAR_DAYS:Tok}{t_MONTH_DAYS:Tok}{t_MOST_FIGURES:Tok}{t_MOST_LETTERS:Tok}{t_FIGURES:Tok}{x_FIGURES:Str}{t_LETTERS:Tok}{x_LETTERS:Str}{t_MOST_WORDS:Tok}{N_NoLength:Addr}{nm_NoLength qn_NoLength:Str}{bs_NoLength sb_NoLength:List Value}{ZfE ab_NoLength:Bool}{sn_NoLength:List Str}{co_NoLength:Option Bool}{dd_NoLength:Option Addr}{k0_NoLength k1_NoLength k2_NoLength k3_NoLength k5_NoLength:Option Value}{nc_NoLength:Value}{nd_NoLength:Option Addr}{ZcJ:Array DictEntry}{np_NoLength:Nat}{nl_NoLength:Array (Option Value)}{N_NoTerm:Addr}{nm_NoTerm qn_NoTerm:Str}{bs_NoTerm sb_NoTerm:List Value}{Zhe ab_NoTerm:Bool}{sn_NoTerm:List Str}{co_NoTerm:Option Bool}{dd_NoTerm:Option Addr}{k0_NoTerm k1_NoTerm k2_NoTerm k3_NoTerm k5_NoTerm:Option Value}{nc_NoTerm:Value}{nd_NoTerm:Option Addr}{Zeo:Array DictEntry}{np_NoTerm:Nat}{nl_NoTerm:Array (Option Value)}{N_HallError:Addr}{nm_HallError qn_HallError:Str}{bs_HallError sb_HallError:List Value}{Zf4 ab_HallError:Bool}{sn_HallError:List Str}{co_HallError:Option Bool}{dd_HallError:Option Addr}{k0_HallError k1_HallError k2_HallError k3_HallError k5_HallError:Option Value}{nc_HallError:Value}{nd_HallError:Option Addr}{Zcf:Array DictEntry}{np_HallError:Nat}{nl_HallError:Array (Option Value)}
  (X:K.In h)(G:h.Ns mainGlobals mg)(hfa:mg "law"=some (.ref fa))
  (Y8:Gd K "is_made_of" ZaD)
  (X8:Gd K "is_number" Zb5)
  (Z1:Gd K "days_of_letter" Jf)
  (Y0:Gd K "length_read" Za9)
  (Z6:Gd K "length_shown" JM)
  (Z02:Gd K "is_name" Zco)
  (Z0l:Gd K "never" ZeH)
  (Z0m:Gd K "after" ZeI)
  (Z0n:Gd K "later" ZeJ)
  (Z03:Gd K "earlier" Zcp)
  (J0:Gd K "term_read" Zb6)
  (Y9:Gd K "word_taken" ZaE)
  (Z9:Gd K "part_taken" ZaF)
  (X3:Gd K "kind_taken" ZaG)
  (Z7:Gd K "length_taken" JN)
  (Y4:Gd K "_law_cell_at" Zaa)
  (Y5:Gd K "_law_name_by" Zab)
  (Z2:Gd K "_law_length_by" Ju)
  (Y6:Gd K "_law_tree_by" Zac)
  (Y7:Gd K "_law_words" Zb7)
  (J5:Gd K "_law_name" ZbK)
  (X4:Gd K "_law_length" ZaH)
  (J1:Gd K "_law_right" Zb8)
  (J6:Gd K "_law_bent" JP)
  (J3:Gd K "_law_alone" Zb9)
  (J4:Gd K "_law_holds" Zba)
  (Z0T:PySem.W.nsIn K mainGlobals "law"=some (some (.ref A_law)))
  (l_law:K.lookup A_law=some ⟨oc_law,od_law,.func (PySem.W.fnOf "law" "law" (Zbq Zc6) (Jj Zc6) (Zz Zc6) .none kV_law dc_law pm_law an_law cd_law ct_law),sl_law⟩)
  (cd_law':PySem.W.codeIn K cd_law "law"=true)
  (k_law:PySem.W.keepIn K (.ref A_law)=true)
  (Z0C:PySem.W.nsIn K mainGlobals "Never"=some (some (.ref Zn)))
  (Z0D:PySem.W.nsIn K mainGlobals "After"=some (some (.ref Zi)))
  (Z0E:PySem.W.nsIn K mainGlobals "Later"=some (some (.ref Zj)))
  (Z0e:PySem.W.nsIn K mainGlobals "Earlier"=some (some (.ref Zc)))
  (Z04:PySem.W.nsIn K mainGlobals "HallError"=some (some (.ref Zo)))
  (Z0F:PySem.W.nsIn K mainGlobals "NoDay"=some (some (.ref ZP)))
  (J9:PySem.W.nsIn K mainGlobals "NoLength"=some (some (.ref Zh)))
  (Z0d:PySem.W.nsIn K mainGlobals "NoTerm"=some (some (.ref Zd)))
  (Z0f:PySem.W.nsIn K mainGlobals "TooWide"=some (some (.ref Zu)))
  (Z0A:PySem.W.nsIn K mainGlobals "NoBook"=some (some (.ref ZD)))
  (Z0b:PySem.W.nsIn K mainGlobals "PutTwice"=some (some (.ref Zr)))
  (Z05:PySem.W.nsIn K mainGlobals "HeldTwice"=some (some (.ref Zq)))
  (Z0c:PySem.W.nsIn K mainGlobals "NoSeries"=some (some (.ref Zt)))
  (Z0g:PySem.W.nsIn K mainGlobals "RunBack"=some (some (.ref Zv)))
  (Z0B:PySem.W.nsIn K mainGlobals "Unlike"=some (some (.ref ZF)))
  (Z0G:PySem.W.nsIn K mainGlobals "NoRow"=some (some (.ref ZQ)))
  (Z0o:PySem.W.plainGet K Zn Str.empty=true)
  (Z0p:PySem.W.hasDictIn K Zn=true)
  (Z0q:PySem.W.plainOver K Zn=true)
  (Z0r:PySem.W.findIn K (.ref Zn) "__setattr__"=some (some (.builtin "object.__setattr__")))
  (Z0H:PySem.W.makesIn K Zn=true)
  (Z0I:PySem.W.keepIn K (.ref Zn)=true)
  (in_Never:PySem.W.findIn K (.ref Zn) "__init__"=some (some (.builtin "object.__init__")))
  (Z0J:PySem.W.findIn K (.ref Zn) "__class__"=some (some (.builtin "object.__class__")))
  (Z0K:PySem.W.mroIn K Zn (.type "object")=some true)
  (Z0s:PySem.W.plainGet K Zi Str.empty=true)
  (Z0t:PySem.W.hasDictIn K Zi=true)
  (Z0u:PySem.W.plainOver K Zi=true)
  (Z0v:PySem.W.findIn K (.ref Zi) "__setattr__"=some (some (.builtin "object.__setattr__")))
  (Z0L:PySem.W.makesIn K Zi=true)
  (Z0M:PySem.W.keepIn K (.ref Zi)=true)
  (X5:Md K Zi "__init__" "After.__init__" ZaI)
  (Z00:PySem.W.findIn K (.ref Zi) "kind"=some none)
  (Z01:PySem.W.findIn K (.ref Zi) "days"=some none)
  (Z0N:PySem.W.findIn K (.ref Zi) "__class__"=some (some (.builtin "object.__class__")))
  (Z0O:PySem.W.mroIn K Zi (.type "object")=some true)
  (Z0w:PySem.W.plainGet K Zj Str.empty=true)
  (Z0x:PySem.W.hasDictIn K Zj=true)
  (Z0y:PySem.W.plainOver K Zj=true)
  (Z0z:PySem.W.findIn K (.ref Zj) "__setattr__"=some (some (.builtin "object.__setattr__")))
  (Z0P:PySem.W.makesIn K Zj=true)
  (Z0Q:PySem.W.keepIn K (.ref Zj)=true)
  (X6:Md K Zj "__init__" "Pair.__init__" Za6)
  (Z06:PySem.W.findIn K (.ref Zj) "one"=some none)
  (J7:PySem.W.findIn K (.ref Zj) "other"=some none)
  (Z0R:PySem.W.findIn K (.ref Zj) "__class__"=some (some (.builtin "object.__class__")))
  (Z0S:PySem.W.mroIn K Zj (.type "object")=some true)
  (Z07:PySem.W.plainGet K Zc Str.empty=true)
  (Z08:PySem.W.hasDictIn K Zc=true)
  (Z09:PySem.W.plainOver K Zc=true)
  (Z0a:PySem.W.findIn K (.ref Zc) "__setattr__"=some (some (.builtin "object.__setattr__")))
  (Z0h:PySem.W.makesIn K Zc=true)
  (Z0i:PySem.W.keepIn K (.ref Zc)=true)
  (Z8:Md K Zc "__init__" "Pair.__init__" Za6)
  (J8:PySem.W.findIn K (.ref Zc) "one"=some none)
  (X7:PySem.W.findIn K (.ref Zc) "other"=some none)
  (Z0j:PySem.W.findIn K (.ref Zc) "__class__"=some (some (.builtin "object.__class__")))
  (Z0k:PySem.W.mroIn K Zc (.type "object")=some true)
  (hn:PySem.W.specialIn K (.builtin "object.__class__") "__get__"=some (some (.builtin "getset_descriptor.__get__")))
  (htk:PySem.W.takesIn K (.builtin "object.__class__")=some true)
  (Z3:Md K Zn "shown" "Never.shown" Zad)
  (Z4:Md K Zi "shown" "After.shown" Zae)
  (Z5:Md K Zj "shown" "Later.shown" Zaf)
  (Z0:Md K Zc "shown" "Earlier.shown" Jv)
  (g_YEAR_DAYS:PySem.W.nsIn K mainGlobals "YEAR_DAYS"=some (some (.int 360 t_YEAR_DAYS)))
  (g_MONTH_DAYS:PySem.W.nsIn K mainGlobals "MONTH_DAYS"=some (some (.int 30 t_MONTH_DAYS)))
  (g_MOST_FIGURES:PySem.W.nsIn K mainGlobals "MOST_FIGURES"=some (some (.int 40 t_MOST_FIGURES)))
  (g_MOST_LETTERS:PySem.W.nsIn K mainGlobals "MOST_LETTERS"=some (some (.int 12 t_MOST_LETTERS)))
  (g_FIGURES:PySem.W.nsIn K mainGlobals "FIGURES"=some (some (.str x_FIGURES t_FIGURES)))
  (e_FIGURES:x_FIGURES=Yj)
  (g_LETTERS:PySem.W.nsIn K mainGlobals "LETTERS"=some (some (.str x_LETTERS t_LETTERS)))
  (e_LETTERS:x_LETTERS=YH)
  (g_MOST_WORDS:PySem.W.nsIn K mainGlobals "MOST_WORDS"=some (some (.int 61 t_MOST_WORDS)))
  (xl_NoLength:K.lookup Zh=some (excClassObj nm_NoLength qn_NoLength Zh N_NoLength bs_NoLength [.ref Zo,.type "ValueError",.type "Exception",.type "BaseException",.type "object"] ZfE sn_NoLength sb_NoLength ab_NoLength co_NoLength dd_NoLength k0_NoLength k1_NoLength k2_NoLength k3_NoLength k5_NoLength "ValueError.__new__"))
  (xN_NoLength:K.lookup N_NoLength=some ⟨nc_NoLength,nd_NoLength,.dict ZcJ np_NoLength,nl_NoLength⟩)
  (xe_NoLength:ZcZ ZcJ=true)
  (xi_NoLength:PySem.W.nsIn K N_NoLength "__init__"=some none)
  (xl_NoTerm:K.lookup Zd=some (excClassObj nm_NoTerm qn_NoTerm Zd N_NoTerm bs_NoTerm [.ref Zo,.type "ValueError",.type "Exception",.type "BaseException",.type "object"] Zhe sn_NoTerm sb_NoTerm ab_NoTerm co_NoTerm dd_NoTerm k0_NoTerm k1_NoTerm k2_NoTerm k3_NoTerm k5_NoTerm "ValueError.__new__"))
  (xN_NoTerm:K.lookup N_NoTerm=some ⟨nc_NoTerm,nd_NoTerm,.dict Zeo np_NoTerm,nl_NoTerm⟩)
  (xe_NoTerm:ZcZ Zeo=true)
  (xi_NoTerm:PySem.W.nsIn K N_NoTerm "__init__"=some none)
  (xl_HallError:K.lookup Zo=some (excClassObj nm_HallError qn_HallError Zo N_HallError bs_HallError [.type "ValueError",.type "Exception",.type "BaseException",.type "object"] Zf4 sn_HallError sb_HallError ab_HallError co_HallError dd_HallError k0_HallError k1_HallError k2_HallError k3_HallError k5_HallError "ValueError.__new__"))
  (xN_HallError:K.lookup N_HallError=some ⟨nc_HallError,nd_HallError,.dict Zcf np_HallError,nl_HallError⟩)
  (xe_HallError:ZcZ Zcf=true)
  (xi_HallError:PySem.W.nsIn K N_HallError "__init__"=some none)
  (xk_NoLength:(PySem.W.kitCls K (.ref Zh) (.ref Zh)).isSome=true)
  (xg_NoLength:PySem.W.findIn K (.ref Zh) "__getattribute__"=some (some (.builtin "BaseException.__getattribute__")))
  (xh_NoLength:PySem.W.findIn K (.ref Zh) "__getattr__"=some none)
  (xs_NoLength:PySem.W.findIn K (.ref Zh) "__class__"=some (some (.builtin "object.__class__")))
  (xo_NoLength:PySem.W.mroIn K Zh (.type "object")=some true)
  (xb_NoLength:PySem.W.subIn K (.ref Zh) (.type "BaseException")=some true)
  (xk_NoTerm:(PySem.W.kitCls K (.ref Zd) (.ref Zd)).isSome=true)
  (xg_NoTerm:PySem.W.findIn K (.ref Zd) "__getattribute__"=some (some (.builtin "BaseException.__getattribute__")))
  (xh_NoTerm:PySem.W.findIn K (.ref Zd) "__getattr__"=some none)
  (xs_NoTerm:PySem.W.findIn K (.ref Zd) "__class__"=some (some (.builtin "object.__class__")))
  (xo_NoTerm:PySem.W.mroIn K Zd (.type "object")=some true)
  (xb_NoTerm:PySem.W.subIn K (.ref Zd) (.type "BaseException")=some true)
  (f_xm_n:PySem.W.exmOne K (.ref Zh) (.ref Zh)=some true)
  (f_xm_t:PySem.W.exmOne K (.ref Zd) (.ref Zo)=some true)
  (f_i_t_ve:PySem.W.kitOne K (.ref Zd) (.type "ValueError")=some true)
  (f_i_t_HallError:PySem.W.kitOne K (.ref Zd) (.ref Zo)=some true)
  (f_i_t_NoDay:PySem.W.kitOne K (.ref Zd) (.ref ZP)=some false)
  (f_i_t_NoLength:PySem.W.kitOne K (.ref Zd) (.ref Zh)=some false)
  (f_i_t_NoTerm:PySem.W.kitOne K (.ref Zd) (.ref Zd)=some true)
  (f_i_t_TooWide:PySem.W.kitOne K (.ref Zd) (.ref Zu)=some false)
  (f_i_t_NoBook:PySem.W.kitOne K (.ref Zd) (.ref ZD)=some false)
  (f_i_t_PutTwice:PySem.W.kitOne K (.ref Zd) (.ref Zr)=some false)
  (f_i_t_HeldTwice:PySem.W.kitOne K (.ref Zd) (.ref Zq)=some false)
  (f_i_t_NoSeries:PySem.W.kitOne K (.ref Zd) (.ref Zt)=some false)
  (f_i_t_RunBack:PySem.W.kitOne K (.ref Zd) (.ref Zv)=some false)
  (f_i_t_Unlike:PySem.W.kitOne K (.ref Zd) (.ref ZF)=some false)
  (f_i_t_NoRow:PySem.W.kitOne K (.ref Zd) (.ref ZQ)=some false)
  (z_ValueError:PySem.W.nsIn K mainGlobals "ValueError"=some none)
  (z_abs:PySem.W.nsIn K mainGlobals "abs"=some none)
  (z_all:PySem.W.nsIn K mainGlobals "all"=some none)
  (z_int:PySem.W.nsIn K mainGlobals "int"=some none)
  (z_isinstance:PySem.W.nsIn K mainGlobals "isinstance"=some none)
  (z_len:PySem.W.nsIn K mainGlobals "len"=some none)
  (z_list:PySem.W.nsIn K mainGlobals "list"=some none)
  (z_range:PySem.W.nsIn K mainGlobals "range"=some none)
  (z_reversed:PySem.W.nsIn K mainGlobals "reversed"=some none)
  (z_str:PySem.W.nsIn K mainGlobals "str"=some none)
  (kib:PySem.W.kitOne K (.type "int") (.type "bool")=some false)
  (kii:PySem.W.kitOne K (.type "int") (.type "int")=some true)
  (kll:PySem.W.kitOne K (.type "list") (.type "list")=some true)
  (ktt:PySem.W.kitOne K (.type "tuple") (.type "tuple")=some true)
  (kss:PySem.W.kitOne K (.type "str") (.type "str")=some true)
  (ne_Never_After:Zn≠Zi)
  (ne_Never_Later:Zn≠Zj)
  (ne_Never_Earlier:Zn≠Zc)
  (ne_After_Later:Zi≠Zj)
  (ne_After_Earlier:Zi≠Zc)
  (ne_Later_Earlier:Zj≠Zc)
  :∃fd:FuncData,(∀(s:Shared) (v:Value),BindsTo s fd ⟨[v],[]⟩ [("_law_script",v)])/\∀base:Heap,K.In base->base.Ns mainGlobals mg->Yx l.prog w K mg base CX0 72 fa fd ["_law_script"] (Zhx K):=by
 have e:=hfa.symm.trans (PySem.W.mg_of X G Z0T);cases e;subst e_FIGURES;subst e_LETTERS;have T:Txt K mg t_YEAR_DAYS t_MONTH_DAYS t_MOST_FIGURES t_MOST_LETTERS t_FIGURES t_LETTERS t_MOST_WORDS Zn Zi Zj Zc Zo ZP Zh Zd Zu ZD Zr Zq Zt Zv ZF ZQ:=⟨PySem.W.mg_of X G g_YEAR_DAYS,PySem.W.mg_of X G g_MONTH_DAYS,PySem.W.mg_of X G g_MOST_FIGURES,PySem.W.mg_of X G g_MOST_LETTERS,PySem.W.mg_of X G g_FIGURES,PySem.W.mg_of X G g_LETTERS,PySem.W.mg_of X G g_MOST_WORDS,PySem.W.mg_none_of X G z_ValueError,PySem.W.mg_none_of X G z_abs,PySem.W.mg_none_of X G z_all,PySem.W.mg_none_of X G z_int,PySem.W.mg_none_of X G z_isinstance,PySem.W.mg_none_of X G z_len,PySem.W.mg_none_of X G z_list,PySem.W.mg_none_of X G z_range,PySem.W.mg_none_of X G z_reversed,PySem.W.mg_none_of X G z_str,kib,kii,kll,ktt,kss,⟨Z0o,Z0p,Z0q,Z0r⟩,⟨⟨Z0o,Z0p,Z0q,Z0r⟩,Z0J,hn,htk,Z0K⟩,⟨Z0s,Z0t,Z0u,Z0v⟩,Z00,Z01,⟨⟨Z0s,Z0t,Z0u,Z0v⟩,Z0N,hn,htk,Z0O⟩,⟨Z0w,Z0x,Z0y,Z0z⟩,Z06,J7,⟨⟨Z0w,Z0x,Z0y,Z0z⟩,Z0R,hn,htk,Z0S⟩,⟨Z07,Z08,Z09,Z0a⟩,J8,X7,⟨⟨Z07,Z08,Z09,Z0a⟩,Z0j,hn,htk,Z0k⟩,PySem.W.mg_of X G Z04,PySem.W.mg_of X G Z0F,PySem.W.mg_of X G J9,PySem.W.mg_of X G Z0d,PySem.W.mg_of X G Z0f,PySem.W.mg_of X G Z0A,PySem.W.mg_of X G Z0b,PySem.W.mg_of X G Z05,PySem.W.mg_of X G Z0c,PySem.W.mg_of X G Z0g,PySem.W.mg_of X G Z0B,PySem.W.mg_of X G Z0G,⟨xk_NoLength,xg_NoLength,xh_NoLength,xs_NoLength,hn,htk,xo_NoLength,xb_NoLength⟩,⟨xk_NoTerm,xg_NoTerm,xh_NoTerm,xs_NoTerm,hn,htk,xo_NoTerm,xb_NoTerm⟩,f_xm_n,f_xm_t,f_i_t_ve,f_i_t_HallError,f_i_t_NoDay,f_i_t_NoLength,f_i_t_NoTerm,f_i_t_TooWide,f_i_t_NoBook,f_i_t_PutTwice,f_i_t_HeldTwice,f_i_t_NoSeries,f_i_t_RunBack,f_i_t_Unlike,f_i_t_NoRow,ne_Never_After,ne_Never_Later,ne_Never_Earlier,ne_After_Later,ne_After_Earlier,ne_Later_Earlier⟩
 have ZkK:=ZfQ (st:=Zc6) l_law cd_law' k_law;obtain⟨_,_,Y8,ZaS⟩:=Y8;obtain⟨_,_,X8,Zbj⟩:=X8;obtain⟨_,_,Z1,Ji⟩:=Z1;obtain⟨_,_,Y0,Zan⟩:=Y0;obtain⟨_,_,Z6,Za2⟩:=Z6;obtain⟨_,_,Z02,ZcB⟩:=Z02;obtain⟨_,_,Z0l,Zf5⟩:=Z0l;obtain⟨_,_,Z0m,Zf6⟩:=Z0m;obtain⟨_,_,Z0n,Zf7⟩:=Z0n;obtain⟨_,_,Z03,ZcC⟩:=Z03;obtain⟨_,_,J0,Zbk⟩:=J0;obtain⟨_,_,Y9,ZaT⟩:=Y9;obtain⟨_,_,Z9,XX⟩:=Z9;obtain⟨_,_,X3,ZaU⟩:=X3;obtain⟨_,_,Z7,Za3⟩:=Z7;obtain⟨_,_,Y4,Zao⟩:=Y4
 obtain⟨_,_,Y5,Zap⟩:=Y5;obtain⟨_,_,Z2,Jz⟩:=Z2;obtain⟨_,_,Y6,Zaq⟩:=Y6;obtain⟨_,_,Y7,Jr⟩:=Y7;obtain⟨_,_,J5,ZbR⟩:=J5;obtain⟨_,_,X4,ZaV⟩:=X4;obtain⟨_,_,J1,Zbl⟩:=J1;obtain⟨_,_,J6,ZbS⟩:=J6;obtain⟨_,_,J3,Zbm⟩:=J3;obtain⟨_,_,J4,Zbn⟩:=J4;obtain⟨_,_,X5,Zf8,Zcg⟩:=X5;obtain⟨_,_,X6,Zf9,Zch⟩:=X6;obtain⟨_,_,Z8,ZdL,Zbo⟩:=Z8;obtain⟨_,_,Z3,ZbC,Xu⟩:=Z3;obtain⟨_,_,Z4,ZbD,Xv⟩:=Z4;obtain⟨_,_,Z5,ZbE,Xw⟩:=Z5;obtain⟨_,_,Z0,ZaX,YS⟩:=Z0
 refine⟨PySem.W.fnOf "law" "law" (Zbq Zc6) (Jj Zc6) (Zz Zc6) .none kV_law dc_law pm_law an_law cd_law ct_law,fun s v=> .of_eq rfl,fun base Kb _=> ?_⟩;have o_NoLength:ZcM "NoLength" Zh mg base:=⟨PySem.W.mg_of X G J9,_,_,_,_,_,_,_,_,_,_,_,_,_,_,_,_,_,Kb _ _ xl_NoLength,.of_isNs (PySem.W.isNs_of_in Kb (Za5 xN_NoLength xe_NoLength)),PySem.W.nsMap_none_of_in Kb (Za5 xN_NoLength xe_NoLength) xi_NoLength,.own (Kb _ _ xl_HallError) (.of_isNs (PySem.W.isNs_of_in Kb (Za5 xN_HallError xe_HallError))) (PySem.W.nsMap_none_of_in Kb (Za5 xN_HallError xe_HallError) xi_HallError) .base⟩
 have o_NoTerm:ZcM "NoTerm" Zd mg base:=⟨PySem.W.mg_of X G Z0d,_,_,_,_,_,_,_,_,_,_,_,_,_,_,_,_,_,Kb _ _ xl_NoTerm,.of_isNs (PySem.W.isNs_of_in Kb (Za5 xN_NoTerm xe_NoTerm)),PySem.W.nsMap_none_of_in Kb (Za5 xN_NoTerm xe_NoTerm) xi_NoTerm,.own (Kb _ _ xl_HallError) (.of_isNs (PySem.W.isNs_of_in Kb (Za5 xN_HallError xe_HallError))) (PySem.W.nsMap_none_of_in Kb (Za5 xN_HallError xe_HallError) xi_HallError) .base⟩
 have Xi:Cal l.prog w K mg base CX0 1 "is_made_of" ["text","signs"] Jl:=⟨_,_,PySem.W.mg_of X G Y8,ZaS.kp,ZaS.binds (fun _ _ _ _ _ _=>ZdO fun _ _=>rfl),ZdS ZaS T⟩
 have Zbe:Cal l.prog w K mg base CX0 2 "is_number" ["text"] ZaJ:=⟨_,_,PySem.W.mg_of X G X8,Zbj.kp,Zbj.binds (fun _ _ _ _ _ _=>Jd fun _=>rfl),ZeN Zbj T Xi⟩
 have Jh:Cal l.prog w K mg base CX0 1 "days_of_letter" ["letter"] XQ:=⟨_,_,PySem.W.mg_of X G Z1,Ji.kp,Ji.binds (fun _ _ _ _ _ _=>Jd fun _=>rfl),Zcb Ji T⟩
 have Zaj:Cal l.prog w K mg base (CXr l.prog w) 3 "length_read" ["text"] (JR Zh):=⟨_,_,PySem.W.mg_of X G Y0,Zan.kp,Zan.binds (fun _ _ _ _ _ _=>Jd fun _=>rfl),Zdu Zan T o_NoLength Jh Zbe⟩
 have JZ:Cal l.prog w K mg base CX0 1 "length_shown" ["days"] Jw:=⟨_,_,PySem.W.mg_of X G Z6,Za2.kp,Za2.binds (fun _ _ _ _ _ _=>Jd fun _=>rfl),ZcQ Za2 T⟩
 have Zcw:Cal l.prog w K mg base CX0 2 "is_name" ["text"] ZbM:=⟨_,_,PySem.W.mg_of X G Z02,ZcB.kp,ZcB.binds (fun _ _ _ _ _ _=>Jd fun _=>rfl),Zgc ZcB T Xi⟩
 have ZeQ:ZjH K mg "Never" Zn:=⟨PySem.W.mg_of X G Z0C,Z0H,in_Never,Z0I⟩
 have ZeW:Cal l.prog w K mg base CX0 1 "never" [] (Zdn Zn Zi Zj Zc):=⟨_,_,PySem.W.mg_of X G Z0l,Zf5.kp,Zf5.binds (fun _ _ _ _ _ _=>Zl3 rfl),Zia Zf5 T ZeQ⟩
 have ZeR:Zg2 l.prog w K mg base CX0 1 "After" Zi ["self","kind","days"] (Zag Zi):=⟨_,_,PySem.W.mg_of X G Z0D,⟨Z0L,X5,Zf8,Z0M⟩,Zcg.binds (fun _ _ _ _ _ _=>ZiK fun _ _ _=>rfl),ZdU Zcg T T.cl_After T.n_After_kind T.n_After_days⟩
 have ZeU:Cal l.prog w K mg base CX0 3 "after" ["kind","days"] (Zdo Zn Zi Zj Zc):=⟨_,_,PySem.W.mg_of X G Z0m,Zf6.kp,Zf6.binds (fun _ _ _ _ _ _=>ZdO fun _ _=>rfl),Zic Zf6 T ZeR⟩
 have ZeS:Zg2 l.prog w K mg base CX0 1 "Later" Zj ["self","one","other"] (XR Zj):=⟨_,_,PySem.W.mg_of X G Z0E,⟨Z0P,X6,Zf9,Z0Q⟩,Zch.binds (fun _ _ _ _ _ _=>ZiK fun _ _ _=>rfl),Zcc Zch T T.cl_Later T.n_Later_one T.n_Later_other⟩
 have ZeV:Cal l.prog w K mg base CX0 3 "later" ["one","other"] (Zdp Zn Zi Zj Zc):=⟨_,_,PySem.W.mg_of X G Z0n,Zf7.kp,Zf7.binds (fun _ _ _ _ _ _=>ZdO fun _ _=>rfl),Zie Zf7 T ZeS⟩
 have Zcr:Zg2 l.prog w K mg base CX0 1 "Earlier" Zc ["self","one","other"] (XR Zc):=⟨_,_,PySem.W.mg_of X G Z0e,⟨Z0h,Z8,ZdL,Z0i⟩,Zbo.binds (fun _ _ _ _ _ _=>ZiK fun _ _ _=>rfl),Zcc Zbo T T.cl_Earlier T.n_Earlier_one T.n_Earlier_other⟩
 have Zcx:Cal l.prog w K mg base CX0 3 "earlier" ["one","other"] (ZbN Zn Zi Zj Zc):=⟨_,_,PySem.W.mg_of X G Z03,ZcC.kp,ZcC.binds (fun _ _ _ _ _ _=>ZdO fun _ _=>rfl),Zge ZcC T Zcr⟩
 have Yw:Cal l.prog w K mg base (CXr l.prog w) 1 "word_taken" ["rest"] (Xo Zd):=⟨_,_,PySem.W.mg_of X G Y9,ZaT.kp,ZaT.binds (fun _ _ _ _ _ _=>Jd fun _=>rfl),ZdW ZaT T o_NoTerm⟩
 have ZaP:Cal l.prog w K mg base (CXr l.prog w) 3 "kind_taken" ["rest"] (Zah Zd):=⟨_,_,PySem.W.mg_of X G X3,ZaU.kp,ZaU.binds (fun _ _ _ _ _ _=>Jd fun _=>rfl),ZdX ZaU T o_NoTerm Zcw Yw⟩
 have Za1:Cal l.prog w K mg base (CXr l.prog w) 4 "length_taken" ["rest"] (Jx Zd):=⟨_,_,PySem.W.mg_of X G Z7,Za3.kp,Za3.binds (fun _ _ _ _ _ _=>Jd fun _=>rfl),ZcR Za3 T o_NoTerm Zaj Yw⟩
 have YD:∀n,Cal l.prog w K mg base (CXr l.prog w) (4+n+1) "part_taken" ["rest"] (Xp Zn Zi Zj Zc Zd n):=fun n=>by
  induction n with
  |zero=>exact⟨_,_,PySem.W.mg_of X G Z9,XX.kp,XX.binds (fun _ _ _ _ _ _=>Jd fun _=>rfl),Zbv ZcO⟩
  |succ n ih=>exact⟨_,_,PySem.W.mg_of X G Z9,XX.kp,XX.binds (fun _ _ _ _ _ _=>Jd fun _=>rfl),ZdY XX T n o_NoTerm ZeU Zcx ZaP ZeV Za1 ZeW ih Yw⟩
 have Zbi:Cal l.prog w K mg base (CXr l.prog w) 70 "term_read" ["text"] (ZaK Zn Zi Zj Zc Zd):=⟨_,_,PySem.W.mg_of X G J0,Zbk.kp,Zbk.binds (fun _ _ _ _ _ _=>Jd fun _=>rfl),ZeX Zbk T o_NoTerm (YD 64)⟩
 have Zal:Cal l.prog w K mg base CX0 1 "_law_cell_at" ["_law_script","_law_k"] (JW K):=⟨_,_,PySem.W.mg_of X G Y4,Zao.kp,Zao.binds (fun _ _ _ _ _ _=>ZdO fun _ _=>rfl),Zdx Zao T⟩
 have Zai:Cal l.prog w K mg base CX0 1 "_law_name_by" ["_law_cell","_law_k"] JS:=⟨_,_,PySem.W.mg_of X G Y5,Zap.kp,Zap.binds (fun _ _ _ _ _ _=>ZdO fun _ _=>rfl),Zdv Zap T⟩
 have Jy:Cal l.prog w K mg base CX0 1 "_law_length_by" ["_law_cell"] Jg:=⟨_,_,PySem.W.mg_of X G Z2,Jz.kp,Jz.binds (fun _ _ _ _ _ _=>Jd fun _=>rfl),Zcs Jz T⟩
 have Zam:Cal l.prog w K mg base CX0 2 "_law_tree_by" ["_law_cells","_law_names_by","_law_most"] JV:=⟨_,_,PySem.W.mg_of X G Y6,Zaq.kp,Zaq.binds (fun _ _ _ _ _ _=>ZiK fun _ _ _=>rfl),Zdz Zaq T Jy Zai⟩
 have Xz:∀n,Cal l.prog w K mg base CX0 (0+n+1) "_law_words" ["_law_tree"] (XS n):=fun n=>by
  induction n with
  |zero=>exact⟨_,_,PySem.W.mg_of X G Y7,Jr.kp,Jr.binds (fun _ _ _ _ _ _=>Jd fun _=>rfl),Zbv Zdr⟩
  |succ n ih=>exact⟨_,_,PySem.W.mg_of X G Y7,Jr.kp,Jr.binds (fun _ _ _ _ _ _=>Jd fun _=>rfl),ZeZ Jr T n ih⟩
 have ZbQ:Cal l.prog w K mg base CX0 1 "_law_name" ["_law_text"] Zbc:=⟨_,_,PySem.W.mg_of X G J5,ZbR.kp,ZbR.binds (fun _ _ _ _ _ _=>Jd fun _=>rfl),Zfy ZbR T⟩
 have YM:Cal l.prog w K mg base CX0 1 "_law_length" ["_law_text"] Jm:=⟨_,_,PySem.W.mg_of X G X4,ZaV.kp,ZaV.binds (fun _ _ _ _ _ _=>Jd fun _=>rfl),ZdZ ZaV T⟩
 have Zbh:Cal l.prog w K mg base CX0 2 "_law_right" ["_law_words_here"] ZaM:=⟨_,_,PySem.W.mg_of X G J1,Zbl.kp,Zbl.binds (fun _ _ _ _ _ _=>Jd fun _=>rfl),Zf1 Zbl T YM ZbQ⟩
 have ZaR:Cal l.prog w K mg base CX0 1 "_law_bent" ["_law_words_here","_law_cell"] Zbd:=⟨_,_,PySem.W.mg_of X G J6,ZbS.kp,ZbS.binds (fun _ _ _ _ _ _=>ZdO fun _ _=>rfl),ZfB ZbS T⟩
 have Zbg:Cal l.prog w K mg base CX0 1 "_law_alone" ["_law_kept"] (ZaN Zd):=⟨_,_,PySem.W.mg_of X G J3,Zbm.kp,Zbm.binds (fun _ _ _ _ _ _=>Jd fun _=>rfl),Zf2 Zbm T⟩
 have JD:∀n,ZhJ l.prog w K mg base CX0 (1+n+1) "shown" ["self"] (Xq Zn Zi Zj Zc n) (fun C=>C=Zn\/C=Zi\/C=Zj\/C=Zc):=fun n=>by
  induction n with
  |zero=>
   refine⟨fun C hC=> ?_⟩;rcases hC with hC|hC|hC|hC
   ·cases hC.symm;exact⟨T.cl_Never,_,_,⟨Z3,ZbC,Xu.kp⟩,Xu.binds (fun _ _ _ _ _ _=>Jd fun _=>rfl),Zbv ZaL⟩
   ·cases hC.symm;exact⟨T.cl_After,_,_,⟨Z4,ZbD,Xv.kp⟩,Xv.binds (fun _ _ _ _ _ _=>Jd fun _=>rfl),Zbv ZaL⟩
   ·cases hC.symm;exact⟨T.cl_Later,_,_,⟨Z5,ZbE,Xw.kp⟩,Xw.binds (fun _ _ _ _ _ _=>Jd fun _=>rfl),Zbv ZaL⟩
   ·cases hC.symm;exact⟨T.cl_Earlier,_,_,⟨Z0,ZaX,YS.kp⟩,YS.binds (fun _ _ _ _ _ _=>Jd fun _=>rfl),Zbv ZaL⟩
  |succ n ih=>
   refine⟨fun C hC=> ?_⟩;rcases hC with hC|hC|hC|hC
   ·cases hC.symm;exact⟨T.cl_Never,_,_,⟨Z3,ZbC,Xu.kp⟩,Xu.binds (fun _ _ _ _ _ _=>Jd fun _=>rfl),ZdB Xu T n⟩
   ·cases hC.symm;exact⟨T.cl_After,_,_,⟨Z4,ZbD,Xv.kp⟩,Xv.binds (fun _ _ _ _ _ _=>Jd fun _=>rfl),ZdD Xv T n JZ⟩
   ·cases hC.symm;exact⟨T.cl_Later,_,_,⟨Z5,ZbE,Xw.kp⟩,Xw.binds (fun _ _ _ _ _ _=>Jd fun _=>rfl),ZdF Xw T n ih⟩
   ·cases hC.symm;exact⟨T.cl_Earlier,_,_,⟨Z0,ZaX,YS.kp⟩,YS.binds (fun _ _ _ _ _ _=>Jd fun _=>rfl),Zcv YS T n ih⟩
 have YG:Cal l.prog w K mg base CX0 71 "_law_holds" ["_law_words_here"] ZaO:=⟨_,_,PySem.W.mg_of X G J4,Zbn.kp,Zbn.binds (fun _ _ _ _ _ _=>Jd fun _=>rfl),Zf3 Zbn T Zbg YM Zbh (JD 64) Zbi⟩
 exact Zk0 ZkK T ZaR Zal YG Zam (Xz 64)
end K07
namespace PySem.W.Fast
theorem tw3379966193468302336:0=0:=rfl
theorem tw4290824948465502240:0=0:=rfl
theorem tw15188094409935122592:0=0:=rfl
theorem tw7550904991170694560:0=0:=rfl
theorem tw3175568676872092096:0=0:=rfl
theorem tw10815624749181864512:0=0:=rfl
theorem tw12655227185933289024:0=0:=rfl
theorem tw14290931747352748672:0=0:=rfl
theorem tw10526262127290673824:0=0:=rfl
theorem tw12918873333367685920:0=0:=rfl
theorem tw8966644637618392864:0=0:=rfl
theorem tw10232910794987069216:0=0:=rfl
theorem tw2345532122651305792:0=0:=rfl
theorem tw10604629345966371680:0=0:=rfl
theorem tw10193307024195516320:0=0:=rfl
theorem tw9399904023758912448:0=0:=rfl
theorem tw16159410145362342945:0=0:=rfl
theorem tw10671570469277316161:0=0:=rfl
theorem tw6605839738538476609:0=0:=rfl
theorem tw9308393719220149377:0=0:=rfl
theorem tw7165809489729488161:0=0:=rfl
theorem tw3641393685516502337:0=0:=rfl
theorem tw8210277360835919201:0=0:=rfl
theorem tw7535426942440675713:0=0:=rfl
theorem tw14714189109099162049:0=0:=rfl
theorem tw2153646636744416737:0=0:=rfl
theorem tw9453238206437203425:0=0:=rfl
theorem tw11644282534816013889:0=0:=rfl
theorem tw12368815472666591873:0=0:=rfl
theorem tw16852916056943876801:0=0:=rfl
theorem tw6001769519531695905:0=0:=rfl
theorem tw4946975245244130081:0=0:=rfl
theorem tw2464355386027454241:0=0:=rfl
theorem tw1269062171493913537:0=0:=rfl
theorem tw12022507212669251553:0=0:=rfl
theorem tw8103900104478629890:0=0:=rfl
theorem tw15002797580479311874:0=0:=rfl
theorem tw3674991343999189090:0=0:=rfl
theorem tw11086529590547075234:0=0:=rfl
theorem tw14102452538574676130:0=0:=rfl
theorem tw4417304763697227010:0=0:=rfl
theorem tw192412784854008130:0=0:=rfl
theorem tw495672459702106434:0=0:=rfl
theorem tw1727403638690736482:0=0:=rfl
theorem tw7322777120018122146:0=0:=rfl
theorem tw2001502048783821314:0=0:=rfl
theorem tw1306156272643122754:0=0:=rfl
theorem tw6200720778077896386:0=0:=rfl
theorem tw8748142083671840514:0=0:=rfl
theorem tw5418865212280128418:0=0:=rfl
theorem tw6723493727754535842:0=0:=rfl
theorem tw12120967991419824034:0=0:=rfl
theorem tw7674803855742855074:0=0:=rfl
theorem tw18056903182073062403:0=0:=rfl
theorem tw13995333041701557347:0=0:=rfl
theorem tw12096131398206916835:0=0:=rfl
theorem tw7302567745027321091:0=0:=rfl
theorem tw7030047415673019651:0=0:=rfl
theorem tw10155204078046775619:0=0:=rfl
theorem tw17274239545726129507:0=0:=rfl
theorem tw509148373312970083:0=0:=rfl
theorem tw16989904261162675619:0=0:=rfl
theorem tw8233151481481261635:0=0:=rfl
theorem tw11375766820035945091:0=0:=rfl
theorem tw13109489645487533763:0=0:=rfl
theorem tw17556191450420136643:0=0:=rfl
theorem tw18008092011826046691:0=0:=rfl
theorem tw3015023325080956643:0=0:=rfl
theorem tw10799609646399066979:0=0:=rfl
theorem tw11023468573779181411:0=0:=rfl
theorem tw17122420314252800867:0=0:=rfl
theorem tw4220860219931621219:0=0:=rfl
theorem tw12036943512896493539:0=0:=rfl
theorem tw13181047108501694500:0=0:=rfl
theorem tw14405597586889224228:0=0:=rfl
theorem tw14330795344803771492:0=0:=rfl
theorem tw6439395352947842148:0=0:=rfl
theorem tw7896604483333487780:0=0:=rfl
theorem tw3601970876506189060:0=0:=rfl
theorem tw15675676619459707140:0=0:=rfl
theorem tw5132558411585560868:0=0:=rfl
theorem tw10369466752110925124:0=0:=rfl
theorem tw15019800090689895844:0=0:=rfl
theorem tw7774966184680592836:0=0:=rfl
theorem tw6184938416286581220:0=0:=rfl
theorem tw1594017769094301284:0=0:=rfl
theorem tw1595948768559226532:0=0:=rfl
theorem tw10641428074186521348:0=0:=rfl
theorem tw9180521325302842180:0=0:=rfl
theorem tw12891416443609549636:0=0:=rfl
theorem tw15277922183970292612:0=0:=rfl
theorem tw8269096445321479108:0=0:=rfl
theorem tw10551078000925881284:0=0:=rfl
theorem tw7312362947279886533:0=0:=rfl
theorem tw14048669710004352229:0=0:=rfl
theorem tw14753944250863621413:0=0:=rfl
theorem tw12675230304112474405:0=0:=rfl
theorem tw16287482528237055333:0=0:=rfl
theorem tw4234442240106084709:0=0:=rfl
theorem tw13908170003119493509:0=0:=rfl
theorem tw3933883680054769125:0=0:=rfl
theorem tw3060069778579848741:0=0:=rfl
theorem tw7830789938709404229:0=0:=rfl
theorem tw17044054307570240101:0=0:=rfl
theorem tw17631392097932999269:0=0:=rfl
theorem tw2610930960564096741:0=0:=rfl
theorem tw2217990788806300453:0=0:=rfl
theorem tw17185808000209674021:0=0:=rfl
theorem tw12696709828204028741:0=0:=rfl
theorem tw11756793727379246917:0=0:=rfl
theorem tw12332046014638793573:0=0:=rfl
theorem tw17275216608155832165:0=0:=rfl
theorem tw14368781747784192997:0=0:=rfl
theorem tw3375518694473465926:0=0:=rfl
theorem tw11296102308788949094:0=0:=rfl
theorem tw10990979989985464454:0=0:=rfl
theorem tw4162874697918039174:0=0:=rfl
theorem tw5983360539850856582:0=0:=rfl
theorem tw15005440784689886374:0=0:=rfl
theorem tw11170463473381533862:0=0:=rfl
theorem tw9756661884644443366:0=0:=rfl
theorem tw18057622614334485830:0=0:=rfl
theorem tw1103033625483504966:0=0:=rfl
theorem tw12332893720314274150:0=0:=rfl
theorem tw4870440661315123654:0=0:=rfl
theorem tw16938543881807832582:0=0:=rfl
theorem tw4161321615203664390:0=0:=rfl
theorem tw10607438280174850566:0=0:=rfl
theorem tw15444008458756290182:0=0:=rfl
theorem tw1874560185981245062:0=0:=rfl
theorem tw1910028069581894310:0=0:=rfl
theorem tw3725145570498202342:0=0:=rfl
theorem tw13479842413610900326:0=0:=rfl
theorem tw12477244760730237830:0=0:=rfl
theorem tw13664917571091682246:0=0:=rfl
theorem tw1973279809795909574:0=0:=rfl
theorem tw9472185639360471047:0=0:=rfl
theorem tw4129916031663761447:0=0:=rfl
theorem tw16235505047425307687:0=0:=rfl
theorem tw13707479878397826119:0=0:=rfl
theorem tw13820763811835446375:0=0:=rfl
theorem tw13361786014621430887:0=0:=rfl
theorem tw3762218732301949095:0=0:=rfl
theorem tw6007180244130956487:0=0:=rfl
theorem tw8665156069866677479:0=0:=rfl
theorem tw9289587210216133895:0=0:=rfl
theorem tw6781800006915488135:0=0:=rfl
theorem tw603097754856806791:0=0:=rfl
theorem tw5320149720045323687:0=0:=rfl
theorem tw3836600385519728135:0=0:=rfl
theorem tw6389453289203314215:0=0:=rfl
theorem tw5243185780012056103:0=0:=rfl
theorem tw4662903206926544551:0=0:=rfl
theorem tw7180462032456621799:0=0:=rfl
theorem tw4683254532571923175:0=0:=rfl
theorem tw13561009841766439687:0=0:=rfl
theorem tw14881386969649325831:0=0:=rfl
theorem tw10380533818683803399:0=0:=rfl
theorem tw69521893282265927:0=0:=rfl
theorem tw7414284138687988615:0=0:=rfl
theorem tw2703992390112352135:0=0:=rfl
theorem tw11124722200872191943:0=0:=rfl
theorem tw9382504359089385447:0=0:=rfl
theorem tw10809954421392000040:0=0:=rfl
theorem tw18336729872603147304:0=0:=rfl
theorem tw5612020360645915816:0=0:=rfl
theorem tw4937275043871757512:0=0:=rfl
theorem tw9289374398849283400:0=0:=rfl
theorem tw15300998943239357832:0=0:=rfl
theorem tw13598780468873872808:0=0:=rfl
theorem tw977183837642176008:0=0:=rfl
theorem tw14430071957360295528:0=0:=rfl
theorem tw6742245334891739752:0=0:=rfl
theorem tw15801582495242644232:0=0:=rfl
theorem tw6036261482601942824:0=0:=rfl
theorem tw13682977494439518056:0=0:=rfl
theorem tw7380004597345942472:0=0:=rfl
theorem tw16465994319412130825:0=0:=rfl
theorem tw655369617256237129:0=0:=rfl
theorem tw13777139528689711177:0=0:=rfl
theorem tw5856237577988449545:0=0:=rfl
theorem tw4908816991084468617:0=0:=rfl
theorem tw2473186689682189929:0=0:=rfl
theorem tw8070785880861569641:0=0:=rfl
theorem tw863765241635501801:0=0:=rfl
theorem tw4651898418638443241:0=0:=rfl
theorem tw9369670614134644489:0=0:=rfl
theorem tw9528703724641401641:0=0:=rfl
theorem tw13740587788012079945:0=0:=rfl
theorem tw3124355258322812841:0=0:=rfl
theorem tw12281669034624411593:0=0:=rfl
theorem tw11368866011835034730:0=0:=rfl
theorem tw306503811650008234:0=0:=rfl
theorem tw2143499100380768426:0=0:=rfl
theorem tw12532703302018568394:0=0:=rfl
theorem tw11082186520174605546:0=0:=rfl
theorem tw5974122366748463338:0=0:=rfl
theorem tw13048185270826650890:0=0:=rfl
theorem tw4899759829045654826:0=0:=rfl
theorem tw12978091562974849386:0=0:=rfl
theorem tw6795865948110389642:0=0:=rfl
theorem tw17873941587783576042:0=0:=rfl
theorem tw18091895003577022026:0=0:=rfl
theorem tw2836405196129762922:0=0:=rfl
theorem tw4925345948491522794:0=0:=rfl
theorem tw2719470316291937034:0=0:=rfl
theorem tw3461855070635131658:0=0:=rfl
theorem tw12153966907471581994:0=0:=rfl
theorem tw17752397399433213802:0=0:=rfl
theorem tw3126856727334000522:0=0:=rfl
theorem tw12134847973735346090:0=0:=rfl
theorem tw4606279684487591882:0=0:=rfl
theorem tw8361804374128620490:0=0:=rfl
theorem tw13120134749676973067:0=0:=rfl
theorem tw3464445829264544843:0=0:=rfl
theorem tw5607539258994835595:0=0:=rfl
theorem tw12067730938148754603:0=0:=rfl
theorem tw16220538742436995243:0=0:=rfl
theorem tw1392392249218240715:0=0:=rfl
theorem tw7106273151269927243:0=0:=rfl
theorem tw13067751790663429483:0=0:=rfl
theorem tw7135593218694026667:0=0:=rfl
theorem tw9652826620521361931:0=0:=rfl
theorem tw5004893919102088747:0=0:=rfl
theorem tw1602225966070534763:0=0:=rfl
theorem tw775575522104638091:0=0:=rfl
theorem tw7695042007438604075:0=0:=rfl
theorem tw7917302390132137771:0=0:=rfl
theorem tw14387170617528229707:0=0:=rfl
theorem tw12913381400146859851:0=0:=rfl
theorem tw5332849570101001067:0=0:=rfl
theorem tw197898763088082859:0=0:=rfl
theorem tw13589057301072200651:0=0:=rfl
theorem tw12558829125580401643:0=0:=rfl
theorem tw3924278699746391019:0=0:=rfl
theorem tw17649872996577297420:0=0:=rfl
theorem tw2828608532305806380:0=0:=rfl
theorem tw2944230770560778284:0=0:=rfl
theorem tw9303529535145970796:0=0:=rfl
theorem tw10131396658713233516:0=0:=rfl
theorem tw7516172285797517484:0=0:=rfl
theorem tw9648750477189502220:0=0:=rfl
theorem tw13278140734047631660:0=0:=rfl
theorem tw7562510816654077292:0=0:=rfl
theorem tw6368734701185887628:0=0:=rfl
theorem tw16266213748208256428:0=0:=rfl
theorem tw13428207939767086572:0=0:=rfl
theorem tw10480277784657902124:0=0:=rfl
theorem tw15934160783235518092:0=0:=rfl
theorem tw17689390226303154828:0=0:=rfl
theorem tw4994453859012138732:0=0:=rfl
theorem tw16873901685014782764:0=0:=rfl
theorem tw17026245195367993196:0=0:=rfl
theorem tw5830172728217148268:0=0:=rfl
theorem tw8219910411276394412:0=0:=rfl
theorem tw15546018750854336428:0=0:=rfl
theorem tw8591557667263293420:0=0:=rfl
theorem tw16442529488863339565:0=0:=rfl
theorem tw3265967232539193389:0=0:=rfl
theorem tw2525399015763864685:0=0:=rfl
theorem tw17906597731532525709:0=0:=rfl
theorem tw12282637930170740077:0=0:=rfl
theorem tw15715271681712632237:0=0:=rfl
theorem tw10029631718804874669:0=0:=rfl
theorem tw4175497329157553645:0=0:=rfl
theorem tw1193488251802402509:0=0:=rfl
theorem tw13265842816481429229:0=0:=rfl
theorem tw15077673314105787117:0=0:=rfl
theorem tw8569095158504376077:0=0:=rfl
theorem tw10936702172762426157:0=0:=rfl
theorem tw17929871290840132429:0=0:=rfl
theorem tw13779378909496881037:0=0:=rfl
theorem tw3862044276010655629:0=0:=rfl
theorem tw16906337529948703629:0=0:=rfl
theorem tw10983832668595381165:0=0:=rfl
theorem tw13168262773677995981:0=0:=rfl
theorem tw12749415428893335501:0=0:=rfl
theorem tw17551772664667933806:0=0:=rfl
theorem tw10235146552823901294:0=0:=rfl
theorem tw898827804509909198:0=0:=rfl
theorem tw17737868057411676462:0=0:=rfl
theorem tw13270326301674980750:0=0:=rfl
theorem tw16052108051004015022:0=0:=rfl
theorem tw4169863632103348654:0=0:=rfl
theorem tw12429920394997776942:0=0:=rfl
theorem tw7960072017637997102:0=0:=rfl
theorem tw14615971587943757518:0=0:=rfl
theorem tw1027523449774326510:0=0:=rfl
theorem tw8896082776186668782:0=0:=rfl
theorem tw2530340235481413358:0=0:=rfl
theorem tw2566652408245095246:0=0:=rfl
theorem tw17902793813281911823:0=0:=rfl
theorem tw8792300117667462159:0=0:=rfl
theorem tw9810365421272005839:0=0:=rfl
theorem tw2462387980063001839:0=0:=rfl
theorem tw15098712424152765807:0=0:=rfl
theorem tw13039671226156297647:0=0:=rfl
theorem tw269645946290114031:0=0:=rfl
theorem tw2544561449431745167:0=0:=rfl
theorem tw11287522063133054639:0=0:=rfl
theorem tw13628516809699319535:0=0:=rfl
theorem tw18157569584220016399:0=0:=rfl
theorem tw11425159206992341935:0=0:=rfl
theorem tw16174174567979100111:0=0:=rfl
theorem tw15155846828650879983:0=0:=rfl
theorem tw14691346558190705680:0=0:=rfl
theorem tw4814423510464405552:0=0:=rfl
theorem tw5097411048726962256:0=0:=rfl
theorem tw964246760329825360:0=0:=rfl
theorem tw8964341093702420624:0=0:=rfl
theorem tw14508364397532763280:0=0:=rfl
theorem tw2039567691654040752:0=0:=rfl
theorem tw10022682725916106992:0=0:=rfl
theorem tw12090136779018997008:0=0:=rfl
theorem tw10691091704342620464:0=0:=rfl
theorem tw9580839098729463120:0=0:=rfl
theorem tw14900082663966890352:0=0:=rfl
theorem tw15901368920432624016:0=0:=rfl
theorem tw18324289335824614832:0=0:=rfl
theorem tw18252971521310602672:0=0:=rfl
theorem tw2712839719714490896:0=0:=rfl
theorem tw4963902948469239344:0=0:=rfl
theorem tw8826772695666169456:0=0:=rfl
theorem tw14435502505131697808:0=0:=rfl
theorem tw818019453288274640:0=0:=rfl
theorem tw17558239527583755216:0=0:=rfl
theorem tw3053764833341072336:0=0:=rfl
theorem tw15864674865002159185:0=0:=rfl
theorem tw8421305557942450353:0=0:=rfl
theorem tw13610841627545608401:0=0:=rfl
theorem tw15176327349595203793:0=0:=rfl
theorem tw1609529732981809393:0=0:=rfl
theorem tw5938900152156439857:0=0:=rfl
theorem tw7588187210703790385:0=0:=rfl
theorem tw5030210357006296401:0=0:=rfl
theorem tw15657791798217056625:0=0:=rfl
theorem tw1790954119221664113:0=0:=rfl
theorem tw9152683189377334673:0=0:=rfl
theorem tw17980891865011066321:0=0:=rfl
theorem tw14390687407797441009:0=0:=rfl
theorem tw5370335913898341873:0=0:=rfl
theorem tw3573753886825559601:0=0:=rfl
theorem tw17359176089083398737:0=0:=rfl
theorem tw347291471292660369:0=0:=rfl
theorem tw17861517857875585713:0=0:=rfl
theorem tw10352469034149710609:0=0:=rfl
theorem tw12965536768888577905:0=0:=rfl
theorem tw18242098263991723985:0=0:=rfl
theorem tw7094600494510356465:0=0:=rfl
theorem tw2931301080546667538:0=0:=rfl
theorem tw762222938530688146:0=0:=rfl
theorem tw10654094248916828306:0=0:=rfl
theorem tw16365662263566988434:0=0:=rfl
theorem tw6289210430819076306:0=0:=rfl
theorem tw8899704720302279890:0=0:=rfl
theorem tw11737400093774298354:0=0:=rfl
theorem tw2288023970278721906:0=0:=rfl
theorem tw17931563453280869746:0=0:=rfl
theorem tw16636820854916865394:0=0:=rfl
theorem tw15970161167481680306:0=0:=rfl
theorem tw17895705974613304754:0=0:=rfl
theorem tw295753258221979058:0=0:=rfl
theorem tw2802182611790862834:0=0:=rfl
theorem tw11036204911848410610:0=0:=rfl
theorem tw18090316800404705778:0=0:=rfl
theorem tw6125622627963455026:0=0:=rfl
theorem tw15970941520219391570:0=0:=rfl
theorem tw3199105285837655634:0=0:=rfl
theorem tw14860706744922476146:0=0:=rfl
theorem tw18350709251544111762:0=0:=rfl
theorem tw17303878448635903698:0=0:=rfl
theorem tw6602589448343313106:0=0:=rfl
theorem tw1427283952595658482:0=0:=rfl
theorem tw10495706616295743218:0=0:=rfl
theorem tw13641767037484007154:0=0:=rfl
theorem tw9427416378955385650:0=0:=rfl
theorem tw14193342198260994898:0=0:=rfl
theorem tw12656981981942543186:0=0:=rfl
theorem tw2066121958027400050:0=0:=rfl
theorem tw18223792999441103762:0=0:=rfl
theorem tw9604759080163259443:0=0:=rfl
theorem tw14593938201741742195:0=0:=rfl
theorem tw17997665251352024275:0=0:=rfl
theorem tw8170596846779485427:0=0:=rfl
theorem tw14151648714693250323:0=0:=rfl
theorem tw13998788576252172595:0=0:=rfl
theorem tw17564335920286129459:0=0:=rfl
theorem tw11362966841187161491:0=0:=rfl
theorem tw2145428626907428275:0=0:=rfl
theorem tw15544548676484200947:0=0:=rfl
theorem tw14624596290494305811:0=0:=rfl
theorem tw5828134681006885459:0=0:=rfl
theorem tw10998511867417750163:0=0:=rfl
theorem tw15908250911595489971:0=0:=rfl
theorem tw9976656293076725491:0=0:=rfl
theorem tw2913344740224700179:0=0:=rfl
theorem tw11652065162389642067:0=0:=rfl
theorem tw7212315872160065395:0=0:=rfl
theorem tw3527427092368747507:0=0:=rfl
theorem tw15602993442066884628:0=0:=rfl
theorem tw5970920174931260500:0=0:=rfl
theorem tw14792264827001488500:0=0:=rfl
theorem tw7218785671744901268:0=0:=rfl
theorem tw16438482634282892468:0=0:=rfl
theorem tw2470319357309386036:0=0:=rfl
theorem tw5027034844027149748:0=0:=rfl
theorem tw4030296664549093812:0=0:=rfl
theorem tw1713034400886979124:0=0:=rfl
theorem tw1134548736897288788:0=0:=rfl
theorem tw7489967311562356340:0=0:=rfl
theorem tw13813967213595235988:0=0:=rfl
theorem tw12245723382568793940:0=0:=rfl
theorem tw5013781308151136148:0=0:=rfl
theorem tw13870962576166460404:0=0:=rfl
theorem tw16596378904160040981:0=0:=rfl
theorem tw10800306242762607701:0=0:=rfl
theorem tw13923201844269527125:0=0:=rfl
theorem tw11655545211394116693:0=0:=rfl
theorem tw4850050546216503509:0=0:=rfl
theorem tw1154577444215239893:0=0:=rfl
theorem tw5453819412856650965:0=0:=rfl
theorem tw15283326395546596597:0=0:=rfl
theorem tw8131943389447997877:0=0:=rfl
theorem tw7625528746887000565:0=0:=rfl
theorem tw10837433765802665461:0=0:=rfl
theorem tw8742781616992154101:0=0:=rfl
theorem tw8420626143969771093:0=0:=rfl
theorem tw17230597170097131157:0=0:=rfl
theorem tw879640960245226197:0=0:=rfl
theorem tw9208112782261568341:0=0:=rfl
theorem tw2914572688648365909:0=0:=rfl
theorem tw10840602622746967925:0=0:=rfl
theorem tw9863283166428503029:0=0:=rfl
theorem tw6828079497540201622:0=0:=rfl
theorem tw13658764673470679318:0=0:=rfl
theorem tw18328609745695340950:0=0:=rfl
theorem tw3983582791020675478:0=0:=rfl
theorem tw2314129633404698070:0=0:=rfl
theorem tw11022045254287512150:0=0:=rfl
theorem tw527936857635612406:0=0:=rfl
theorem tw2029454573207623542:0=0:=rfl
theorem tw9912958359002619798:0=0:=rfl
theorem tw16653876425933136790:0=0:=rfl
theorem tw3629476543987610550:0=0:=rfl
theorem tw6475986354921206774:0=0:=rfl
theorem tw18156156290462766167:0=0:=rfl
theorem tw17189689860949080183:0=0:=rfl
theorem tw18245988110686145655:0=0:=rfl
theorem tw297363128189810807:0=0:=rfl
theorem tw7407056607488084151:0=0:=rfl
theorem tw15296105169973517527:0=0:=rfl
theorem tw7489852305604143351:0=0:=rfl
theorem tw1310027407208164791:0=0:=rfl
theorem tw5885369486958244279:0=0:=rfl
theorem tw14907608413822607799:0=0:=rfl
theorem tw2303328690430255607:0=0:=rfl
theorem tw15894152318346674711:0=0:=rfl
theorem tw11513972812248614423:0=0:=rfl
theorem tw7073116953665056311:0=0:=rfl
theorem tw5553370858996007703:0=0:=rfl
theorem tw5860203094058728247:0=0:=rfl
theorem tw9396668245908915031:0=0:=rfl
theorem tw5682116857586978647:0=0:=rfl
theorem tw5910196673888403287:0=0:=rfl
theorem tw2240669050390188983:0=0:=rfl
theorem tw7847327426874406871:0=0:=rfl
theorem tw474049576298630103:0=0:=rfl
theorem tw1880469159522836568:0=0:=rfl
theorem tw4048096377604537528:0=0:=rfl
theorem tw1707120656472842488:0=0:=rfl
theorem tw5602379797659668856:0=0:=rfl
theorem tw11315832245594343896:0=0:=rfl
theorem tw7743830246584501816:0=0:=rfl
theorem tw18051445130363589400:0=0:=rfl
theorem tw17393031151659982648:0=0:=rfl
theorem tw12322419506897391480:0=0:=rfl
theorem tw1464184902445838296:0=0:=rfl
theorem tw7721180867905011672:0=0:=rfl
theorem tw14172742656640099320:0=0:=rfl
theorem tw13388285530366931129:0=0:=rfl
theorem tw16404592092583296185:0=0:=rfl
theorem tw12207407872086864121:0=0:=rfl
theorem tw13220384971900547417:0=0:=rfl
theorem tw14606303931612022105:0=0:=rfl
theorem tw5121589674821993881:0=0:=rfl
theorem tw9860727938068315545:0=0:=rfl
theorem tw12963449748021654937:0=0:=rfl
theorem tw10130265592498346425:0=0:=rfl
theorem tw12990332842667164121:0=0:=rfl
theorem tw11043383408950212121:0=0:=rfl
theorem tw894500055180375609:0=0:=rfl
theorem tw13482491353032781433:0=0:=rfl
theorem tw7309295619087704697:0=0:=rfl
theorem tw8105069483160544057:0=0:=rfl
theorem tw12833406770407948153:0=0:=rfl
theorem tw14902298712438919065:0=0:=rfl
theorem tw7648317472691633113:0=0:=rfl
theorem tw13702535214028729370:0=0:=rfl
theorem tw28955604291047482:0=0:=rfl
theorem tw11742476676008536186:0=0:=rfl
theorem tw9476113284951393434:0=0:=rfl
theorem tw3723188105737470106:0=0:=rfl
theorem tw5623180440763637978:0=0:=rfl
theorem tw10876486998053423354:0=0:=rfl
theorem tw9389415087155626394:0=0:=rfl
theorem tw9441448449402468762:0=0:=rfl
theorem tw9350022531176343994:0=0:=rfl
theorem tw2984258062721905146:0=0:=rfl
theorem tw6293891643003683354:0=0:=rfl
theorem tw9891715436281299482:0=0:=rfl
theorem tw12014358884174725690:0=0:=rfl
theorem tw5410899351853202074:0=0:=rfl
theorem tw198921683529714458:0=0:=rfl
theorem tw13088755881111564122:0=0:=rfl
theorem tw6349161926107804602:0=0:=rfl
theorem tw815672048547918778:0=0:=rfl
theorem tw4897703234497514426:0=0:=rfl
theorem tw1196326158384596954:0=0:=rfl
theorem tw4364066036837232602:0=0:=rfl
theorem tw11353665466751171578:0=0:=rfl
theorem tw10408424829696666715:0=0:=rfl
theorem tw10808549669170974843:0=0:=rfl
theorem tw15904999204781106331:0=0:=rfl
theorem tw15240405017267863739:0=0:=rfl
theorem tw11098380750105375995:0=0:=rfl
theorem tw8494220383000169819:0=0:=rfl
theorem tw2453505045415620955:0=0:=rfl
theorem tw4153980462951713243:0=0:=rfl
theorem tw9804130306553878011:0=0:=rfl
theorem tw13600871136411360763:0=0:=rfl
theorem tw3253850214804330011:0=0:=rfl
theorem tw16445435449972021851:0=0:=rfl
theorem tw4921154126416325275:0=0:=rfl
theorem tw5046939267566676667:0=0:=rfl
theorem tw6395007185390384827:0=0:=rfl
theorem tw10651516898423759611:0=0:=rfl
theorem tw5983058821260309243:0=0:=rfl
theorem tw9827047349786431355:0=0:=rfl
theorem tw7906434996937289659:0=0:=rfl
theorem tw5004810089142868955:0=0:=rfl
theorem tw2918769460408305659:0=0:=rfl
theorem tw7371472640878995451:0=0:=rfl
theorem tw12910040390235499676:0=0:=rfl
theorem tw17848761267369553052:0=0:=rfl
theorem tw6039814466702917884:0=0:=rfl
theorem tw10324312711162192188:0=0:=rfl
theorem tw5694815460083905884:0=0:=rfl
theorem tw4543599671685089660:0=0:=rfl
theorem tw2289089956210820476:0=0:=rfl
theorem tw8896513735759274396:0=0:=rfl
theorem tw17047371570943860124:0=0:=rfl
theorem tw6153454002406140412:0=0:=rfl
theorem tw11795463113894807068:0=0:=rfl
theorem tw2604361799980337788:0=0:=rfl
theorem tw13465832462304967356:0=0:=rfl
theorem tw4806309656133656348:0=0:=rfl
theorem tw6707455281478378300:0=0:=rfl
theorem tw1259172821764274012:0=0:=rfl
theorem tw6698432491579565980:0=0:=rfl
theorem tw5043391024456329148:0=0:=rfl
theorem tw15131301775731202012:0=0:=rfl
theorem tw6071301605683102684:0=0:=rfl
theorem tw16711446347491052573:0=0:=rfl
theorem tw5280763961662684221:0=0:=rfl
theorem tw383486728758558013:0=0:=rfl
theorem tw8597096440218437949:0=0:=rfl
theorem tw6363492888553137565:0=0:=rfl
theorem tw13222851610398767709:0=0:=rfl
theorem tw1648791301493684861:0=0:=rfl
theorem tw9783424663028813469:0=0:=rfl
theorem tw5244194140230396701:0=0:=rfl
theorem tw13603082457614696253:0=0:=rfl
theorem tw17193571719324304189:0=0:=rfl
theorem tw8180374062057110654:0=0:=rfl
theorem tw6039942246933105822:0=0:=rfl
theorem tw10546848997473528062:0=0:=rfl
theorem tw1875112414044535102:0=0:=rfl
theorem tw3750301338620290526:0=0:=rfl
theorem tw4168109776916917790:0=0:=rfl
theorem tw5767763728846425694:0=0:=rfl
theorem tw16009544461469021822:0=0:=rfl
theorem tw8887782627924763262:0=0:=rfl
theorem tw14610693642298917534:0=0:=rfl
theorem tw8941267277188774590:0=0:=rfl
theorem tw18332268819306550046:0=0:=rfl
theorem tw1912322941487487838:0=0:=rfl
theorem tw14008669853770471326:0=0:=rfl
theorem tw432577713924149214:0=0:=rfl
theorem tw8109657413717073983:0=0:=rfl
theorem tw12560447546467303487:0=0:=rfl
theorem tw8593708701577483391:0=0:=rfl
theorem tw12348891787508343999:0=0:=rfl
theorem tw18197031086878754079:0=0:=rfl
theorem tw10015179312394911135:0=0:=rfl
theorem tw10508679609969689023:0=0:=rfl
theorem tw14367677652890054111:0=0:=rfl
theorem tw13199374712272563775:0=0:=rfl
theorem tw17504274574639478335:0=0:=rfl
theorem tw7774661941346973311:0=0:=rfl
theorem tw7093464279609211551:0=0:=rfl
theorem tw330656416628407967:0=0:=rfl
theorem tw4956116556689092287:0=0:=rfl
theorem tw1603041686808789791:0=0:=rfl
theorem tw7006910199618238271:0=0:=rfl
theorem tw2009841752974468031:0=0:=rfl
theorem tw13401060439708723199:0=0:=rfl
theorem tw5952529705431531601:0=0:=rfl
end PySem.W.Fast
open PySem PySem.W PyProof.Rows
set_option maxRecDepth 100000 in
set_option maxHeartbeats 0 in
theorem PySem.Challenge.cw_disposehall_k07_no_terms_holds : PySem.Challenge.rw_disposehall_k07_no_terms.Holds := by
 w_on;o_law;k_head;(case hw=>w_witness2)
 k_fill
 refine L3.Zkp (l:=PySem.Challenge.rw_disposehall_k07_no_terms) (k:=72) (x:="_law_script") rfl rfl ⟨rfl,by decide,by decide⟩ (fun w h Y=>PySem.W.kIn_of Y) ?F
 case F=>
  intro w mg fa h KX G hmg;refine' K07.all_mk KX G hmg ?Y8 ?X8 ?Z1 ?Y0 ?Z6 ?Z02 ?Z0l ?Z0m ?Z0n ?Z03 ?J0 ?Y9 ?Z9 ?X3 ?Z7 ?Y4 ?Y5 ?Z2 ?Y6 ?Y7 ?J5 ?X4 ?J1 ?J6 ?J3 ?J4 ?Z0T ?l_law ?cd_law2 ?k_law ?Z0C ?Z0D ?Z0E ?Z0e ?Z04 ?Z0F ?J9 ?Z0d ?Z0f ?Z0A ?Z0b ?Z05 ?Z0c ?Z0g ?Z0B ?Z0G ?Z0o ?Z0p ?Z0q ?Z0r ?Z0H ?Z0I ?in_Never ?Z0J ?Z0K ?Z0s ?Z0t ?Z0u ?Z0v ?Z0L ?Z0M ?X5 ?Z00 ?Z01 ?Z0N ?Z0O ?Z0w ?Z0x ?Z0y ?Z0z ?Z0P ?Z0Q ?X6 ?Z06 ?J7 ?Z0R ?Z0S ?Z07 ?Z08 ?Z09 ?Z0a ?Z0h ?Z0i ?Z8 ?J8 ?X7 ?Z0j ?Z0k ?hn ?htk ?Z3 ?Z4 ?Z5 ?Z0 ?g_YEAR_DAYS ?g_MONTH_DAYS ?g_MOST_FIGURES ?g_MOST_LETTERS ?g_FIGURES ?e_FIGURES ?g_LETTERS ?e_LETTERS ?g_MOST_WORDS ?xl_NoLength ?xN_NoLength ?xe_NoLength ?xi_NoLength ?xl_NoTerm ?xN_NoTerm ?xe_NoTerm ?xi_NoTerm ?xl_HallError ?xN_HallError ?xe_HallError ?xi_HallError ?xk_NoLength ?xg_NoLength ?xh_NoLength ?xs_NoLength ?xo_NoLength ?xb_NoLength ?xk_NoTerm ?xg_NoTerm ?xh_NoTerm ?xs_NoTerm ?xo_NoTerm ?xb_NoTerm ?f_xm_n ?f_xm_t ?f_i_t_ve ?f_i_t_HallError ?f_i_t_NoDay ?f_i_t_NoLength ?f_i_t_NoTerm ?f_i_t_TooWide ?f_i_t_NoBook ?f_i_t_PutTwice ?f_i_t_HeldTwice ?f_i_t_NoSeries ?f_i_t_RunBack ?f_i_t_Unlike ?f_i_t_NoRow ?z_ValueError ?z_abs ?z_all ?z_int ?z_isinstance ?z_len ?z_list ?z_range ?z_reversed ?z_str ?kib ?kii ?kll ?ktt ?kss ?ne_Never_After ?ne_Never_Later ?ne_Never_Earlier ?ne_After_Later ?ne_After_Earlier ?ne_Later_Earlier
  (case Z0T|Z0C|Z0D|Z0E|Z0e|Z04|Z0F|J9|Z0d|Z0f|Z0A|Z0b|Z05|Z0c|Z0g|Z0B|Z0G=>k_is)
  (case xl_NoLength|xl_NoTerm|xl_HallError=>k_is)
  (case xN_NoLength|xN_NoTerm|xN_HallError=>k_is)
  (case Y8|X8|Z1|Y0|Z6|Z02|Z0l|Z0m|Z0n|Z03|J0|Y9|Z9|X3|Z7|Y4|Y5|Z2|Y6|Y7|J5|X4|J1|J6|J3|J4=>exact⟨_,_,by k_is,L2.ZfQ (by k_is) (by k_is) (by k_is)⟩)
  (case l_law|cd_law2|k_law|Z0o|Z0p|Z0q|Z0r|Z0H|Z0I|in_Never|Z0J|Z0K|Z0s|Z0t|Z0u|Z0v|Z0L|Z0M|Z00|Z01|Z0N|Z0O|Z0w|Z0x|Z0y|Z0z|Z0P|Z0Q|Z06|J7|Z0R|Z0S|Z07|Z08|Z09|Z0a|Z0h|Z0i|J8|X7|Z0j|Z0k|hn|htk|g_YEAR_DAYS|g_MONTH_DAYS|g_MOST_FIGURES|g_MOST_LETTERS|g_FIGURES|g_LETTERS|g_MOST_WORDS|xi_NoLength|xi_NoTerm|xi_HallError|xg_NoLength|xh_NoLength|xs_NoLength|xo_NoLength|xb_NoLength|xg_NoTerm|xh_NoTerm|xs_NoTerm|xo_NoTerm|xb_NoTerm|z_ValueError|z_abs|z_all|z_int|z_isinstance|z_len|z_list|z_range|z_reversed|z_str=>k_is)
  (case X5|X6|Z8|Z3|Z4|Z5|Z0=>exact⟨_,_,by k_is,by k_is,L2.ZfQ (by k_is) (by k_is) (by k_is)⟩)
  (case e_FIGURES|e_LETTERS=>first|rfl|decide+kernel)
  (case xe_NoLength|xe_NoTerm|xe_HallError|xk_NoLength|xk_NoTerm|f_xm_n|f_xm_t|f_i_t_ve|f_i_t_HallError|f_i_t_NoDay|f_i_t_NoLength|f_i_t_NoTerm|f_i_t_TooWide|f_i_t_NoBook|f_i_t_PutTwice|f_i_t_HeldTwice|f_i_t_NoSeries|f_i_t_RunBack|f_i_t_Unlike|f_i_t_NoRow|kib|kii|kll|ktt|kss=>first|rfl|decide+kernel|k_is)
  (case ne_Never_After|ne_Never_Later|ne_Never_Earlier|ne_After_Later|ne_After_Earlier|ne_Later_Earlier=>decide)
