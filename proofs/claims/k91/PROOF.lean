import PyProof.Rows.All
import Wide.All
import OpenK.AllK
import Wide.FinOn
import Lean
import PyProof.EqAt
import PyProof.EqKinds
import PyProof.TupleCall
import PySem.Challenge.RW_disposehall_k91_whole_any_order_between
set_option Elab.async false
set_option linter.all false
set_option maxRecDepth 100000
namespace L2
open PySem PySem.Spec PyProof.Rows
abbrev Key:=Sum Int Str
def ZgW:Key->Value->Bool
 | .inl k,v=>Value.isInt k v
 | .inr x,v=>Value.isStrOf x v
def Zsv(w:World):Key->Int
 | .inl k=>hashInt k
 | .inr x=>hashStr w x
theorem Xj:∀{k:Key} {v:Value},ZgW k v=true->(∃i t,k=Sum.inl i/\v=Value.int i t)\/(∃x t,k=Sum.inr x/\v=Value.str x t)
 | .inl i,v,h=>by
  obtain⟨t,e⟩:=Value.isInt_shape (k:=i) (v:=v) h;exact .inl ⟨i,t,rfl,e⟩
 | .inr x,v,h=>by
  obtain⟨t,e⟩:=Value.isStrOf_shape (x:=x) (v:=v) h;exact .inr ⟨x,t,rfl,e⟩
theorem ZmO(i:Int)(t:Tok):ZgW (.inl i) (.int i t)=true:=by simp[ZgW,Value.isInt]
theorem ZmP(x:Str)(t:Tok):ZgW (.inr x) (.str x t)=true:=by simp[ZgW,Value.isStrOf]
theorem ZqN(a b:Int):decide ((Sum.inl a:Key)=Sum.inl b)=(a==b):=by
 by_cases e:a=b
 ·subst e;simp
 ·have h:¬(Sum.inl a:Key)=Sum.inl b:=fun q=>e (Sum.inl.inj q);rw[decide_eq_false h];exact(beq_eq_false_iff_ne.mpr e).symm
theorem ZnE(a b:Str):decide ((Sum.inr a:Key)=Sum.inr b)=decide (a=b):=by
 by_cases e:a=b
 ·subst e;simp
 ·have h:¬(Sum.inr a:Key)=Sum.inr b:=fun q=>e (Sum.inr.inj q);rw[decide_eq_false h,decide_eq_false e]
theorem ZqO(a:Int)(b:Str):decide ((Sum.inl a:Key)=Sum.inr b)=false:=decide_eq_false (fun q=>nomatch q)
theorem ZqP(a:Str)(b:Int):decide ((Sum.inr a:Key)=Sum.inl b)=false:=decide_eq_false (fun q=>nomatch q)
def Xe(prog:Program)(w:World):PySem.KeyKind prog w Key where
 is:=ZgW
 hash:=Zsv w
 inj:=fun v a b ha hb=>by
  rcases Xj ha with ⟨i,t,rfl,rfl⟩|⟨x,t,rfl,rfl⟩
  ·rcases Xj hb with ⟨j,u,rfl,e⟩|⟨y,u,rfl,e⟩
   ·injection e with e1 _;rw[e1]
   ·exact nomatch e
  ·rcases Xj hb with ⟨j,u,rfl,e⟩|⟨y,u,rfl,e⟩
   ·exact nomatch e
   ·injection e with e1 _;rw[e1]
 byValue:=fun k v h=>by
  rcases Xj h with ⟨i,t,rfl,rfl⟩|⟨x,t,rfl,rfl⟩<;>rfl
 pyHash:=fun hv h=>by
  rcases Xj hv with ⟨i,t,rfl,rfl⟩|⟨x,t,rfl,rfl⟩
  ·exact wpAny_pyHash_int h
  ·exact wpAny_pyHash_str h
 eqBool:=fun hu hv h=>by
  rcases Xj hu with ⟨i,t,rfl,rfl⟩|⟨x,t,rfl,rfl⟩
  ·rcases Xj hv with ⟨j,u,rfl,rfl⟩|⟨y,u,rfl,rfl⟩
   ·rw[ZqN] at h;exact wpAny_eqBool_int h
   ·rw[ZqO] at h;exact SeqAt.EqAt.int_str i t y u _ _ _ _ h
  ·rcases Xj hv with ⟨j,u,rfl,rfl⟩|⟨y,u,rfl,rfl⟩
   ·rw[ZqP] at h;exact SeqAt.EqAt.str_int x t j u _ _ _ _ h
   ·rw[ZnE] at h;exact wpAny_eqBool_str h
 «strs»:=fun k x t v h=>by
  rcases Xj h with ⟨i,u,rfl,e⟩|⟨y,u,rfl,e⟩
  ·exact nomatch e
  ·injection e with e1 _
   subst e1;cases v<;>rfl
theorem Zkh(prog:Program)(w:World)(i:Int)(t:Tok):(Xe prog w).is (.inl i) (.int i t)=true:=ZmO i t
theorem Zki(prog:Program)(w:World)(x:Str)(t:Tok):(Xe prog w).is (.inr x) (.str x t)=true:=ZmP x t
end L2
namespace L2
open PySem PySem.Spec PyProof.Rows
inductive V where
 |non|bl (b:Bool)|int (i:Int)|str (x:Str)|byt (b:Array UInt8)|flt (b:UInt64)|ref (a:Addr)|ty (n:String)
 deriving DecidableEq
def ZV:V->Value->Prop
 | .non,u=>u=Value.none
 | .bl b,u=>u=Value.bool b
 | .int i,u=>∃t,u=Value.int i t
 | .str x,u=>∃t,u=Value.str x t
 | .byt b,u=>∃t,u=Value.bytes b t
 | .flt b,u=>∃t,u=Value.float b t
 | .ref a,u=>u=Value.ref a
 | .ty n,u=>u=Value.type n
abbrev Yb:List V->List Value->Prop:=Paired ZV
theorem Yb.length{xs:List V}{us:List Value}(r:Yb xs us):xs.length=us.length:=Paired.length r
theorem Yb.get:∀{xs:List V} {us:List Value} {i:Nat} {x:V},Yb xs us->xs[i]? =some x->∃u,us[i]? =some u/\ZV x u
 |_,_,_,_,.nil,e=>by simp at e
 |_,_,0,_,.cons r _,e=>by simp at e;subst e;exact⟨_,rfl,r⟩
 |_,_,i+1,x,.cons _ t,e=>by
  obtain⟨u,h1,h2⟩:=Yb.get (i:=i) (x:=x) t (by simpa using e);exact⟨u,by simpa using h1,h2⟩
theorem Yb.append:∀{xs ys:List V} {us ws:List Value},Yb xs us->Yb ys ws->Yb (xs++ys) (us++ws)
 |_,_,_,_,.nil,s=>s
 |_,_,_,_,.cons r t,s=> .cons r (Yb.append t s)
theorem Yb.take:∀{xs:List V} {us:List Value} (n:Nat),Yb xs us->Yb (xs.take n) (us.take n)
 |_,_,0,_=> .nil
 |_,_,_+1,.nil=> .nil
 |_,_,n+1,.cons r t=> .cons r (Yb.take n t)
theorem Yb.drop:∀{xs:List V} {us:List Value} (n:Nat),Yb xs us->Yb (xs.drop n) (us.drop n)
 |_,_,0,r=>r
 |_,_,_+1,.nil=> .nil
 |_,_,n+1,.cons _ t=>Yb.drop n t
def ZcG:Option V->Option Value->Prop
 |some v,some u=>ZV v u
 |none,none=>True
 |_,_=>False
def KV{κ:Type}:List (κ×V)->List (κ×Value)->Prop:=Paired fun(p:κ×V) (q:κ×Value)=>p.1=q.1/\ZV p.2 q.2
def kV:Key->V
 | .inl i=> .int i
 | .inr x=> .str x
inductive HO where
 |lst (xs:List V)
 |tup (xs:List V)
 |dK (kvs:List (Key×V))|dT (kvs:List (List Key×V))
 |set (S:Int->Bool) (n:Nat)
 |ins (C dx:Addr) (fs:List (Str×V))
 |own (x:Addr)
 |xd (fs:List (Str×V))
 |met (f x:Addr)
 |rng (lo hi:Int)
 |frz (o:Obj) (u:HO)
 |tbl (ps:Array Value)
 |ext (φ:Heap->Prop)
abbrev Hp:=Addr->Option HO
def upd(H:Hp)(a:Addr)(o:HO):Hp:=fun b=>if b=a then some o else H b
theorem Zc{H:Hp}{a:Addr}{o:HO}:upd H a o a=some o:=by unfold upd;rw[if_pos rfl]
theorem Zm{H:Hp}{a b:Addr}{o:HO}(h:b≠a):upd H a o b=H b:=by unfold upd;rw[if_neg h]
theorem ZeT{H:Hp}{a:Addr}{o u:HO}:upd (upd H a o) a u=upd H a u:=by
 funext b;unfold upd;split<;>rfl
theorem Yi{H:Hp}{a b:Addr}{o u:HO}(h:H a=some o)(h':H b=some u)(d:o≠u):a≠b:=by
 intro e;subst e;rw[h] at h';exact d (Option.some.inj h')
theorem Zf{H:Hp}{a b:Addr}{o:HO}(h:H a=some o)(h':H b=none):a≠b:=by
 intro e;subst e;rw[h] at h';cases h'
section
variable (P:Program) (w:World)
def XM(H:Hp)(h:Heap)(a:Addr):HO->Prop
 | .lst xs=>xs.length<=sizeLine/\∃(its:List Value) (n:Nat),Yb xs its/\h.get? a=some {cls:=.type "list",data:=.seq its.toArray n}
 | .tup xs=>xs.length<=sizeLine/\∃its:List Value,Yb xs its/\IsTup h a its.toArray
 | .dK kvs=>kvs.length<=sizeLine/\(a==sysModules)=false/\∃vs,KV kvs vs/\h.DictOf (Xe P w) a vs
 | .dT kvs=>kvs.length<=sizeLine/\(a==sysModules)=false/\∃xs:List (List Key×Addr×Value),
   Paired (fun(p:List Key×V) (q:List Key×Addr×Value)=>p.1=q.1/\H q.2.1=some (.tup (p.1.map kV))/\ZV p.2 q.2.2) kvs xs/\
   ∃o es ep,h.get? a=some o/\o.ExactDict/\o.data=.dict es ep/\es.toList=xs.map (entryOfKey (tupleKind (Xe P w)))/\(xs.map (·.1)).Nodup
 | .set S n=>h.SetOf (intKind P w) a S n
 | .ins C dx fs=>H dx=some (.own a)/\fs.length<=1000/\dx≠a/\h.get? a=some (PySem.W.instObj C dx)/\
   ∃mA,h.Ns1 dx mA/\(∀f,ZcG (fs.lookup f) (mA f))/\PySem.Within mA (fs.map (·.1))
 | .own _=>∃o,h.get? a=some o
 | .xd fs=>∃mA,h.Ns1 a mA/\∀f,ZcG (fs.lookup f) (mA f)
 | .rng lo hi=>∃t u v,h.get? a=some {cls:=.type "range",data:=.fields #[.int lo t,.int hi u,.int 1 v]}
 | .frz o u=>h.get? a=some o/\XM H h a u
 | .tbl ps=>h.get? a=some {cls:=.none,data:=.fields ps}
 | .met f x=>h.get? a=some (PySem.W.methodObj (.ref f) (.ref x))
 | .ext φ=>φ h/\(∃o,h.get? a=some o)/\∀h1 h2:Heap,φ h1->(∀o,h1.get? a=some o->h2.get? a=some o)->φ h2
def HOk(H:Hp)(h:Heap):Prop:=∀a o,H a=some o->XM P w H h a o
end
section
variable {P:Program} {w:World} {H H':Hp} {h h':Heap} {a:Addr} {o:HO}
theorem XM.lt(x:XM P w H h a o):a<h.objs.size:=by
 cases o with
 |lst xs=>obtain⟨_,_,_,_,e⟩:=x;exact Heap.lt_size e
 |tup xs=>obtain⟨_,_,_,p⟩:=x;exact p.lt
 |dK kvs=>obtain⟨_,_,_,_,o,_,_,e,_⟩:=x;exact Heap.lt_size e
 |dT kvs=>obtain⟨_,_,_,_,o,_,_,e,_⟩:=x;exact Heap.lt_size e
 |set S n=>obtain⟨o,_,_,_,e,_⟩:=x;exact Heap.lt_size e
 |ins C dx fs=>obtain⟨_,_,_,e,_⟩:=x;exact Heap.lt_size e
 |own y=>obtain⟨_,e⟩:=x;exact Heap.lt_size e
 |xd fs=>obtain⟨_,⟨_,_,_,e,_⟩,_⟩:=x;exact Heap.lt_size e
 |rng lo hi=>obtain⟨_,_,_,e⟩:=x;exact Heap.lt_size e
 |frz ob u=>obtain⟨e,_⟩:=x;exact Heap.lt_size e
 |tbl ps=>exact Heap.lt_size (show h.get? a=some _ from x)
 |met f y=>exact Heap.lt_size (show h.get? a=some _ from x)
 |ext φ=>obtain⟨_,⟨_,e⟩,_⟩:=x;exact Heap.lt_size e
theorem Paired.mapP{α β:Type}{F G:α->β->Prop}:∀{l₁:List α} {l₂:List β},Paired F l₁ l₂->(∀a b,F a b->G a b)->Paired G l₁ l₂
 |_,_,.nil,_=> .nil
 |_,_,.cons r t,f=> .cons (f _ _ r) (Paired.mapP t f)
theorem XM.stay(x:XM P w H h a o)(k:∀b u,(b=a\/H b=some (.own a))->h.get? b=some u->h'.get? b=some u)
  (ho:∀b,H b=some (.own a)->H' b=some (.own a))(ht:∀b xs,H b=some (.tup xs)->H' b=some (.tup xs)):XM P w H' h' a o:=by
 induction o with
 |lst xs=>obtain⟨z,its,n,r,e⟩:=x;exact⟨z,its,n,r,k _ _ (.inl rfl) e⟩
 |tup xs=>obtain⟨z,its,r,ob,e,c⟩:=x;exact⟨z,its,r,ob,k _ _ (.inl rfl) e,c⟩
 |dK kvs=>obtain⟨z,y,vs,r,ob,es,ep,e,c⟩:=x;exact⟨z,y,vs,r,ob,es,ep,k _ _ (.inl rfl) e,c⟩
 |dT kvs=>
  obtain⟨z,y,xs,r,ob,es,ep,e,c⟩:=x;exact⟨z,y,xs,Paired.mapP r fun p q z=>⟨z.1,ht _ _ z.2.1,z.2.2⟩,ob,es,ep,k _ _ (.inl rfl) e,c⟩
 |set S n=>obtain⟨ob,es,ep,t,e,c⟩:=x;exact⟨ob,es,ep,t,k _ _ (.inl rfl) e,c⟩
 |ins C dx fs=>
  obtain⟨d,z,ne,e,mA,⟨od,es,ep,e2,c⟩,r⟩:=x;exact⟨ho _ d,z,ne,k _ _ (.inl rfl) e,mA,⟨od,es,ep,k _ _ (.inr d) e2,c⟩,r⟩
 |own y=>obtain⟨ob,e⟩:=x;exact⟨ob,k _ _ (.inl rfl) e⟩
 |xd fs=>obtain⟨mA,⟨od,es,ep,e,c⟩,r⟩:=x;exact⟨mA,⟨od,es,ep,k _ _ (.inl rfl) e,c⟩,r⟩
 |rng lo hi=>obtain⟨t,u,v,e⟩:=x;exact⟨t,u,v,k _ _ (.inl rfl) e⟩
 |frz ob u ih=>obtain⟨e,q⟩:=x;exact⟨k _ _ (.inl rfl) e,ih q⟩
 |tbl ps=>
  have e:h.get? a=some {cls:=.none,data:=.fields ps}:=x;show h'.get? a=some {cls:=.none,data:=.fields ps};exact k a _ (.inl rfl) e
 |met f y=>
  have e:h.get? a=some (PySem.W.methodObj (.ref f) (.ref y)):=x;show h'.get? a=some (PySem.W.methodObj (.ref f) (.ref y));exact k a _ (.inl rfl) e
 |ext φ=>obtain⟨p,⟨o,e⟩,st⟩:=x;exact⟨st _ _ p fun o q=>k _ _ (.inl rfl) q,⟨o,k _ _ (.inl rfl) e⟩,st⟩
theorem HOk.lt(x:HOk P w H h)(e:H a=some o):a<h.objs.size:=(x a o e).lt
theorem HOk.fresh(x:HOk P w H h)(e:h.objs.size<=a):H a=none:=by
 cases q:H a with
 |none=>rfl
 |some u=>exact absurd (Nat.lt_of_lt_of_le (x.lt q) e) (Nat.lt_irrefl _)
theorem HOk.kept(x:HOk P w H h)(k:∀b u,h.get? b=some u->h'.get? b=some u):HOk P w H h':=fun a o e=>
 (x a o e).stay (fun b u _ q=>k b u q) (fun _ q=>q) fun _ _ q=>q
theorem HOk.laid(x:HOk P w H h)(k:∀b u,h.get? b=some u->h'.get? b=some u)(hp:h.objs.size<=a)(new:XM P w (upd H a o) h' a o):HOk P w (upd H a o) h':=fun b u e=>by
 have hn:=x.fresh hp
 by_cases hb:b=a
 ·subst hb;rw[Zc] at e;cases e;exact new
 ·rw[Zm hb] at e
  exact(x b u e).stay (fun c v _ q=>k c v q) (fun c q=>by rw[Zm (Zf q hn)];exact q) fun c xs q=>by rw[Zm (Zf q hn)];exact q
end
def Rd(H:Hp)(a:Addr)(u:HO):Prop:=H a=some u\/∃o,H a=some (.frz o u)
theorem Rd.ok{P:Program}{w:World}{H:Hp}{h:Heap}{a:Addr}{u:HO}(r:Rd H a u)(x:HOk P w H h):XM P w H h a u:=by
 rcases r with r|⟨o,r⟩
 ·exact x a u r
 ·obtain⟨_,q⟩:=x a _ r;exact q
def Mut:Option HO->Prop
 |some (.lst _)=>True
 |some (.dK _)=>True
 |some (.dT _)=>True
 |some (.set _ _)=>True
 |some (.ins _ _ _)=>True
 |some (.ext _)=>True
 |_=>False
section
variable {P:Program} {w:World} {H:Hp} {h h':Heap} {x e:Addr} {o':HO}
theorem HOk.write(ok:HOk P w H h)(mu:Mut (H x))(he:e=x\/H e=some (.own x))(k:∀b u,b≠e->h.get? b=some u->h'.get? b=some u)(heo:∃u,h'.get? e=some u)
  (new:XM P w (upd H x o') h' x o'):HOk P w (upd H x o') h':=fun b u q=>by
 have nown:∀c y,H c=some (.own y)->c≠x:=fun c y r z=>by subst z;rw[r] at mu;exact mu
 have ntup:∀c xs,H c=some (.tup xs)->c≠x:=fun c xs r z=>by subst z;rw[r] at mu;exact mu
 by_cases hb:b=x
 ·subst hb;rw[Zc] at q;cases q;exact new
 ·rw[Zm hb] at q
  by_cases hbe:b=e
  ·have q':H b=some (.own x):=by
    rcases he with z|z
    ·exact absurd (hbe.trans z) hb
    ·rw[hbe];exact z
   rw[q] at q';cases q'
   obtain⟨v,hv⟩:=heo;exact⟨v,by rw[hbe];exact hv⟩
  ·refine(ok b u q).stay (fun c v hc r=>k c v ?_ r) (fun c r=>by rw[Zm (nown c b r)];exact r) fun c xs r=>by rw[Zm (ntup c xs r)];exact r
   rcases hc with rfl|hc
   ·exact hbe
   ·rintro rfl;rcases he with z|z
    ·exact nown c b hc z
    ·rw[hc] at z;cases z;exact hb rfl
end
structure Un (fs ex:List Addr) (H H':Hp) (h h':Heap):Prop where
 keep:∀b o,h.get? b=some o->H b=none->b∉fs->b∉ex->h'.get? b=some o
 slot:∀b o,h.get? b=some o->H b=none->b∈fs->b∉ex->∃sl,h'.get? b=some {o with slots:=sl}
 free:∀b o,h.get? b=some o->H b=none->b∉ex->H' b=none
 there:∀b o,h.get? b=some o->b∉ex->∃o',h'.get? b=some o'
 tups:∀b xs,H b=some (.tup xs)->H' b=some (.tup xs)
 frzs:∀b o u,H b=some (.frz o u)->H' b=some (.frz o u)
 tbls:∀b ps,H b=some (.tbl ps)->∃more,H' b=some (.tbl (ps++more))
section
variable {fs fs' ex ex':List Addr} {H H1 H2:Hp} {h h1 h2 h':Heap} {a x e:Addr} {o:HO}
theorem Un.any(u:Un fs ex H H1 h h1){b:Addr}{ob:Obj}(q:h.get? b=some ob)(n:H b=none)(hx:b∉ex):∃sl,h1.get? b=some {ob with slots:=sl}:=by
 by_cases hb:b∈fs
 ·exact u.slot b ob q n hb hx
 ·exact⟨ob.slots,u.keep b ob q n hb hx⟩
theorem Un.kept(k:∀b u,h.get? b=some u->h'.get? b=some u):Un fs ex H H h h':=
 ⟨fun b ob q _ _ _=>k b ob q,fun b ob q _ _ _=>⟨ob.slots,k b ob q⟩,fun _ _ _ n _=>n,fun b ob q _=>⟨ob,k b ob q⟩,fun _ _ q=>q,fun _ _ _ q=>q,fun _ ps q=>⟨#[],by rw[q];simp⟩⟩
theorem Un.refl:Un fs ex H H h h:=Un.kept fun _ _ q=>q
theorem Un.laid(k:∀b u,h.get? b=some u->h'.get? b=some u)(hp:h.objs.size<=a)(hn:H a=none):Un fs ex H (upd H a o) h h' where
 keep:=fun b u q _ _ _=>k b u q
 slot:=fun b u q _ _ _=>⟨u.slots,k b u q⟩
 free:=fun b u q n _=>by rw[Zm (Nat.ne_of_lt (Nat.lt_of_lt_of_le (Heap.lt_size q) hp))];exact n
 there:=fun b u q _=>⟨u,k b u q⟩
 tups:=fun b xs q=>by rw[Zm (Zf q hn)];exact q
 frzs:=fun b u xs q=>by rw[Zm (Zf q hn)];exact q
 tbls:=fun b ps q=>⟨#[],by rw[Zm (Zf q hn),q];simp⟩
theorem Un.write(mu:Mut (H x))(he:e=x\/H e=some (.own x))(k:∀b u,b≠e->h.get? b=some u->h'.get? b=some u)(heo:∃u,h'.get? e=some u):Un fs ex H (upd H x o) h h':=by
 have hx:∀b,H b=none->b≠x:=fun b n z=>by subst z;rw[n] at mu;exact mu
 have hb:∀b,H b=none->b≠e:=fun b n z=>by
  subst z;rcases he with r|r
  ·exact hx b n r
  ·rw[n] at r;cases r
 have hm:∀b u,H b=some u->¬Mut (some u)->b≠x:=fun b u q nm z=>by subst z;rw[q] at mu;exact nm mu
 refine⟨fun b u q n _ _=>k b u (hb b n) q,fun b u q n _ _=>⟨u.slots,k b u (hb b n) q⟩,fun b u q n _=>by rw[Zm (hx b n)];exact n,fun b u q _=> ?_,
  fun b xs q=>by rw[Zm (hm b _ q fun z=>z)];exact q,fun b u xs q=>by rw[Zm (hm b _ q fun z=>z)];exact q,fun b ps q=>⟨#[],by rw[Zm (hm b _ q fun z=>z),q];simp⟩⟩
 by_cases hbe:b=e
 ·subst hbe;exact heo
 ·exact⟨u,k b u hbe q⟩
end
def trk(h:Heap)(H:Hp):List Addr:=(List.range h.objs.size).filter fun a=>(H a).isSome
def Zjd(h:Heap)(H:Hp):Heap:=PySem.W.hideAll h (trk h H)
theorem ZmQ(h:Heap)(H:Hp):(Zjd h H).objs.size=h.objs.size:=PySem.W.hideAll_size _ _
theorem ZnF{h:Heap}{H:Hp}{b:Addr}{o:Obj}(e:h.get? b=some o)(n:H b=none):(Zjd h H).get? b=some o:=
 PySem.W.hideAll_get _ e fun hm=>by
  have q:(H b).isSome=true:=(List.mem_filter.mp hm).2;rw[n] at q;simp at q
theorem Zpw{h:Heap}{H:Hp}{b:Addr}{o:Obj}(e:(Zjd h H).get? b=some o):h.get? b=some o/\H b=none:=by
 have e':h.get? b=some o:=PySem.W.of_hideAll (trk h H) e;refine⟨e', ?_⟩;cases q:H b with
 |none=>rfl
 |some x=>
  have hm:b∈trk h H:=List.mem_filter.mpr ⟨List.mem_range.mpr (Heap.lt_size e'),by simp[q]⟩;have z:(Zjd h H).get? b=none:=PySem.W.hideAll_none (trk h H) hm;rw[z] at e;cases e
def ZgF(g h:Heap)(L:Addr):List (Addr×Obj):=(List.range h.objs.size).filterMap fun a=>if a=L\/(g.get? a).isSome=true then none else(h.get? a).map fun o=>(a,o)
theorem Zgc{g h:Heap}{L a:Addr}{o:Obj}(h1:a≠L)(h2:g.get? a=none)(h3:h.get? a=some o):(a,o)∈ZgF g h L:=
 List.mem_filterMap.mpr ⟨a,List.mem_range.mpr (Heap.lt_size h3),by simp[h1,h2,h3]⟩
theorem ZgX{g h:Heap}{L:Addr}{p:Addr×Obj}(hp:p∈ZgF g h L):p.1≠L/\g.get? p.1=none/\h.get? p.1=some p.2:=by
 obtain⟨b,_,e⟩:=List.mem_filterMap.mp hp
 split at e
 ·cases e
 ·rename_i hn
  cases q:h.get? b with
  |none=>rw[q] at e;simp at e
  |some u=>
   rw[q] at e
   simp only [Option.map_some,Option.some.injEq] at e
   subst e;refine⟨fun z=>hn (.inl z), ?_,q⟩;show g.get? b=none;cases r:g.get? b with
   |none=>rfl
   |some v=>exact(hn (.inr (by simp[r]))).elim
theorem ZnG{g h:Heap}{L:Addr}:News g L h (ZgF g h L):=fun p hp=>let ⟨a,b,c⟩:=ZgX hp;⟨c,a,b⟩
end L2
namespace L2
open PySem PySem.Spec PyProof.Rows
structure Mod (K:PySem.W.Frag) (mg:Str->Option Value) (base:Heap):Prop where
 kin:K.In base
 glob:base.Ns mainGlobals mg
 blt:∃mb,base.Ns builtinsNs mb/\∀x:Str,x≠"__name__"->mb x=bootBuiltins x
 nolimit:base.NoLimit
structure Cx where
 prog:Program
 w:World
 K:PySem.W.Frag
 mg:Str->Option Value
 base:Heap
 A:Around
 N:List Str
 s₀:Shared
 H₀:Hp
 env:Env
 outer:List Env
 stack:List Env
 ex:List Addr
 fn:Str->Bool
 calm:Bool
 pn:List (Addr×Obj)
 xe:Value->Shared->Prop
def frs(l:List Env):List Addr:=l.filterMap (·.frame)
abbrev Cx.fs(X:Cx):List Addr:=frs X.outer
def Vis(sc:Scope)(x:Str):Prop:=sc.names.lookup x=some .local\/sc.names.lookup x=some .cell\/sc.names.lookup x=some .free
def Loc(sc:Scope)(x:Str):Prop:=sc.names.lookup x=some .local\/sc.names.lookup x=some .cell
def Zsw(env:Env)(h:Heap)(m:Str->Option Value)(x:Str)(u:Value):Prop:=
 (env.kindOf x=some .local/\m x=some u)\/((env.kindOf x=some .cell\/env.kindOf x=some .free)/\∃c,env.cells.lookup x=some c/\h.IsCell c (some u))
structure Cx.Ok (X:Cx):Prop where
 mod:Mod X.K X.mg X.base
 kind:X.env.scope.kind=.function
 glob:X.env.globals=mainGlobals
 blt:X.env.builtins=builtinsNs
 above:X.s₀.heap.objs.size<=X.env.locals
 inj:∀x y c,X.env.cells.lookup x=some c->X.env.cells.lookup y=some c->x=y
 has:∀x,(X.env.kindOf x=some .cell\/X.env.kindOf x=some .free)->∃c,X.env.cells.lookup x=some c
 cab:∀x c,X.fn x=true->X.env.cells.lookup x=some c->X.s₀.heap.objs.size<=c
 hd:X.calm=true->X.A.handled=none
 frames:X.A.frames=some X.stack
 stk:X.stack=X.outer\/(X.stack=X.env::X.outer/\X.env.frame=some X.env.locals)
 exf:∀b∈X.ex,b≠X.env.locals/\∀x c,X.env.cells.lookup x=some c->c≠b
 bs:∀b o,X.base.get? b=some o->X.s₀.heap.get? b=some o/\X.H₀ b=none
 bsz:X.base.objs.size<=X.s₀.heap.objs.size
 noex:∀b o,X.base.get? b=some o->b∉X.ex
 exfs:∀b∈X.ex,b∉X.fs
 funs:X.s₀.heap.FunFrames X.base X.outer
 frf:∀b∈X.fs,X.H₀ b=none
structure Inv (X:Cx) (pins:List (Addr×Obj)) (σ:List (Option V)) (H:Hp) (s:Shared):Prop where
 ok:X.Ok
 os:s.os=X.s₀.os
 bare:AllBare s.gens
 base:Un X.fs X.ex X.H₀ H X.s₀.heap s.heap
 loc:∃m,s.heap.Ns X.env.locals m/\∀(i:Nat) (x:Str) (v:V),X.N[i]? =some x->σ[i]? =some (some v)->Vis X.env.scope x->∃u,ZV v u/\Zsw X.env s.heap m x u
 cell:∀x c,X.env.cells.lookup x=some c->∃v,s.heap.IsCell c v
 free:H X.env.locals=none
 freeC:∀x c,X.env.cells.lookup x=some c->H c=none
 pin:∀p∈X.pn++pins,s.heap.get? p.1=some p.2/\H p.1=none/\p.1≠X.env.locals/\p.1∉X.fs/\∀v,p.2.data≠.cell v
 hok:HOk X.prog X.w H s.heap
 len:σ.length=X.N.length
section
variable {X:Cx} {pins:List (Addr×Obj)} {σ:List (Option V)} {H H':Hp} {s:Shared} {h':Heap}
theorem Cx.Ok.nofr(ok:X.Ok){b:Addr}{o:Obj}(e:X.base.get? b=some o):b∉X.fs:=fun hb=>by
 have:=(ok.funs.mem hb).1;rw[e] at this;cases this
theorem Inv.bs(I:Inv X pins σ H s):∀b o,X.base.get? b=some o->s.heap.get? b=some o/\H b=none:=fun b o e=>
 ⟨I.base.keep b o (I.ok.bs b o e).1 (I.ok.bs b o e).2 (I.ok.nofr e) (I.ok.noex b o e),I.base.free b o (I.ok.bs b o e).1 (I.ok.bs b o e).2 (I.ok.noex b o e)⟩
theorem Inv.bk(I:Inv X pins σ H s):∀b o,X.base.get? b=some o->s.heap.get? b=some o:=fun b o e=>(I.bs b o e).1
theorem Inv.mod(I:Inv X pins σ H s):Mod X.K X.mg X.base:=I.ok.mod
theorem Inv.kIn(I:Inv X pins σ H s):X.K.In s.heap:=I.ok.mod.kin.keeps I.bk
theorem Inv.fr(I:Inv X pins σ H s):∃m,Fr X.base X.env.locals s.heap m:=
 let ⟨m,hn,_⟩:=I.loc
 ⟨m,hn,I.bk,Nat.le_trans I.ok.bsz I.ok.above⟩
theorem Inv.lt(I:Inv X pins σ H s):X.env.locals<s.heap.objs.size:=let ⟨_,hn,_⟩:=I.loc;hn.lt
theorem Inv.sz(I:Inv X pins σ H s):X.s₀.heap.objs.size<=s.heap.objs.size:=Nat.le_trans I.ok.above (Nat.le_of_lt I.lt)
theorem Inv.nofs(I:Inv X pins σ H s){a:Addr}(h:s.heap.objs.size<=a):a∉X.fs:=fun hb=>by
 obtain⟨_,o,ho,_⟩:=I.ok.funs.mem hb;exact absurd (Nat.lt_of_lt_of_le (Heap.lt_size ho) (Nat.le_trans I.sz h)) (Nat.lt_irrefl _)
theorem Inv.cne(I:Inv X pins σ H s):∀x c,X.env.cells.lookup x=some c->c≠X.env.locals:=fun x c e z=>by
 obtain⟨v,o,ho,hd⟩:=I.cell x c e;obtain⟨m,⟨o',es,ep,ho',hd',_⟩,_⟩:=I.loc;rw[z,ho'] at ho;cases ho;rw[hd'] at hd;cases hd
theorem Inv.funs(I:Inv X pins σ H s):s.heap.FunFrames X.base X.outer:=by
 have all:∀(l:List Env),(∀b∈frs l,b∈X.fs)->X.s₀.heap.FunFrames X.base l->s.heap.FunFrames X.base l:=by
  intro l
  induction l with
  |nil=>intro _ _;trivial
  |cons env r ih=>
   intro hs hl;obtain⟨hk,⟨L,o,hf,hn,ho,hd⟩,hr⟩:=hl;have hL:L∈X.fs:=hs L (by unfold frs;rw[List.filterMap_cons,hf];exact List.mem_cons_self)
   obtain⟨sl,e⟩:=I.base.slot L o ho (I.ok.frf L hL) hL fun z=>I.ok.exfs L z hL;exact⟨hk,⟨L,_,hf,hn,e,hd⟩,ih (fun b hb=>hs b (by unfold frs;rw[List.filterMap_cons,hf];exact List.mem_cons_of_mem _ hb)) hr⟩
 exact all X.outer (fun _ hb=>hb) I.ok.funs
theorem Inv.stack(I:Inv X pins σ H s):s.heap.FunFrames X.base X.stack:=by
 rcases I.ok.stk with e|⟨e,hf⟩
 ·rw[e];exact I.funs
 ·rw[e];obtain⟨m,hn,_⟩:=I.loc;refine .cons (by rw[I.ok.kind];decide) hf hn ?_ I.funs
  exact Heap.get?_none_of_le (Nat.le_trans I.ok.bsz I.ok.above)
theorem Inv.stkSub(I:Inv X pins σ H s):∀b∈frs X.stack,b∈X.env.locals::X.fs:=fun b hb=>by
 rcases I.ok.stk with e|⟨e,hf⟩
 ·rw[e] at hb;exact List.mem_cons_of_mem _ hb
 ·rw[e] at hb
  unfold frs at hb
  rw[List.filterMap_cons,hf] at hb
  exact hb
theorem Inv.stkFree(I:Inv X pins σ H s):∀b∈frs X.stack,H b=none:=fun b hb=>by
 rcases List.mem_cons.mp (I.stkSub b hb) with e|hb
 ·rw[e];exact I.free
 ·obtain⟨_,o,ho,_⟩:=I.ok.funs.mem hb;exact I.base.free b o ho (I.ok.frf b hb) fun z=>I.ok.exfs b z hb
theorem Inv.step{g':Array GenState}{t':Nat}{d':Drawn}{ch:List Addr}(I:Inv X pins σ H s)
  (hch:∀b∈ch,(b∈X.ex\/X.s₀.heap.objs.size<=b)/\b≠X.env.locals/\(∀x c,X.env.cells.lookup x=some c->c≠b)/\∀p∈X.pn++pins,p.1≠b)
  (keep:∀b o,b≠X.env.locals->b∉X.fs->b∉ch->s.heap.get? b=some o->H b=none->h'.get? b=some o)
  (slot:∀b o,b≠X.env.locals->b∈X.fs->b∉ch->s.heap.get? b=some o->H b=none->∃sl,h'.get? b=some {o with slots:=sl})(free:∀b o,b∉ch->s.heap.get? b=some o->H b=none->H' b=none)
  (there:∀b o,b∉ch->s.heap.get? b=some o->∃o',h'.get? b=some o')
  (tups:∀b xs,H b=some (.tup xs)->H' b=some (.tup xs))(frzs:∀b o u,H b=some (.frz o u)->H' b=some (.frz o u))(tbls:∀b ps,H b=some (.tbl ps)->∃more,H' b=some (.tbl (ps++more)))
  (ns:∀m,s.heap.Ns X.env.locals m->h'.Ns X.env.locals m)(hok:HOk X.prog X.w H' h')(hg:AllBare g'):
  Inv X pins σ H' {s with heap:=h',gens:=g',drawn:=d',toks:=t'}:=by
 have neL:∀b o,X.s₀.heap.get? b=some o->b≠X.env.locals:=fun b o e=>Nat.ne_of_lt (Nat.lt_of_lt_of_le (Heap.lt_size e) I.ok.above);have neC:∀b o,X.s₀.heap.get? b=some o->b∉X.ex->b∉ch:=fun b o e hx hb=>by
  rcases(hch b hb).1 with z|z
  ·exact hx z
  ·exact absurd (Nat.lt_of_lt_of_le (Heap.lt_size e) z) (Nat.lt_irrefl _)
 have cellK:∀x c,X.env.cells.lookup x=some c->∀v,s.heap.IsCell c v->h'.IsCell c v:=fun x c e v ⟨o,ho,hd⟩=>by
  have nch:c∉ch:=fun z=>(hch c z).2.2.1 x c e rfl
  by_cases hc:c∈X.fs
  ·obtain⟨sl,q⟩:=slot c o (I.cne x c e) hc nch ho (I.freeC x c e);exact⟨_,q,hd⟩
  ·exact⟨o,keep c o (I.cne x c e) hc nch ho (I.freeC x c e),hd⟩
 refine⟨I.ok,I.os,hg,⟨fun b o e n hb hx=> ?_,fun b o e n hb hx=> ?_,fun b o e n hx=> ?_,fun b o e hx=> ?_,fun b xs e=>tups b xs (I.base.tups b xs e),fun b o xs e=>frzs b o xs (I.base.frzs b o xs e),fun b ps e=> ?_⟩, ?_,fun x c e=> ?_, ?_,fun x c e=> ?_,fun p hp=> ?_,hok,I.len⟩
 ·exact keep b o (neL b o e) hb (neC b o e hx) (I.base.keep b o e n hb hx) (I.base.free b o e n hx)
 ·obtain⟨sl,e1⟩:=I.base.slot b o e n hb hx;obtain⟨sl',e2⟩:=slot b _ (neL b o e) hb (neC b o e hx) e1 (I.base.free b o e n hx);exact⟨sl',e2⟩
 ·obtain⟨o',e1⟩:=I.base.there b o e hx;exact free b o' (neC b o e hx) e1 (I.base.free b o e n hx)
 ·obtain⟨o',e1⟩:=I.base.there b o e hx;exact there b o' (neC b o e hx) e1
 ·obtain⟨m1,e1⟩:=I.base.tbls b ps e;obtain⟨m2,e2⟩:=tbls b _ e1;exact⟨m1++m2,by rw[e2,Array.append_assoc]⟩
 ·obtain⟨m,hn,hl⟩:=I.loc;refine⟨m,ns m hn,fun i x v e1 e2 e3=> ?_⟩;obtain⟨u,r,l⟩:=hl i x v e1 e2 e3;refine⟨u,r, ?_⟩;rcases l with l|⟨k,c,e,z⟩
  ·exact .inl l
  ·exact .inr ⟨k,c,e,cellK x c e _ z⟩
 ·obtain⟨v,z⟩:=I.cell x c e;exact⟨v,cellK x c e v z⟩
 ·obtain⟨m,⟨o,_,_,ho,_⟩,_⟩:=I.loc;exact free _ o (fun z=>(hch _ z).2.1 rfl) ho I.free
 ·obtain⟨v,o,ho,hd⟩:=I.cell x c e;exact free c o (fun z=>(hch c z).2.2.1 x c e rfl) ho (I.freeC x c e)
 ·obtain⟨e,n,ne,nf,d⟩:=I.pin p hp;have nch:p.1∉ch:=fun z=>(hch p.1 z).2.2.2 p hp rfl;exact⟨keep p.1 p.2 ne nf nch e n,free p.1 p.2 nch e n,ne,nf,d⟩
theorem Inv.un{t':Nat}(I:Inv X pins σ H s)(u:Un X.fs [] H H' s.heap h')(hok:HOk X.prog X.w H' h'):Inv X pins σ H' {s with heap:=h',toks:=t'}:=by
 obtain⟨m,⟨o,es,ep,ho,r⟩,_⟩:=id I.loc;obtain⟨sl,hL⟩:=u.any ho I.free (by simp);exact I.step (g':=s.gens) (d':=s.drawn) (ch:=[]) (fun _ z=>nomatch z) (fun b o _ hb _ e n=>u.keep b o e n hb (by simp)) (fun b o _ hb _ e n=>u.slot b o e n hb (by simp)) (fun b o _ e n=>u.free b o e n (by simp)) (fun b o _ e=>u.there b o e (by simp)) u.tups u.frzs u.tbls (fun m' hm=>by
  obtain⟨o',es',ep',ho',r'⟩:=hm;rw[ho] at ho';cases ho'
  exact⟨_,es',ep',hL,r'⟩) hok I.bare
theorem Inv.call{g':Array GenState}{t':Nat}{d':Drawn}{ch:List Addr}(I:Inv X pins σ H s)(u:Un (frs X.stack) ch H H' s.heap h')(hok:HOk X.prog X.w H' h')(hg:AllBare g')
  (hch:∀b∈ch,(b∈X.ex\/X.s₀.heap.objs.size<=b)/\b≠X.env.locals/\(∀x c,X.env.cells.lookup x=some c->c≠b)/\∀p∈X.pn++pins,p.1≠b):
  Inv X pins σ H' {s with heap:=h',gens:=g',drawn:=d',toks:=t'}:=by
 obtain⟨m,⟨o,es,ep,ho,r⟩,_⟩:=id I.loc;obtain⟨sl,hL⟩:=u.any ho I.free fun z=>(hch _ z).2.1 rfl;exact I.step (ch:=ch) hch (fun b o hL hb hc e n=>u.keep b o e n (fun z=>(List.mem_cons.mp (I.stkSub b z)).elim hL hb) hc) (fun b o _ _ hc e n=>u.any e n hc) (fun b o hc e n=>u.free b o e n hc) (fun b o hc e=>u.there b o e hc) u.tups u.frzs u.tbls (fun m' hm=>by
  obtain⟨o',es',ep',ho',r'⟩:=hm;rw[ho] at ho';cases ho'
  exact⟨_,es',ep',hL,r'⟩) hok hg
theorem Inv.turned{t':Nat}{it:Addr}(I:Inv X pins σ H s)(k:∀b o,b≠it->s.heap.get? b=some o->h'.get? b=some o)(hn:H it=none)(hL:it≠X.env.locals)
  (h1:it∈X.ex\/X.s₀.heap.objs.size<=it)(h2:∀x c,X.env.cells.lookup x=some c->c≠it)(h3:∀p∈X.pn++pins,p.1≠it):Inv X pins σ H {s with heap:=h',toks:=t'}:=by
 have nit:∀b u,H b=some u->b≠it:=fun b u e z=>by rw[z,hn] at e;cases e
 refine I.step (g':=s.gens) (d':=s.drawn) (ch:=[it]) (fun b hb=> ?_) (fun b o _ _ hc e _=>k b o (fun z=>hc (by simp[z])) e) (fun b o _ _ hc e _=>⟨o.slots,k b o (fun z=>hc (by simp[z])) e⟩) (fun _ _ _ _ n=>n)
  (fun b o hc e=>⟨o,k b o (fun z=>hc (by simp[z])) e⟩) (fun _ _ e=>e) (fun _ _ _ e=>e) (fun b ps e=>⟨#[],by rw[e];simp⟩) (fun m hm=> ?_) (fun b u e=> ?_) I.bare
 ·have e:b=it:=by simpa using hb
  subst e;exact⟨h1,hL,h2,h3⟩
 ·obtain⟨o,es,ep,ho,r⟩:=hm;exact⟨o,es,ep,k _ o (Ne.symm hL) ho,r⟩
 ·refine(I.hok b u e).stay (fun c v hc q=>k c v ?_ q) (fun _ q=>q) fun _ _ q=>q;rcases hc with z|z
  ·rw[z];exact nit b u e
  ·exact nit c _ z
theorem Inv.tok(I:Inv X pins σ H s)(t:Nat):Inv X pins σ H {s with toks:=t}:=I.un (h':=s.heap) (t':=t) Un.refl I.hok
theorem Inv.kept{t':Nat}(I:Inv X pins σ H s)(k:∀b u,s.heap.get? b=some u->h'.get? b=some u):Inv X pins σ H {s with heap:=h',toks:=t'}:=I.un (Un.kept k) (I.hok.kept k)
theorem Inv.laid{a:Addr}{o:HO}{t':Nat}(I:Inv X pins σ H s)(k:∀b u,s.heap.get? b=some u->h'.get? b=some u)(hp:s.heap.objs.size<=a)(new:XM X.prog X.w (upd H a o) h' a o):
  Inv X pins σ (upd H a o) {s with heap:=h',toks:=t'}:=I.un (Un.laid k hp (I.hok.fresh hp)) (I.hok.laid k hp new)
theorem Inv.write{x e:Addr}{o:HO}{t':Nat}(I:Inv X pins σ H s)(mu:Mut (H x))(he:e=x\/H e=some (.own x))(k:∀b u,b≠e->s.heap.get? b=some u->h'.get? b=some u)(heo:∃u,h'.get? e=some u)
  (new:XM X.prog X.w (upd H x o) h' x o):Inv X pins σ (upd H x o) {s with heap:=h',toks:=t'}:=I.un (Un.write mu he k heo) (I.hok.write mu he k heo new)
theorem Inv.weak{σ':List (Option V)}(I:Inv X pins σ H s)(hl:σ'.length=σ.length)(w:∀(i:Nat) v,σ'[i]? =some (some v)->σ[i]? =some (some v)):Inv X pins σ' H s:=
 ⟨I.ok,I.os,I.bare,I.base,let ⟨m,hn,hl'⟩:=I.loc;⟨m,hn,fun i x v e1 e2 e3=>hl' i x v e1 (w i v e2) e3⟩,I.cell,I.free,I.freeC,I.pin,I.hok,hl.trans I.len⟩
theorem Inv.pins_of{pins':List (Addr×Obj)}(I:Inv X pins σ H s)(h:∀p∈pins',s.heap.get? p.1=some p.2/\H p.1=none/\p.1≠X.env.locals/\p.1∉X.fs/\∀v,p.2.data≠.cell v):Inv X pins' σ H s:=
 ⟨I.ok,I.os,I.bare,I.base,I.loc,I.cell,I.free,I.freeC,fun p hp=>(List.mem_append.mp hp).elim (fun z=>I.pin p (List.mem_append_left _ z)) (h p),I.hok,I.len⟩
theorem Zkj{N:List Str}(hN:N.Nodup){i j:Nat}{x:Str}(a:N[i]? =some x)(b:N[j]? =some x):i=j:=by
 obtain⟨h1,e1⟩:=List.getElem?_eq_some_iff.mp a;obtain⟨h2,e2⟩:=List.getElem?_eq_some_iff.mp b;exact(List.getElem_inj hN).mp (e1.trans e2.symm)
theorem ZmR{M:Model}{A:Around}{E:Value->Shared->Prop}{i:Nat}{x:Str}{v:V}{u:Value}{Q:Unit->Shared->Prop}(I:Inv X pins σ H s)(hN:X.N.Nodup)(hi:X.N[i]? =some x)(hx:Loc X.env.scope x)(r:ZV v u)
  (h:∀s',Inv X pins (σ.set i (some v)) H s'->(∃a,Heap.SameBut a s.heap s'.heap/\(a=X.env.locals\/X.env.cells.lookup x=some a))->Q () s')(hf:X.fn x=true\/X.env.scope.names.lookup x=some .local:=by first|exact .inl rfl|exact .inr rfl|assumption):wpAny M A (storeName X.env x u) Q E s:=by
 obtain⟨m,hn,hl⟩:=id I.loc;have hcls:(X.env.scope.kind==.class||(X.env.scope.kind==.module&&X.env.locals !=X.env.globals))=false:=by rw[I.ok.kind];rfl
 have hiσ:i<σ.length:=by rw[I.len];exact(List.getElem?_eq_some_iff.mp hi).1
 have cne:=I.cne;have tracked:∀{a:Addr} {h':Heap},(∃o,s.heap.get? a=some o/\H a=none)->Heap.SameBut a s.heap h'->HOk X.prog X.w H h':=fun{a h'} ha hs b ob e=>by
  obtain⟨_,_,hfree⟩:=ha;refine(I.hok b ob e).stay (fun c w' hc q=>(hs.2 c ?_).trans q) (fun _ q=>q) fun _ _ q=>q;rintro rfl;rcases hc with rfl|hc
  ·rw[hfree] at e;cases e
  ·rw[hfree] at hc;cases hc
 rcases hx with hk|hk
 ·refine wpAny_storeName_local hk hn (fun h' hn' hs=> ?_) hcls;obtain⟨oL,_,_,hoL,_⟩:=id hn;refine h _ ⟨I.ok,I.os,I.bare,⟨fun b o e n hb hx=> ?_,fun b o e n hb hx=> ?_,I.base.free,fun b o e hx=> ?_,I.base.tups,I.base.frzs,I.base.tbls⟩,⟨_,hn',fun j y v' e1 e2 e3=> ?_⟩,fun y c e=> ?_,I.free,I.freeC,fun p hp=> ?_,tracked ⟨oL,hoL,I.free⟩ hs,by simpa using I.len⟩ ⟨_,hs,.inl rfl⟩
  ·exact(hs.2 b (Nat.ne_of_lt (Nat.lt_of_lt_of_le (Heap.lt_size e) I.ok.above))).trans (I.base.keep b o e n hb hx)
  ·obtain⟨sl,e1⟩:=I.base.slot b o e n hb hx;exact⟨sl,(hs.2 b (Nat.ne_of_lt (Nat.lt_of_lt_of_le (Heap.lt_size e) I.ok.above))).trans e1⟩
  ·obtain⟨o',e1⟩:=I.base.there b o e hx;exact⟨o',(hs.2 b (Nat.ne_of_lt (Nat.lt_of_lt_of_le (Heap.lt_size e) I.ok.above))).trans e1⟩
  ·by_cases hj:j=i
   ·subst hj;rw[hi] at e1;cases e1
    rw[List.getElem?_set_self hiσ] at e2
    cases e2;exact⟨u,r,.inl ⟨hk,by simp⟩⟩
   ·rw[List.getElem?_set_ne (Ne.symm hj)] at e2
    obtain⟨u',r',q⟩:=hl j y v' e1 e2 e3;refine⟨u',r', ?_⟩;rcases q with ⟨k,e⟩|⟨k,c,e,z⟩
    ·refine .inl ⟨k, ?_⟩;have:y≠x:=fun e=>hj (Zkj hN e1 (e▸hi));simp[this,e]
    ·exact .inr ⟨k,c,e,z.sameBut hs (cne y c e)⟩
  ·obtain⟨w',z⟩:=I.cell y c e;exact⟨w',z.sameBut hs (cne y c e)⟩
  ·obtain⟨e,n,ne,nf,d⟩:=I.pin p hp;exact⟨(hs.2 p.1 ne).trans e,n,ne,nf,d⟩
 ·have hfn:X.fn x=true:=by
   rcases hf with z|z
   ·exact z
   ·rw[z] at hk;cases hk
  obtain⟨c,hc⟩:=I.ok.has x (.inl hk);obtain⟨w',z⟩:=I.cell x c hc;refine wpAny_storeName_cell I.ok.kind hk hc z (fun h' hc' hs=> ?_);obtain⟨oc,hoc,hocd⟩:=id z;refine h {s with heap:=h'} ⟨I.ok,I.os,I.bare,⟨fun b o e n hb hx=> ?_,fun b o e n hb hx=> ?_,I.base.free,fun b o e hx=> ?_,I.base.tups,I.base.frzs,I.base.tbls⟩,⟨m,hn.sameBut hs (Ne.symm (cne x c hc)),fun j y v' e1 e2 e3=> ?_⟩,fun y c' e=> ?_,I.free,I.freeC,fun p hp=> ?_,tracked ⟨oc,hoc,I.freeC x c hc⟩ hs,by simpa using I.len⟩ ⟨c,hs,.inr hc⟩
  ·exact(hs.2 b (Nat.ne_of_lt (Nat.lt_of_lt_of_le (Heap.lt_size e) (I.ok.cab x c hfn hc)))).trans (I.base.keep b o e n hb hx)
  ·obtain⟨sl,e1⟩:=I.base.slot b o e n hb hx;exact⟨sl,(hs.2 b (Nat.ne_of_lt (Nat.lt_of_lt_of_le (Heap.lt_size e) (I.ok.cab x c hfn hc)))).trans e1⟩
  ·obtain⟨o',e1⟩:=I.base.there b o e hx;exact⟨o',(hs.2 b (Nat.ne_of_lt (Nat.lt_of_lt_of_le (Heap.lt_size e) (I.ok.cab x c hfn hc)))).trans e1⟩
  ·by_cases hj:j=i
   ·subst hj;rw[hi] at e1;cases e1
    rw[List.getElem?_set_self hiσ] at e2
    cases e2;exact⟨u,r,.inr ⟨.inl hk,c,hc,hc'⟩⟩
   ·rw[List.getElem?_set_ne (Ne.symm hj)] at e2
    obtain⟨u',r',q⟩:=hl j y v' e1 e2 e3;refine⟨u',r', ?_⟩;rcases q with q|⟨k,c',e,z'⟩
    ·exact .inl q
    ·refine .inr ⟨k,c',e,z'.sameBut hs ?_⟩;rintro rfl;exact hj (Zkj hN e1 (I.ok.inj _ _ _ e hc▸hi))
  ·by_cases hcc:c'=c
   ·subst hcc;exact⟨_,hc'⟩
   ·obtain⟨w2,z2⟩:=I.cell y c' e;exact⟨w2,z2.sameBut hs hcc⟩
  ·obtain⟨e,n,ne,nf,d⟩:=I.pin p hp;refine⟨(hs.2 p.1 ?_).trans e,n,ne,nf,d⟩;intro q;rw[q,hoc] at e
   have q':oc=p.2:=Option.some.inj e;exact d w' (by rw[<-q'];exact hocd)
theorem Zkk{M:Model}{A:Around}{E:Value->Shared->Prop}{i:Nat}{x:Str}{v:V}{u:Value}{Q:Unit->Shared->Prop}(I:Inv X pins σ H s)(hN:X.N.Nodup)(hi:X.N[i]? =some x)(hx:Loc X.env.scope x)(r:ZV v u)
  (h:∀s',Inv X pins (σ.set i (some v)) H s'->Q () s')(hf:X.fn x=true\/X.env.scope.names.lookup x=some .local:=by first|exact .inl rfl|exact .inr rfl|assumption):wpAny M A (storeName X.env x u) Q E s:=
 ZmR I hN hi hx r (fun s' I' _=>h s' I') hf
theorem Inv.call'{s':Shared}{ch:List Addr}(I:Inv X pins σ H s)(ho:s'.os=s.os)(u:Un (frs X.stack) ch H H' s.heap s'.heap)(hok:HOk X.prog X.w H' s'.heap)(hg:AllBare s'.gens)
  (hch:∀b∈ch,(b∈X.ex\/X.s₀.heap.objs.size<=b)/\b≠X.env.locals/\(∀x c,X.env.cells.lookup x=some c->c≠b)/\∀p∈X.pn++pins,p.1≠b):Inv X pins σ H' s':=by
 obtain⟨h',g',d',t',o'⟩:=s';have e:o'=s.os:=ho;subst e;exact I.call (g':=g') (t':=t') (d':=d') u hok hg hch
end
abbrev XK:=Value->Option Addr->Hp->Prop
abbrev St:=List (Option V)
abbrev VK:=V->Hp->Prop
abbrev TE:=St->Hp->VK->Prop
abbrev TT:=St->Hp->(Bool->Hp->Prop)->Prop
abbrev TA:=St->Hp->(List V->Hp->Prop)->Prop
structure Zje where
 nx:St->Hp->Prop
 rt:VK
 bk:St->Hp->Prop:=fun _ _=>False
 ct:St->Hp->Prop:=fun _ _=>False
abbrev TS:=Zje->St->Hp->Prop
def EP(X:Cx)(pins:List (Addr×Obj))(σ:St)(Q:VK)(u:Value)(s':Shared):Prop:=∃v H',Inv X pins σ H' s'/\ZV v u/\Q v H'
def TP(X:Cx)(pins:List (Addr×Obj))(σ:St)(Q:Bool->Hp->Prop)(b:Bool)(s':Shared):Prop:=∃H',Inv X pins σ H' s'/\Q b H'
def AP(X:Cx)(pins:List (Addr×Obj))(σ:St)(Q:List V->Hp->Prop)(us:List Value)(s':Shared):Prop:=∃vs H',Inv X pins σ H' s'/\Yb vs us/\Q vs H'
def SP(X:Cx)(pins:List (Addr×Obj))(D:Zje)(f:Flow)(s':Shared):Prop:=
 match f with
 | .next=>∃σ' H',Inv X pins σ' H' s'/\D.nx σ' H'
 | .brk=>∃σ' H',Inv X pins σ' H' s'/\D.bk σ' H'
 | .cont=>∃σ' H',Inv X pins σ' H' s'/\D.ct σ' H'
 | .ret u=>∃v σ' H',Inv X pins σ' H' s'/\ZV v u/\D.rt v H'
def PE(X:Cx)(e:Expr)(t:TE):Prop:=
 ∀(pins:List (Addr×Obj)) (s:Shared) (σ:St) (H:Hp) (Q:VK),Inv X pins σ H s->t σ H Q->wpAny (model X.prog X.w) X.A (eval e X.env) (EP X pins σ Q) X.xe s
def PT(X:Cx)(e:Expr)(t:TT):Prop:=
 ∀(pins:List (Addr×Obj)) (s:Shared) (σ:St) (H:Hp) (Q:Bool->Hp->Prop),Inv X pins σ H s->t σ H Q->wpAny (model X.prog X.w) X.A (isTrue e X.env (eval e X.env)) (TP X pins σ Q) X.xe s
def PW(X:Cx)(e:Expr)(t:TT):Prop:=
 ∀(whole:Sem Value) (pins:List (Addr×Obj)) (s:Shared) (σ:St) (H:Hp) (Q:Bool->Hp->Prop),Inv X pins σ H s->t σ H Q->wpAny (model X.prog X.w) X.A (isTrue e X.env whole) (TP X pins σ Q) X.xe s
theorem PW.pt{X:Cx}{e:Expr}{t:TT}(h:PW X e t):PT X e t:=h _
def PA(X:Cx)(es:List Expr)(t:TA):Prop:=
 ∀(pos:Pos) (pins:List (Addr×Obj)) (s:Shared) (σ:St) (H:Hp) (Q:List V->Hp->Prop),Inv X pins σ H s->t σ H Q->wpAny (model X.prog X.w) X.A (spliced (backTo pos (starEach es X.env))) (AP X pins σ Q) X.xe s
def PS(X:Cx)(st:Stmt)(t:TS):Prop:=
 ∀(pins:List (Addr×Obj)) (s:Shared) (σ:St) (H:Hp) (D:Zje),Inv X pins σ H s->t D σ H->wpAny (model X.prog X.w) X.A (exec st X.env) (SP X pins D) X.xe s
def PSs(X:Cx)(st:List Stmt)(t:TS):Prop:=
 ∀(pins:List (Addr×Obj)) (s:Shared) (σ:St) (H:Hp) (D:Zje),Inv X pins σ H s->t D σ H->wpAny (model X.prog X.w) X.A (execs st X.env) (SP X pins D) X.xe s
theorem thn{α:Type}{t:Sem α}{Q Q':α->Shared->Prop}{M:Model}{A:Around}{E:Value->Shared->Prop}{s:Shared}(h:wpAny M A t Q E s)(hQ:∀a s,Q a s->Q' a s):wpAny M A t Q' E s:=wpAny_mono h hQ fun _ _ x=>x
end L2
namespace L2
open PySem PySem.Spec PyProof.Rows
section
variable {X:Cx}
def ZnH(i:Nat):TE:=fun σ H Q=>∃v,σ[i]? =some (some v)/\Q v H
def tC(v:V):TE:=fun _ H Q=>Q v H
theorem ZqQ{i:Nat}{x:Str}{pos:Pos}(hN:X.N[i]? =some x)(hv:Vis X.env.scope x)(hd:(x==("__debug__":Str))=false:=by decide)(hcd:(x==("__classdict__":Str))=false:=by decide):PE X (.Name x pos) (ZnH i):=by
 intro pins s σ H Q I h;obtain⟨v,e,h⟩:=h;obtain⟨m,hn,hl⟩:=I.loc;obtain⟨u,r,l⟩:=hl i x v hN e hv;have fin:EP X pins σ Q u s:=⟨v,H,I,r,h⟩
 rcases l with ⟨hk,hm⟩|⟨hk,c,hc,hcell⟩
 ·exact wpAny_Name (wpAny_loadName_local I.ok.kind hk hn hm fin) hd
 ·rcases hk with hk|hk
  ·exact wpAny_Name (wpAny_loadName_cell I.ok.kind hk hc hcell fin) hd
  ·exact wpAny_Name (wpAny_loadName_free I.ok.kind hk hc hcell fin hcd) hd
theorem Zh{i j pos}:PE X (.Constant (.int i) j pos) (tC (.int i)):=fun _ _ _ H _ I h=>wpAny_Constant_int ⟨.int i,H,I.tok _,⟨_,rfl⟩,h⟩
theorem Zmh{b j pos}:PE X (.Constant (.bool b) j pos) (tC (.bl b)):=fun _ _ _ H _ I h=>Constant_bool ⟨.bl b,H,I,rfl,h⟩
theorem XN{j pos}:PE X (.Constant .none j pos) (tC .non):=fun _ _ _ H _ I h=>Constant_none ⟨.non,H,I,rfl,h⟩
theorem ZG{x j pos}:PE X (.Constant (.str x) j pos) (tC (.str x)):=fun _ _ _ H _ I h=>Calls.Constant_str ⟨.str x,H,I.tok _,⟨_,rfl⟩,h⟩
def Gl(X:Cx)(x:Str):Prop:=X.env.kindOf x=some .globalImplicit
theorem ZgG{E:Value->Shared->Prop}{pins:List (Addr×Obj)}{s:Shared}{σ:St}{H:Hp}{x:Str}{u:Value}{pos:Pos}{Q:Value->Shared->Prop}(I:Inv X pins σ H s)(hg:Gl X x)(hm:X.mg x=some u)(h:Q u s)
  (hd:(x==("__debug__":Str))=false:=by decide):wpAny (model X.prog X.w) X.A (eval (.Name x pos) X.env) Q E s:=
 Calls.Name_function_global I.ok.kind hg (Calls.loadGlobal_global (by rw[I.ok.glob];exact I.mod.glob.keeps I.bk) hm h) hd
theorem ZfA{E:Value->Shared->Prop}{pins:List (Addr×Obj)}{s:Shared}{σ:St}{H:Hp}{x:Str}{u:Value}{pos:Pos}{Q:Value->Shared->Prop}(I:Inv X pins σ H s)(hg:Gl X x)(hm:X.mg x=none)(hv:bootBuiltins x=some u)(h:Q u s)
  (hn:x≠"__name__":=by decide)(hd:(x==("__debug__":Str))=false:=by decide):wpAny (model X.prog X.w) X.A (eval (.Name x pos) X.env) Q E s:=by
 obtain⟨mb,h1,h2⟩:=I.mod.blt;exact Calls.Name_function_global I.ok.kind hg (Calls.loadGlobal_builtin (by rw[I.ok.glob];exact I.mod.glob.keeps I.bk) hm (by rw[I.ok.blt];exact h1.keeps I.bk) ((h2 x hn).trans hv) h) hd
variable {a b:Expr} {ta tb:TE} {pos:Pos}
def PC(X:Cx)(op:CmpOp)(a b:Expr)(t:TE):Prop:=
 ∀(pins:List (Addr×Obj)) (s:Shared) (σ:St) (H:Hp) (Q:VK),Inv X pins σ H s->t σ H Q->
  wpAny (model X.prog X.w) X.A (eval a X.env) (fun v s₁=>wpAny (model X.prog X.w) X.A (eval b X.env) (fun u s₂=>wpAny (model X.prog X.w) X.A (compareOp op v u) (EP X pins σ Q) X.xe s₂) X.xe s₁) X.xe s
def tB(t:TE):TT:=fun σ H Q=>t σ H fun x H1=>∃c,x=.bl c/\Q c H1
theorem ZqR{op:CmpOp}{t:TE}(h:PC X op a b t)(h1:behindInMarks op b=false:=by first|exact nobehind _ (by decide) (by decide)|rfl):PE X (.Compare a [op] [b] pos) t:=fun pins s σ H Q I hw=>wpAny_Compare1 (h pins s σ H Q I hw) h1
theorem ZfB{op:CmpOp}{t:TE}(h:PC X op a b t)(h1:behindInMarks op b=false:=by first|exact nobehind _ (by decide) (by decide)|rfl):PT X (.Compare a [op] [b] pos) (tB t):=by
 intro pins s σ H Q I hw;refine wpAny_isTrue_Compare1 (thn (h pins s σ H _ I hw) fun v s1 h1=>thn h1 fun u s2 h2=>thn h2 fun c s3 ⟨x,H1,I1,r1,q1⟩=> ?_) h1;obtain⟨d,rfl,q⟩:=q1;cases r1;exact wpAny_truthy_bool ⟨H1,I1,q⟩
theorem ZgY{e:Expr}{t:TE}(h:PE X e t)(he:∀whole,isTrue e X.env whole=(do let v<-whole;standAt e.pos;holding [v] (truthy v)):=by intro _;rfl):PT X e (tB t):=by
 intro pins s σ H Q I hw;refine isTrue_plain (thn (h pins s σ H _ I hw) fun v s1 ⟨x,H1,I1,r1,q1⟩=> ?_) (he _);obtain⟨d,rfl,q⟩:=q1;cases r1;exact wpAny_truthy_bool ⟨H1,I1,q⟩
variable {tA tB':TT} {rest:List Expr}
def Zsx(t u:TT):TT:=fun σ H Q=>t σ H fun c H1=>if c=true then u σ H1 Q else Q false H1
def tOr(t u:TT):TT:=fun σ H Q=>t σ H fun c H1=>if c=true then Q true H1 else u σ H1 Q
def Zsy(t:TT):TT:=fun σ H Q=>t σ H fun c H1=>Q (!c) H1
theorem Jl(ha:PT X a tA):PW X (.BoolOp .And [a] pos) tA:=by
 intro wh pins s σ H Q I h;refine isTrue_and (thn (ha pins s σ H Q I h) fun c s1 e=> ?_);cases c with
 |true=>exact isTrue_and_nil e
 |false=>exact e
theorem ZgZ(ha:PT X a tA):PW X (.BoolOp .Or [a] pos) tA:=by
 intro wh pins s σ H Q I h;refine isTrue_or (thn (ha pins s σ H Q I h) fun c s1 e=> ?_);cases c with
 |false=>exact isTrue_or_nil e
 |true=>exact e
theorem Za4(ha:PT X a tA)(hb:PW X (.BoolOp .And (b::rest) pos) tB'):PW X (.BoolOp .And (a::b::rest) pos) (Zsx tA tB'):=by
 intro wh pins s σ H Q I h;refine isTrue_and (thn (ha pins s σ H _ I h) fun c s1 ⟨H1,I1,q1⟩=> ?_);cases c with
 |true=>exact hb wh pins s1 σ H1 Q I1 q1
 |false=>exact⟨H1,I1,q1⟩
theorem ZiB(ha:PT X a tA)(hb:PW X (.BoolOp .Or (b::rest) pos) tB'):PW X (.BoolOp .Or (a::b::rest) pos) (tOr tA tB'):=by
 intro wh pins s σ H Q I h;refine isTrue_or (thn (ha pins s σ H _ I h) fun c s1 ⟨H1,I1,q1⟩=> ?_);cases c with
 |true=>exact⟨H1,I1,q1⟩
 |false=>exact hb wh pins s1 σ H1 Q I1 q1
theorem ZnI(ha:PT X a tA):PT X (.UnaryOp .Not a pos) (Zsy tA):=by
 intro pins s σ H Q I h;exact isTrue_not (ha pins s σ H (fun c H1=>Q (!c) H1) I h)
def ZrB(ta tb:TE):TE:=fun σ H Q=>ta σ H fun x H1=>∃c,x=.bl c/\if c=true then tb σ H1 Q else Q (.bl false) H1
theorem ZnJ{op}{t:TE}(h:PE X a t):PE X (.BoolOp op [a] pos) t:=fun pins s σ H Q I hw=>BoolOp_one (h pins s σ H Q I hw)
theorem ZnK(ha:PE X a ta)(hb:PE X (.BoolOp .And (b::rest) pos) tb):PE X (.BoolOp .And (a::b::rest) pos) (ZrB ta tb):=by
 intro pins s σ H Q I h;refine BoolOp_and (thn (ha pins s σ H _ I h) fun v s1 ⟨x,H1,I1,r1,q1⟩=> ?_);obtain⟨c,rfl,q1⟩:=q1;cases r1;refine wpAny_truthy_bool ?_;cases c with
 |true=>exact hb pins s1 σ H1 Q I1 q1
 |false=>exact⟨.bl false,H1,I1,rfl,q1⟩
def tIf(t:TT)(ta tb:TE):TE:=fun σ H Q=>t σ H fun c H1=>if c=true then ta σ H1 Q else tb σ H1 Q
theorem Zkl{c:Expr}(hc:PT X c tA)(ha:PE X a ta)(hb:PE X b tb):PE X (.IfExp c a b pos) (tIf tA ta tb):=by
 intro pins s σ H Q I h;refine wpAny_IfExp (thn (hc pins s σ H _ I h) fun d s1 ⟨H1,I1,q1⟩=> ?_);cases d with
 |true=>exact ha pins s1 σ H1 Q I1 q1
 |false=>exact hb pins s1 σ H1 Q I1 q1
end
end L2
namespace L2
open PySem PySem.Spec PyProof.Rows
def SqL(K:PySem.W.Frag)(H:Hp)(a:Addr)(xs:List V):Prop:=
 Rd H a (.lst xs)\/
  ∃(o:Obj) (its:Array Value) (n:Nat),K.lookup a=some o/\o.cls=.type "list"/\o.dict=none/\o.data=.seq its n/\its.size<=sizeLine/\Yb xs its.toList
def SqT(K:PySem.W.Frag)(H:Hp)(a:Addr)(xs:List V):Prop:=
 Rd H a (.tup xs)\/
  ∃(o:Obj) (its:Array Value) (n:Nat),K.lookup a=some o/\o.cls=.type "tuple"/\o.data=.seq its n/\its.size<=sizeLine/\Yb xs its.toList
def Zsz:Value->Option V
 | .none=>some .non
 | .bool b=>some (.bl b)
 | .int i _=>some (.int i)
 | .str x _=>some (.str x)
 | .bytes b _=>some (.byt b)
 | .float b _=>some (.flt b)
 | .ref a=>some (.ref a)
 | .type n=>some (.ty n)
 |_=>none
theorem ZV.abs{x:V}{u:Value}(r:ZV x u):Zsz u=some x:=by
 cases x with
 |non=>cases r;rfl
 |bl _=>cases r;rfl
 |int _=>obtain⟨t,rfl⟩:=r;rfl
 |str _=>obtain⟨t,rfl⟩:=r;rfl
 |byt _=>obtain⟨t,rfl⟩:=r;rfl
 |flt _=>obtain⟨t,rfl⟩:=r;rfl
 |ref _=>cases r;rfl
 |ty _=>cases r;rfl
theorem ZV.inj{x y:V}{u:Value}(r:ZV x u)(q:ZV y u):x=y:=Option.some.inj (r.abs.symm.trans q.abs)
theorem Yb.inj:∀{xs ys:List V} {us:List Value},Yb xs us->Yb ys us->xs=ys
 |_,_,_,.nil,.nil=>rfl
 |_,_,_,.cons r t,.cons r' t'=>by rw[r.inj r',Yb.inj t t']
section
variable {X:Cx} {pins:List (Addr×Obj)} {σ:St} {H:Hp} {s:Shared} {a:Addr} {xs ys:List V}
theorem SqL.of{K:PySem.W.Frag}(h:H a=some (.lst xs)):SqL K H a xs:=.inl (.inl h)
theorem SqT.of{K:PySem.W.Frag}(h:H a=some (.tup xs)):SqT K H a xs:=.inl (.inl h)
theorem Inv.list(I:Inv X pins σ H s)(h:SqL X.K H a xs):∃its:List Value,Yb xs its/\PlainL s.heap a its.toArray/\xs.length<=sizeLine:=by
 rcases h with h|⟨o,its,n,hk,hc,hd,hs,hz,r⟩
 ·obtain⟨z,its,n,r,e⟩:=h.ok I.hok;exact⟨its,r,⟨_,n,e,rfl,rfl,rfl⟩,z⟩
 ·refine⟨its.toList,r,⟨o,n,I.kIn a o hk,hc,hd,by simpa using hs⟩, ?_⟩;have e:=r.length;simp only [Array.length_toList] at e
  omega
theorem Inv.tuple(I:Inv X pins σ H s)(h:SqT X.K H a xs):∃its:List Value,Yb xs its/\IsTup s.heap a its.toArray/\xs.length<=sizeLine:=by
 rcases h with h|⟨o,its,n,hk,hc,hs,hz,r⟩
 ·obtain⟨z,its,r,p⟩:=h.ok I.hok;exact⟨its,r,p,z⟩
 ·refine⟨its.toList,r,⟨o,I.kIn a o hk,hc,n,by simpa using hs⟩, ?_⟩;have e:=r.length;simp only [Array.length_toList] at e
  omega
theorem Inv.list_inj(I:Inv X pins σ H s)(h:SqL X.K H a xs)(h':SqL X.K H a ys):xs=ys:=by
 obtain⟨its,r,⟨o,n,e,_,_,d⟩,_⟩:=I.list h;obtain⟨its',r',⟨o',n',e',_,_,d'⟩,_⟩:=I.list h';rw[e] at e';cases e'
 rw[d] at d'
 injection d' with d1 _
 have:its=its':=by simpa using congrArg Array.toList d1
 subst this;exact r.inj r'
theorem Inv.tuple_inj(I:Inv X pins σ H s)(h:SqT X.K H a xs)(h':SqT X.K H a ys):xs=ys:=by
 obtain⟨its,r,⟨o,e,_,n,d⟩,_⟩:=I.tuple h;obtain⟨its',r',⟨o',e',_,n',d'⟩,_⟩:=I.tuple h';rw[e] at e';cases e'
 rw[d] at d'
 injection d' with d1 _
 have:its=its':=by simpa using congrArg Array.toList d1
 subst this;exact r.inj r'
end
abbrev Cx.wish(X:Cx)(E:Value->Shared->Prop):Cx:={X with xe:=E}
abbrev Cx.nox(X:Cx):Cx:=X.wish fun _ _=>False
theorem Cx.Ok.wish{X:Cx}(ok:X.Ok)(E:Value->Shared->Prop):(X.wish E).Ok:=
 ⟨ok.mod,ok.kind,ok.glob,ok.blt,ok.above,ok.inj,ok.has,ok.cab,ok.hd,ok.frames,ok.stk,ok.exf,ok.bs,ok.bsz,ok.noex,ok.exfs,ok.funs,ok.frf⟩
theorem Cx.Ok.unwish{X:Cx}{E:Value->Shared->Prop}(ok:(X.wish E).Ok):X.Ok:=
 ⟨ok.mod,ok.kind,ok.glob,ok.blt,ok.above,ok.inj,ok.has,ok.cab,ok.hd,ok.frames,ok.stk,ok.exf,ok.bs,ok.bsz,ok.noex,ok.exfs,ok.funs,ok.frf⟩
section
variable {X:Cx} {pins:List (Addr×Obj)} {σ:St} {H:Hp} {s:Shared} {E:Value->Shared->Prop}
theorem Inv.wish(I:Inv X pins σ H s)(E:Value->Shared->Prop):Inv (X.wish E) pins σ H s:=⟨I.ok.wish E,I.os,I.bare,I.base,I.loc,I.cell,I.free,I.freeC,I.pin,I.hok,I.len⟩
theorem Inv.unwish(I:Inv (X.wish E) pins σ H s):Inv X pins σ H s:=⟨I.ok.unwish,I.os,I.bare,I.base,I.loc,I.cell,I.free,I.freeC,I.pin,I.hok,I.len⟩
theorem SP.unwish{D:Zje}{f:Flow}{s':Shared}(h:SP (X.wish E) pins D f s'):SP X pins D f s':=by
 cases f with
 |next=>obtain⟨σ',H',I,q⟩:=h;exact⟨σ',H',I.unwish,q⟩
 |brk=>obtain⟨σ',H',I,q⟩:=h;exact⟨σ',H',I.unwish,q⟩
 |cont=>obtain⟨σ',H',I,q⟩:=h;exact⟨σ',H',I.unwish,q⟩
 |ret u=>obtain⟨v,σ',H',I,r,q⟩:=h;exact⟨v,σ',H',I.unwish,r,q⟩
theorem PSs.nox{st:List Stmt}{t:TS}(h:PSs X.nox st t):PSs X st t:=fun pins s σ H D I hw=>
 wpAny_mono (h pins s σ H D (I.wish _) hw) (fun _ _ q=>q.unwish) fun _ _ z=>False.elim z
end
section
variable {X:Cx} {st:Stmt} {rest:List Stmt} {t u:TS} {e:Expr} {te:TE} {pos:Pos}
def ZrC:TS:=fun D σ H=>D.nx σ H
def Zpx(t u:TS):TS:=fun D σ H=>t {D with nx:=u D} σ H
theorem ZF:PSs X [] ZrC:=fun _ _ σ H _ I h=>wpAny_execs_nil ⟨σ,H,I,h⟩
theorem Zi(h1:PS X st t)(h2:PSs X rest u):PSs X (st::rest) (Zpx t u):=by
 intro pins s σ H D I h;refine wpAny_execs_cons (thn (h1 pins s σ H {D with nx:=u D} I h) fun f s1 q=> ?_);cases f with
 |next=>
  obtain⟨σ',H',I',q⟩:=q;exact h2 pins s1 σ' H' D I' q
 |ret v=>exact q
 |brk=>exact q
 |cont=>exact q
theorem Zo(h1:PS X st t):PSs X [st] t:=by
 intro pins s σ H D I h;refine wpAny_execs_cons (thn (h1 pins s σ H D I h) fun f s1 q=> ?_);cases f with
 |next=>exact wpAny_execs_nil q
 |ret v=>exact q
 |brk=>exact q
 |cont=>exact q
theorem Inv.quiet{pins:List (Addr×Obj)}{σ:St}{H:Hp}{s:Shared}(I:Inv X pins σ H s):interactive X.env=false:=by simp[interactive,I.ok.kind]
def ZrD(te:TE):TS:=fun D σ H=>te σ H fun _ H1=>D.nx σ H1
theorem Xf(he:PE X e te)(hs:swapsWith e none pos.line X.env=pure false:=by rfl):PS X (.Expr e pos) (ZrD te):=by
 intro pins s σ H D I h;exact wpAny_Expr_any (thn (he pins s σ H _ I h) fun v s1 ⟨x,H1,I1,r1,q1⟩=>⟨σ,H1,I1,q1⟩) I.quiet hs
def ZsA(te:TE):TS:=fun D σ H=>te σ H D.rt
theorem Zw(he:PE X e te):PS X (.Return (some e) pos) (ZsA te):=by
 intro pins s σ H D I h;exact wpAny_Return_some (thn (he pins s σ H _ I h) fun v s1 ⟨x,H1,I1,r1,q1⟩=>⟨x,σ,H1,I1,r1,q1⟩)
def ZsB(c:TT)(t u:TS):TS:=fun D σ H=>c σ H fun b H1=>if b=true then t D σ H1 else u D σ H1
theorem Ye{c:Expr}{a b:List Stmt}{tc:TT}(hc:PT X c tc)(ha:PSs X a t)(hb:PSs X b u):PS X (.If c a b pos) (ZsB tc t u):=by
 intro pins s σ H D I h;refine wpAny_If (thn (hc pins s σ H _ I h) fun d s1 ⟨H1,I1,q1⟩=> ?_);cases d with
 |true=>exact ha pins s1 σ H1 D I1 q1
 |false=>exact hb pins s1 σ H1 D I1 q1
def ZqS:TS:=fun _ _ _=>False
theorem ZeU:PS X st ZqS:=fun _ _ _ _ _ _ h=>h.elim
end
abbrev TG:=V->St->Hp->(St->Hp->Prop)->Prop
abbrev TGs:=List V->St->Hp->(St->Hp->Prop)->Prop
def PG(X:Cx)(target:Expr)(t:TG):Prop:=
 ∀(pins:List (Addr×Obj)) (s:Shared) (σ:St) (H:Hp) (v:V) (u:Value) (Q:St->Hp->Prop),Inv X pins σ H s->ZV v u->t v σ H Q->
  wpAny (model X.prog X.w) X.A (assign target X.env u) (fun _ s'=>∃σ' H',Inv X pins σ' H' s'/\Q σ' H') X.xe s
def PGs(X:Cx)(ts:List Expr)(t:TGs):Prop:=
 ∀(pins:List (Addr×Obj)) (s:Shared) (σ:St) (H:Hp) (vs:List V) (us:List Value) (Q:St->Hp->Prop),Inv X pins σ H s->Yb vs us->t vs σ H Q->
  wpAny (model X.prog X.w) X.A (assignInOrder ((assignEach ts X.env).map (·.2)) us) (fun _ s'=>∃σ' H',Inv X pins σ' H' s'/\Q σ' H') X.xe s
section
variable {X:Cx} {pos:Pos}
def ZnL(i:Nat):TG:=fun v σ H Q=>Q (σ.set i (some v)) H
theorem ZK{i:Nat}{x:Str}(hN:X.N.Nodup)(hi:X.N[i]? =some x)(hx:Loc X.env.scope x)(hf:X.fn x=true\/X.env.scope.names.lookup x=some .local:=by first|exact .inl rfl|exact .inr rfl|assumption):PG X (.Name x pos) (ZnL i):=by
 intro pins s σ H v u Q I r h;exact wpAny_assign_Name (Zkk I hN hi hx r (fun s' I'=>⟨_,H,I',h⟩) hf)
def ZsC:TGs:=fun vs σ H Q=>vs=[]/\Q σ H
def ZrE(t:TG)(u:TGs):TGs:=fun vs σ H Q=>∃v r,vs=v::r/\t v σ H fun σ' H'=>u r σ' H' Q
theorem ZeV:PGs X [] ZsC:=by
 intro pins s σ H vs us Q I r h;obtain⟨e,h⟩:=h;subst e;cases r;exact assignInOrder_nil ⟨σ,H,I,h⟩
theorem Jm{e:Expr}{es:List Expr}{t:TG}{u:TGs}(h1:PG X e t)(h2:PGs X es u)
  (hs:(assignEach (e::es) X.env).map (·.2)=assign e X.env::(assignEach es X.env).map (·.2):=by rfl):PGs X (e::es) (ZrE t u):=by
 intro pins s σ H vs us Q I r h;obtain⟨v,vr,e1,h⟩:=h;subst e1;cases r with
 |cons r rr=>
  rw[hs];refine assignInOrder_cons (thn (h1 pins s σ H _ _ _ I r h) fun _ s1 ⟨σ1,H1,I1,q1⟩=> ?_);exact h2 pins s1 σ1 H1 _ _ Q I1 rr q1
def ZrF(K:PySem.W.Frag)(n:Nat)(t:TGs):TG:=fun v σ H Q=>∃a xs,v=.ref a/\SqT K H a xs/\xs.length=n/\t xs σ H Q
theorem Zlh{es:List Expr}{k:Nat}{t:TGs}{n:Nat}(hc:X.calm=true)(h:PGs X es t)
  (hn:(assignEach es X.env).length=n:=by rfl)(hst:(assignEach es X.env).findIdx? (·.1)=none:=by rfl):PG X (.Tuple es k pos) (ZrF X.K n t):=by
 intro pins s σ H v u Q I r hw;obtain⟨a,xs,e1,hq,hl,hw⟩:=hw;subst e1;cases r;obtain⟨its,rv,ht,hz⟩:=I.tuple hq;refine assign_Tuple_tuple (I.ok.hd hc) ht (by simp[hn,<-hl,rv.length]) hst fun h' hx=> ?_;have I1:Inv X pins σ H {s with heap:=h'}:=I.kept (t':=s.toks) fun b o e=>hx b o (Nat.ne_of_lt (Heap.lt_size e)) e;exact h pins _ σ H xs _ Q I1 (by simpa using rv) hw
def ZrG(te:TE)(g:TG):TS:=fun D σ H=>te σ H fun x H1=>g x σ H1 D.nx
theorem Zv{i:Nat}{x:Str}{e:Expr}{te:TE}{pos':Pos}(hN:X.N.Nodup)(hi:X.N[i]? =some x)(hx:Loc X.env.scope x)(he:PE X e te)(hs:swapsWith e (some (.Name x pos')) pos.line X.env=pure false:=by rfl)(hf:X.fn x=true\/X.env.scope.names.lookup x=some .local:=by first|exact .inl rfl|exact .inr rfl|assumption):
  PS X (.Assign [.Name x pos'] e pos) (ZrG te (ZnL i)):=by
 intro pins s σ H D I h;refine wpAny_Assign_Name (thn (he pins s σ H _ I h) fun v s1 ⟨y,H1,I1,r1,q1⟩=> ?_) hs;exact Zkk I1 hN hi hx r1 (fun s2 I2=>⟨_,H1,I2,q1⟩) hf
end
section
variable {X:Cx} {pos:Pos}
def ZqT(c:TT)(tb:TS):TS:=fun D σ H=>∃W:Nat->St->Hp->Prop,(∃m,W m σ H)/\∀m σ H,W m σ H->
 c σ H fun b H1=>if b=true then∃N:St->Hp->Prop,(∀σ' H',N σ' H'->∃m',m'<m/\W m' σ' H')/\tb {D with nx:=N,ct:=N,bk:=D.nx} σ H1 else D.nx σ H1
theorem ZnM{c:Expr}{body:List Stmt}{tc:TT}{tb:TS}(hp:PassesOwn (model X.prog X.w) X.A X.env X.xe)(hc:PT X c tc)(hb:PSs X body tb):PS X (.While c body [] pos) (ZqT tc tb):=by
 intro pins s σ H D I h;obtain⟨W,⟨m0,w0⟩,turn⟩:=h;refine wpAny_While (codeAny_whileLoop (fun n s'=>∃σ' H',Inv X pins σ' H' s'/\W n σ' H') ?_ m0 ⟨σ,H,I,w0⟩);rintro n s1 ⟨σ1,H1,I1,w1⟩;refine wpAny_passesOwn hp (thn (hc pins s1 σ1 H1 _ I1 (turn n σ1 H1 w1)) fun b s2 ⟨H2,I2,q2⟩=> ?_);cases b with
 |true=>
  obtain⟨N,hN,q2⟩:=q2;rw[if_pos rfl];refine wpAny_passesOwn hp (thn (hb pins s2 σ1 H2 _ I2 q2) fun f s3 q3=> ?_);cases f with
  |next=>
   obtain⟨σ3,H3,I3,n3⟩:=q3;obtain⟨m',hm,w3⟩:=hN σ3 H3 n3;exact⟨m',hm,σ3,H3,I3,w3⟩
  |cont=>
   obtain⟨σ3,H3,I3,n3⟩:=q3;obtain⟨m',hm,w3⟩:=hN σ3 H3 n3;exact⟨m',hm,σ3,H3,I3,w3⟩
  |brk=>exact q3
  |ret v=>exact q3
 |false=>
  rw[if_neg Bool.false_ne_true];exact wpAny_execs_nil ⟨σ1,H2,I2,q2⟩
end
structure It where
 go:Nat->Hp->Prop
 yld:Nat->Hp->V->Hp->Prop
 stop:Nat->Hp->Prop
def Zia(X:Cx)(pins:List (Addr×Obj))(H:Hp)(b:Addr):Prop:=
 H b=none/\b≠X.env.locals/\b∉X.fs/\(b∈X.ex\/X.s₀.heap.objs.size<=b)/\(∀x c,X.env.cells.lookup x=some c->c≠b)/\∀p∈X.pn++pins,p.1≠b
theorem Inv.fpOk{X:Cx}{pins:List (Addr×Obj)}{σ:St}{H H':Hp}{s:Shared}{b:Addr}(I:Inv X pins σ H s)(hb:s.heap.objs.size<=b)(hn:H' b=none):Zia X pins H' b:=by
 refine⟨hn,Nat.ne_of_gt (Nat.lt_of_lt_of_le I.lt hb),I.nofs hb,.inr (Nat.le_trans I.sz hb),fun x c e z=> ?_,fun p hp z=> ?_⟩
 ·obtain⟨v,q⟩:=I.cell x c e;exact absurd (Nat.lt_of_lt_of_le q.lt (by rw[z];exact hb)) (Nat.lt_irrefl _)
 ·exact absurd (Nat.lt_of_lt_of_le (Heap.lt_size (I.pin p hp).1) (by rw[z];exact hb)) (Nat.lt_irrefl _)
structure ZmS (P:Program) (w:World) (K:PySem.W.Frag) (tg:Expr) (J:It) (fp:List Addr) (it:Addr) (tn:Nat->Heap->Prop):Prop where
 mem:it∈fp
 obj:∀i h,tn i h->∀b∈fp,∃o,h.get? b=some o/\∀v,o.data≠.cell v
 keep:∀i h h',tn i h->(∀b∈fp,∀o,h.get? b=some o->h'.get? b=some o)->tn i h'
 item:∀(X:Cx),X.prog=P->X.w=w->X.K=K->X.calm=true->∀(i:Nat) (pins:List (Addr×Obj)) (s:Shared) (σ:St) (H:Hp) (E:Value->Shared->Prop),Inv X pins σ H s->(∀b∈fp,Zia X pins H b)->tn i s.heap->J.go i H->
  wpAny (model P w) X.A (pyNext (.ref it)) (fun r s1=>∃u,r=some u/\
   wpAny (model P w) X.A (letOwnedTupleGo tg (.ref it) u) (fun _ s2=>∃x H',Inv X pins σ H' s2/\ZV x u/\J.yld i H x H'/\tn (i+1) s2.heap/\∀b∈fp,H' b=none) E s1) E s
 done:∀(X:Cx),X.prog=P->X.w=w->X.K=K->X.calm=true->∀(i:Nat) (pins:List (Addr×Obj)) (s:Shared) (σ:St) (H:Hp) (E:Value->Shared->Prop),Inv X pins σ H s->(∀b∈fp,Zia X pins H b)->tn i s.heap->J.stop i H->
  wpAny (model P w) X.A (pyNext (.ref it)) (fun r s1=>r=none/\Inv X pins σ H s1) E s
 self:∀(A:Around) (i:Nat) (s:Shared) (Q:Value->Shared->Prop) (E:Value->Shared->Prop),tn i s.heap->Q (.ref it) s->wpAny (model P w) A (pyIter (.ref it)) Q E s
abbrev TI:=St->Hp->(It->Hp->Prop)->Prop
def PIE(X:Cx)(pins:List (Addr×Obj))(σ:St)(tg:Expr)(R:It->Hp->Prop)(itv:Value)(s2:Shared):Prop:=
 ∃(it:Addr) (fp:List Addr) (tn:Nat->Heap->Prop) (J:It) (H':Hp),itv=.ref it/\Inv X pins σ H' s2/\ZmS X.prog X.w X.K tg J fp it tn/\tn 0 s2.heap/\(∀b∈fp,Zia X pins H' b)/\R J H'
def PI(X:Cx)(tg iter:Expr)(wi:TI):Prop:=
 ∀(pins:List (Addr×Obj)) (s:Shared) (σ:St) (H:Hp) (R:It->Hp->Prop),Inv X pins σ H s->wi σ H R->
  wpAny (model X.prog X.w) X.A (eval iter X.env) (fun v s1=>wpAny (model X.prog X.w) X.A (pyIter v) (PIE X pins σ tg R) X.xe s1) X.xe s
theorem Zmi{M:Model}{A:Around}{E:Value->Shared->Prop}{s:Shared}{tg:Expr}{it:Addr}{u:Value}{o:Obj}{n:String}{vs:Array Value}{Q:Unit->Shared->Prop}(ho:s.heap.get? it=some o)(hc:o.cls=.type n)(hd:o.data=.fields vs)
  (hn:["enumerate","zip","dict_itemiterator","dict_reverseitemiterator","odict_iterator","itertools.zip_longest","itertools.pairwise"].contains n=false)(hQ:Q () s):wpAny M A (letOwnedTupleGo tg (.ref it) u) Q E s:=by
 unfold letOwnedTupleGo;cases tg<;>first
  |exact wpAny_pure hQ
  |(cases u<;>first
    |exact wpAny_pure hQ
    |(refine wpAny_bind (wpAny_load ho ?_)
      rw[hc,hd];show wpAny M A (if(["enumerate","zip","dict_itemiterator","dict_reverseitemiterator","odict_iterator","itertools.zip_longest","itertools.pairwise"].contains n&&vs[0]? ==some (rawInt _))=true then _ else _) Q E s;rw[if_neg (by intro h;rw[hn,Bool.false_and] at h;cases h)]
      exact wpAny_pure hQ))
def Itl(K:PySem.W.Frag)(a:Addr):It:=
 ⟨fun i H=>∃xs x,SqL K H a xs/\xs[i]? =some x,fun i H x H'=>H'=H/\∀xs,SqL K H a xs->xs[i]? =some x,fun i H=>∃xs,SqL K H a xs/\xs.length<=i⟩
def Itr(lo:Int)(n:Nat):It:=⟨fun i _=>i<n,fun i H x H'=>H'=H/\x=.int (lo+i),fun i _=>n<=i⟩
theorem ZmT{P:Program}{w:World}{K:PySem.W.Frag}{tg:Expr}(a it:Addr):ZmS P w K tg (Itl K a) [it] it (fun i h=>h.IsListIter it a i) where
 mem:=by simp
 obj:=fun i h st b hb=>by
  have e:b=it:=by simpa using hb
  subst e;obtain⟨o,e,c,d⟩:=st;exact⟨o,e,fun v z=>by rw[d] at z;cases z⟩
 keep:=fun i h h' st k=>st.at fun o e=>k it (by simp) o e
 item:=by
  intro X hP hw hK hc i pins s σ H E I hf st hg;subst hP hw hK;obtain⟨xs,x,hq,hx⟩:=hg;obtain⟨its,rv,p,hz⟩:=I.list hq;obtain⟨u,hu,ru⟩:=rv.get hx;obtain⟨f0,f1,f2,f3,f4,f5⟩:=hf it (by simp);refine wpAny_pyNext_list_item st p.isList (x:=u) (by simpa using hu) fun h' st' sb=> ?_;have I1:Inv X pins σ H {s with heap:=h'}:=I.turned (t':=s.toks) (fun b o hb e=>(sb.2 b hb).trans e) f0 f1 f3 f4 f5;obtain⟨o,e,c,d⟩:=id st'
  exact⟨u,rfl,Zmi (s:={s with heap:=h'}) e c d (by decide) ⟨x,H,I1,ru,⟨rfl,fun ys hy=>by rw[I.list_inj hy hq];exact hx⟩,st',fun b hb=>(hf b hb).1⟩⟩
 done:=by
  intro X hP hw hK hc i pins s σ H E I hf st hg;subst hP hw hK;obtain⟨xs,hq,hx⟩:=hg;obtain⟨its,rv,p,hz⟩:=I.list hq;obtain⟨f0,f1,f2,f3,f4,f5⟩:=hf it (by simp);have hl:=rv.length;exact wpAny_pyNext_list_end (I.ok.hd hc) st p.isList (by simp;omega) fun h' eb=>⟨rfl,I.turned (t':=s.toks) (fun b o hb e=>eb b o hb e) f0 f1 f3 f4 f5⟩
 self:=fun _ _ _ _ _ st h=>wpAny_pyIter_listiter st h
theorem Zli{P:Program}{w:World}{K:PySem.W.Frag}{tg:Expr}(it:Addr)(lo:Int)(n:Nat):ZmS P w K tg (Itr lo n) [it] it (fun i h=>IsRangeIter h it (lo+(i:Nat)*1) ((n:Int)-(i:Nat)) 1) where
 mem:=by simp
 obj:=fun i h st b hb=>by
  have e:b=it:=by simpa using hb
  subst e;exact⟨_,st,fun v z=>by
   have z':Data.fields _=Data.cell v:=z;cases z'⟩
 keep:=fun i h h' st k=>k it (by simp) _ st
 item:=by
  intro X hP hw hK hc i pins s σ H E I hf st hg;subst hP hw hK;obtain⟨f0,f1,f2,f3,f4,f5⟩:=hf it (by simp);have W:=Walks.range (prog:=X.prog) (w:=X.w) (I.ok.hd hc) it lo 1 n;refine W.item i s _ _ hg st fun v h' tk hv st' kk=> ?_;obtain⟨t,rfl⟩:=hv;have I1:Inv X pins σ H {s with heap:=h',toks:=tk}:=I.turned (fun b o hb e=>kk b o (by simpa using hb) e) f0 f1 f3 f4 f5;refine⟨_,rfl,Zmi (s:={s with heap:=h',toks:=tk}) (n:="range_iterator") st' rfl rfl (by decide) ⟨.int (lo+i),H,I1,⟨t, ?_⟩,⟨rfl,rfl⟩,st',fun b hb=>(hf b hb).1⟩⟩
  rw[Int.mul_one]
 done:=by
  intro X hP hw hK hc i pins s σ H E I hf st hg;subst hP hw hK;obtain⟨f0,f1,f2,f3,f4,f5⟩:=hf it (by simp);exact wpAny_pyNext_range_end (I.ok.hd hc) st (by have:n<=i:=hg;omega) fun h' eb=>⟨rfl,I.turned (t':=s.toks) (fun b o hb e=>eb b o hb e) f0 f1 f3 f4 f5⟩
 self:=fun _ _ _ _ _ st h=>wpAny_pyIter_rangeiter st h
end L2
namespace L2
open PySem PySem.Spec PyProof.Rows
section
variable {X:Cx} {tg:Expr}
def ZrH(K:PySem.W.Frag)(tl:TE):TI:=fun σ H R=>tl σ H fun x H1=>∃a,x=.ref a/\(∃xs,SqL K H1 a xs)/\R (Itl K a) H1
theorem Yy{l:Expr}{tl:TE}(hl:PE X l tl):PI X tg l (ZrH X.K tl):=by
 intro pins s σ H R I h;refine thn (hl pins s σ H _ I h) fun v s1 ⟨x,H1,I1,r1,q1⟩=> ?_;obtain⟨a,e,⟨xs,hq⟩,q⟩:=q1;subst e;cases r1;obtain⟨its,rv,p,hz⟩:=I1.list hq;refine wpAny_pyIter_list p.isList ?_;refine⟨s1.heap.objs.size,[s1.heap.objs.size],_,_,H1,rfl,I1.kept (t':=s1.toks) fun b o e=>Heap.get?_push_of_some _ e,ZmT a _,⟨_,Heap.get?_push_size _ rfl,rfl,rfl⟩,fun b hb=> ?_,q⟩;have e:b=s1.heap.objs.size:=by simpa using hb
 subst e;exact I1.fpOk (Nat.le_refl _) (I1.hok.fresh (Nat.le_refl _))
theorem ZnN{pins:List (Addr×Obj)}{σ:St}{H:Hp}{s:Shared}{R:It->Hp->Prop}{E:Value->Shared->Prop}{lo hi:Int}{t u v:Tok}{tk:Nat}(I:Inv X pins σ H s)(h1: -(2^62)<=lo)(h2:lo<2^62)(h3: -(2^62)<=hi)(h4:hi<2^62)
  (q:R (Itr lo (hi-lo).toNat) H):wpAny (model X.prog X.w) X.A (pyIter (.ref s.heap.objs.size)) (PIE X pins σ tg R) E {s with heap:=s.heap.push {cls:=.type "range",data:=.fields #[.int lo t,.int hi u,.int 1 v]},toks:=tk}:=by
 refine wpAny_pyIter_range (IsRange.new ..) (small_one h1 h2 h3 h4) ?_;have I1:Inv X pins σ H {s with heap:=s.heap.push {cls:=.type "range",data:=.fields #[.int lo t,.int hi u,.int 1 v]},toks:=tk}:=I.kept fun b o e=>Heap.get?_push_of_some _ e;refine⟨(s.heap.push {cls:=.type "range",data:=.fields #[.int lo t,.int hi u,.int 1 v]}).objs.size,[(s.heap.push {cls:=.type "range",data:=.fields #[.int lo t,.int hi u,.int 1 v]}).objs.size],_,_,H,rfl,
  I1.kept (t':=tk) fun b o e=>Heap.get?_push_of_some _ e,Zli _ lo (hi-lo).toNat, ?_,fun b hb=> ?_,q⟩
 ·have e1:lo+((0:Nat):Int)*1=lo:=by simp
  have e2:(((hi-lo).toNat:Nat):Int)-((0:Nat):Int)=Builtin.Range.rangeSize lo hi 1:=by rw[rangeSize_one];split<;>omega
  show IsRangeIter _ _ (lo+((0:Nat):Int)*1) ((((hi-lo).toNat:Nat):Int)-((0:Nat):Int)) 1;rw[e1,e2];exact Heap.get?_push_size _ rfl
 ·have e:b=(s.heap.push {cls:=.type "range",data:=.fields #[.int lo t,.int hi u,.int 1 v]}).objs.size:=by simpa using hb
  subst e;exact I1.fpOk (Nat.le_refl _) (I1.hok.fresh (Nat.le_refl _))
def ZrI(ta:TA):TI:=fun σ H R=>ta σ H fun vs H1=>∃j:Int,vs=[.int j]/\-(2^62)<=j/\j<2^62/\R (Itr 0 j.toNat) H1
theorem Zal{a:Expr}{ta:TA}{p pos:Pos}(hg:Gl X "range")(hm:X.mg "range"=none)(ha:PA X [a] ta)(hs:starEach [a] X.env=[(false,eval a X.env)]:=by rfl):PI X tg (.Call (.Name "range" p) [a] [] pos) (ZrI ta):=by
 intro pins s σ H R I h;refine Call_ (ZfA I hg hm boot_range (PyProof.Rows.callWith_type1 (thn (ha pos pins s σ H _ I h) fun us s1 ⟨vs,H1,I1,r1,q1⟩=> ?_) hs rfl));obtain⟨j,e,q1,q2,q⟩:=q1;subst e;cases r1 with
 |cons r rr=>
  cases rr;obtain⟨t,rfl⟩:=r;exact call_range_1 (ZnN I1 (by omega) (by omega) q1 q2 (by simpa using q))
def ZsD(wi:TI)(g:TG)(tb:TS):TS:=fun D σ H=>wi σ H fun J H1=>∃W:Nat->Nat->St->Hp->Prop,(∃m,W 0 m σ H1)/\∀i m σ H,W i m σ H->
 (J.stop i H/\D.nx σ H)\/(J.go i H/\∃N:St->Hp->Prop,(∀σ' H',N σ' H'->∃m',m'<m/\W (i+1) m' σ' H')/\∀x H',J.yld i H x H'->g x σ H' fun σ2 H2=>tb {D with nx:=N,ct:=N,bk:=D.nx} σ2 H2)
def Zh0(fp:List Addr)(h:Heap):List (Addr×Obj):=fp.filterMap fun b=>(h.get? b).map fun o=>(b,o)
theorem ZcH{fp:List Addr}{h:Heap}{b:Addr}{o:Obj}(hb:b∈fp)(e:h.get? b=some o):(b,o)∈Zh0 fp h:=List.mem_filterMap.mpr ⟨b,hb,by rw[e];rfl⟩
theorem ZmU{fp:List Addr}{h:Heap}{p:Addr×Obj}(hp:p∈Zh0 fp h):p.1∈fp/\h.get? p.1=some p.2:=by
 obtain⟨b,hb,e⟩:=List.mem_filterMap.mp hp;cases q:h.get? b with
 |none=>rw[q] at e;cases e
 |some o=>
  rw[q] at e
  have e':(b,o)=p:=Option.some.inj e;subst e';exact⟨hb,q⟩
theorem Inv.pinned{pins:List (Addr×Obj)}{σ:St}{H:Hp}{s:Shared}{fp:List Addr}(I:Inv X pins σ H s)(hf:∀b∈fp,Zia X pins H b)(ho:∀b∈fp,∃o,s.heap.get? b=some o/\∀v,o.data≠.cell v):Inv X (pins++Zh0 fp s.heap) σ H s:=
 I.pins_of fun p hp=>(List.mem_append.mp hp).elim (fun z=>I.pin p (List.mem_append_right _ z)) fun z=>by
  obtain⟨hb,e⟩:=ZmU z;obtain⟨f0,f1,f2,_⟩:=hf p.1 hb;obtain⟨o,e',d⟩:=ho p.1 hb;rw[e] at e';cases e'
  exact⟨e,f0,f1,f2,d⟩
theorem Inv.unpinned{pins pl:List (Addr×Obj)}{σ:St}{H:Hp}{s:Shared}(I:Inv X (pins++pl) σ H s):Inv X pins σ H s:=I.pins_of fun p hp=>I.pin p (List.mem_append_right _ (List.mem_append_left _ hp))
theorem XQ{iter:Expr}{body:List Stmt}{wi:TI}{g:TG}{tb:TS}{pos:Pos}(hp:PassesOwn (model X.prog X.w) X.A X.env X.xe)(hc:X.calm=true)(hi:PI X tg iter wi)(hg:PG X tg g)(hb:PSs X body tb)
  (hs:∀x,foldedSetIterable iter X.env x=pure x:=by intro _;rfl):PS X (.For tg iter body [] pos) (ZsD wi g tb):=by
 intro pins s σ H D I h;refine wpAny_For (thn (hi pins s σ H _ I h) fun v s1 h1=>thn h1 fun itv s2 h2=> ?_) hs;obtain⟨it,fp,tn,J,H2,e,I2,T,st2,f2,W,⟨m0,w0⟩,turn⟩:=h2;subst e;have stat:∀{H':Hp},(∀b∈fp,H' b=none)->∀b∈fp,Zia X pins H' b:=fun hn b hb=>⟨hn b hb,(f2 b hb).2⟩
 refine codeAny_forLoop_any (fun n s'=>∃i σ' H',Inv X pins σ' H' s'/\tn i s'.heap/\(∀b∈fp,H' b=none)/\W i n σ' H') ?_ m0 ⟨0,σ,H2,I2,st2,fun b hb=>(f2 b hb).1,w0⟩;rintro n s3 ⟨i,σ3,H3,I3,st3,fr3,w3⟩;rcases turn i n σ3 H3 w3 with ⟨stop,qn⟩|⟨go,N,hN,step⟩
 ·refine wpAny_passesOwn hp (thn (T.done X rfl rfl rfl hc i pins s3 σ3 H3 X.xe I3 (stat fr3) st3 stop) fun r s4 ⟨hr,I4⟩=> ?_);subst hr;exact wpAny_execs_nil ⟨σ3,H3,I4,qn⟩
 ·refine wpAny_passesOwn hp (thn (T.item X rfl rfl rfl hc i pins s3 σ3 H3 X.xe I3 (stat fr3) st3 go) fun r s4 ⟨u,hr,h4⟩=> ?_);subst hr;refine wpAny_passesOwn hp (thn h4 fun _ s5 ⟨x,H5,I5,r5,y5,st5,fr5⟩=> ?_);have I5':=I5.pinned (stat fr5) (T.obj _ _ st5);refine wpAny_passesOwn hp (thn (hg _ s5 σ3 H5 x u _ I5' r5 (step x H5 y5)) fun _ s6 ⟨σ6,H6,I6,q6⟩=> ?_);refine wpAny_passesOwn hp (thn (hb _ s6 σ6 H6 _ I6 q6) fun f s7 q7=> ?_)
  have again:∀{σ7:St} {H7:Hp},Inv X (pins++Zh0 fp s5.heap) σ7 H7 s7->N σ7 H7->∃m,m<n/\∃i σ' H',Inv X pins σ' H' s7/\tn i s7.heap/\(∀b∈fp,H' b=none)/\W i m σ' H':=fun{σ7 H7} I7 n7=>by
   obtain⟨m',hm,w7⟩:=hN σ7 H7 n7;refine⟨m',hm,i+1,σ7,H7,I7.unpinned,T.keep _ _ _ st5 fun b hb o e=>(I7.pin (b,o) (List.mem_append_right _ (List.mem_append_right _ (ZcH hb e)))).1,fun b hb=> ?_,w7⟩;obtain⟨o,e,d⟩:=T.obj _ _ st5 b hb;exact(I7.pin (b,o) (List.mem_append_right _ (List.mem_append_right _ (ZcH hb e)))).2.1
  cases f with
  |next=>obtain⟨σ7,H7,I7,n7⟩:=q7;exact again I7 n7
  |cont=>obtain⟨σ7,H7,I7,n7⟩:=q7;exact again I7 n7
  |brk=>obtain⟨σ7,H7,I7,q7⟩:=q7;exact⟨σ7,H7,I7.unpinned,q7⟩
  |ret v=>obtain⟨x7,σ7,H7,I7,r7,q7⟩:=q7;exact⟨x7,σ7,H7,I7.unpinned,r7,q7⟩
end
theorem Xm{K:PySem.W.Frag}{a:Addr}{xs:List V}{g:TG}{tb:TS}{D:Zje}{σ:St}{H:Hp}(Pv:Nat->St->Hp->Prop)(h0:Pv 0 σ H)(hl:∀i σ H,i<=xs.length->Pv i σ H->SqL K H a xs)
  (hs:∀i x σ H,xs[i]? =some x->Pv i σ H->g x σ H fun σ2 H2=>tb {D with nx:=Pv (i+1),ct:=Pv (i+1),bk:=D.nx} σ2 H2)(hd:∀σ H,Pv xs.length σ H->D.nx σ H):
  ∃W:Nat->Nat->St->Hp->Prop,(∃m,W 0 m σ H)/\∀i m σ H,W i m σ H->
   ((Itl K a).stop i H/\D.nx σ H)\/((Itl K a).go i H/\∃N:St->Hp->Prop,(∀σ' H',N σ' H'->∃m',m'<m/\W (i+1) m' σ' H')/\∀x H',(Itl K a).yld i H x H'->g x σ H' fun σ2 H2=>tb {D with nx:=N,ct:=N,bk:=D.nx} σ2 H2):=by
 refine⟨fun i m σ H=>m=xs.length-i/\i<=xs.length/\Pv i σ H,⟨xs.length,by simp,Nat.zero_le _,h0⟩, ?_⟩;rintro i m σ H ⟨rfl,hi,p⟩;have q:=hl i σ H hi p
 by_cases hlt:i<xs.length
 ·refine .inr ⟨⟨xs,xs[i],q,by simp[hlt]⟩,Pv (i+1),fun σ' H' p'=>⟨xs.length-(i+1),by omega,rfl,hlt,p'⟩,fun x H' y=> ?_⟩;obtain⟨e,y⟩:=y;subst e;exact hs i x σ _ (y xs q) p
 ·have e:i=xs.length:=by omega
  subst e;exact .inl ⟨⟨xs,q,Nat.le_refl _⟩,hd σ H p⟩
theorem ZfC{lo:Int}{n:Nat}{g:TG}{tb:TS}{D:Zje}{σ:St}{H:Hp}(Pv:Nat->St->Hp->Prop)(h0:Pv 0 σ H)
  (hs:∀i σ H,i<n->Pv i σ H->g (.int (lo+i)) σ H fun σ2 H2=>tb {D with nx:=Pv (i+1),ct:=Pv (i+1),bk:=D.nx} σ2 H2)(hd:∀σ H,Pv n σ H->D.nx σ H):
  ∃W:Nat->Nat->St->Hp->Prop,(∃m,W 0 m σ H)/\∀i m σ H,W i m σ H->
   ((Itr lo n).stop i H/\D.nx σ H)\/((Itr lo n).go i H/\∃N:St->Hp->Prop,(∀σ' H',N σ' H'->∃m',m'<m/\W (i+1) m' σ' H')/\∀x H',(Itr lo n).yld i H x H'->g x σ H' fun σ2 H2=>tb {D with nx:=N,ct:=N,bk:=D.nx} σ2 H2):=by
 refine⟨fun i m σ H=>m=n-i/\i<=n/\Pv i σ H,⟨n,by simp,Nat.zero_le _,h0⟩, ?_⟩;rintro i m σ H ⟨rfl,hi,p⟩
 by_cases hlt:i<n
 ·refine .inr ⟨hlt,Pv (i+1),fun σ' H' p'=>⟨n-(i+1),by omega,rfl,hlt,p'⟩,fun x H' y=> ?_⟩;obtain⟨e,y⟩:=y;subst e y;exact hs i σ _ hlt p
 ·have e:i=n:=by omega
  subst e;exact .inl ⟨Nat.le_refl _,hd σ H p⟩
end L2
namespace L2
open PySem PySem.Spec PyProof.Rows
abbrev R2:=V->V->Hp->VK->Prop
def OpR(X:Cx)(f:Value->Value->Sem Value)(r:R2):Prop:=
 ∀(pins:List (Addr×Obj)) (s:Shared) (σ:St) (H:Hp) (x y:V) (v u:Value) (Q:VK),Inv X pins σ H s->ZV x v->ZV y u->r x y H Q->
  wpAny (model X.prog X.w) X.A (f v u) (EP X pins σ Q) X.xe s
def UnR(X:Cx)(f:Value->Sem Value)(r:V->Hp->VK->Prop):Prop:=
 ∀(pins:List (Addr×Obj)) (s:Shared) (σ:St) (H:Hp) (x:V) (v:Value) (Q:VK),Inv X pins σ H s->ZV x v->r x H Q->
  wpAny (model X.prog X.w) X.A (f v) (EP X pins σ Q) X.xe s
def Zbn(X:Cx)(f:Value)(r:List V->Hp->VK->Prop):Prop:=
 ∀(pins:List (Addr×Obj)) (s:Shared) (σ:St) (H:Hp) (xs:List V) (us:List Value) (Q:VK),Inv X pins σ H s->Yb xs us->r xs H Q->
  wpAny (model X.prog X.w) X.A (call f us) (EP X pins σ Q) X.xe s
def tOp(r:R2)(ta tb:TE):TE:=fun σ H Q=>ta σ H fun x H1=>tb σ H1 fun y H2=>r x y H2 Q
def tUn(r:V->Hp->VK->Prop)(ta:TE):TE:=fun σ H Q=>ta σ H fun x H1=>r x H1 Q
def rI(C:Int->Int->Prop)(g:Int->Int->V):R2:=fun x y H Q=>∃i j,x=.int i/\y=.int j/\C i j/\Q (g i j) H
def rI0(g:Int->Int->V):R2:=fun x y H Q=>∃i j,x=.int i/\y=.int j/\Q (g i j) H
def rU(g:Int->V):V->Hp->VK->Prop:=fun x H Q=>∃i,x=.int i/\Q (g i) H
section
variable {X:Cx} {a b c:Expr} {ta tb tc:TE} {pos:Pos}
theorem ZqU(ha:PE X a ta)(hb:PE X b tb){pins:List (Addr×Obj)}{s:Shared}{σ:St}{H:Hp}{R:V->V->Hp->Prop}(I:Inv X pins σ H s)
  (h:ta σ H fun x H1=>tb σ H1 fun y H2=>R x y H2){Q:Value->Shared->Prop}{f:Value->Value->Sem Value}
  (hf:∀v u s2 x y H2,Inv X pins σ H2 s2->ZV x v->ZV y u->R x y H2->wpAny (model X.prog X.w) X.A (f v u) Q X.xe s2):
  wpAny (model X.prog X.w) X.A (eval a X.env) (fun v s₁=>wpAny (model X.prog X.w) X.A (eval b X.env) (fun u s₂=>wpAny (model X.prog X.w) X.A (f v u) Q X.xe s₂) X.xe s₁) X.xe s:=by
 refine thn (ha pins s σ H _ I h) fun v s1 ⟨x,H1,I1,r1,q1⟩=> ?_;refine thn (hb pins s1 σ H1 _ I1 q1) fun u s2 ⟨y,H2,I2,r2,q2⟩=> ?_;exact hf v u s2 x y H2 I2 r1 r2 q2
theorem Zr{op:Operator}{r:R2}(ho:OpR X (binaryOp op) r)(ha:PE X a ta)(hb:PE X b tb):PE X (.BinOp a op b pos) (tOp r ta tb):=by
 intro pins s σ H Q I h;exact wpAny_BinOp (ZqU ha hb I h fun v u s2 x y H2 I2 rx ry q=>ho pins s2 σ H2 x y v u Q I2 rx ry q)
theorem Zqu{op:UnaryOp}{r:V->Hp->VK->Prop}(ho:UnR X (unaryOp op) r)(ha:PE X a ta):PE X (.UnaryOp op a pos) (tUn r ta):=by
 intro pins s σ H Q I h;exact UnaryOp_ (thn (ha pins s σ H _ I h) fun v s1 ⟨x,H1,I1,r1,q1⟩=>ho pins s1 σ H1 x v Q I1 r1 q1)
theorem opI{f:Value->Value->Sem Value}{C:Int->Int->Prop}{g:Int->Int->Int}
  (rule:∀(i j:Int) (t u:Tok) (s:Shared) (Q:Value->Shared->Prop) (E:Value->Shared->Prop),C i j->Q (.int (g i j) s.toks) {s with toks:=s.toks+1}->wpAny (model X.prog X.w) X.A (f (.int i t) (.int j u)) Q E s):
  OpR X f (rI C fun i j=> .int (g i j)):=by
 intro pins s σ H x y v u Q I rx ry h;obtain⟨i,j,rfl,rfl,hc,q⟩:=h;obtain⟨t,rfl⟩:=rx;obtain⟨t',rfl⟩:=ry;exact rule i j t t' s _ _ hc ⟨.int (g i j),H,I.tok _,⟨_,rfl⟩,q⟩
theorem ZrJ{f:Value->Value->Sem Value}{g:Int->Int->Int}
  (rule:∀(i j:Int) (t u:Tok) (s:Shared) (Q:Value->Shared->Prop) (E:Value->Shared->Prop),Q (.int (g i j) s.toks) {s with toks:=s.toks+1}->wpAny (model X.prog X.w) X.A (f (.int i t) (.int j u)) Q E s):
  OpR X f (rI0 fun i j=> .int (g i j)):=by
 intro pins s σ H x y v u Q I rx ry h;obtain⟨i,j,rfl,rfl,q⟩:=h;obtain⟨t,rfl⟩:=rx;obtain⟨t',rfl⟩:=ry;exact rule i j t t' s _ _ ⟨.int (g i j),H,I.tok _,⟨_,rfl⟩,q⟩
theorem ZqV{f:Value->Value->Sem Value}{g:Int->Int->Bool}
  (rule:∀(i j:Int) (t u:Tok) (s:Shared) (Q:Value->Shared->Prop) (E:Value->Shared->Prop),Q (.bool (g i j)) s->wpAny (model X.prog X.w) X.A (f (.int i t) (.int j u)) Q E s):
  OpR X f (rI0 fun i j=> .bl (g i j)):=by
 intro pins s σ H x y v u Q I rx ry h;obtain⟨i,j,rfl,rfl,q⟩:=h;obtain⟨t,rfl⟩:=rx;obtain⟨t',rfl⟩:=ry;exact rule i j t t' s _ _ ⟨.bl (g i j),H,I,rfl,q⟩
def ZsE(i j:Int):Prop:=0<j/\j<1073741824
def ZrK(i j:Int):Prop:=0<=j/\j<=1000000/\i.natAbs<2^64
theorem YW:OpR X (binaryOp .Add) (rI0 fun i j=> .int (i+j)):=ZrJ fun _ _ _ _ _ _ _ q=>add_int q
theorem ZnO:OpR X (binaryOp .Sub) (rI0 fun i j=> .int (i-j)):=ZrJ fun _ _ _ _ _ _ _ q=>sub_int q
theorem ZZ:OpR X (binaryOp .FloorDiv) (rI ZsE fun i j=> .int (i/j)):=opI fun i j _ _ _ _ _ hc q=>by
 have h1:(0:Int)<j:=hc.1;have h2:j<1073741824:=hc.2;exact floordiv_int (by omega) (by rw[Int.fdiv_eq_ediv_of_nonneg i (by omega)];exact q) (.inl (PyProof.noPylong_small (by omega)))
theorem ZP:OpR X (binaryOp .Mod) (rI (fun _ j=>0<j) fun i j=> .int (i%j)):=opI fun i j _ _ _ _ _ hc q=>by
 have h1:(0:Int)<j:=hc;exact mod_int' (by omega) (by rw[Int.fmod_eq_emod_of_nonneg i (by omega)];exact q)
theorem ZnP:OpR X (binaryOp .Pow) (rI ZrK fun i j=> .int (i^j.toNat)):=opI fun _ _ _ _ _ _ _ hc q=>pow_int_small hc.1 hc.2.1 hc.2.2 q
theorem unI{f:Value->Sem Value}{g:Int->Int}
  (rule:∀(i:Int) (t:Tok) (s:Shared) (Q:Value->Shared->Prop) (E:Value->Shared->Prop),Q (.int (g i) s.toks) {s with toks:=s.toks+1}->wpAny (model X.prog X.w) X.A (f (.int i t)) Q E s):
  UnR X f (rU fun i=> .int (g i)):=by
 intro pins s σ H x v Q I rx h;obtain⟨i,rfl,q⟩:=h;obtain⟨t,rfl⟩:=rx;exact rule i t s _ _ ⟨.int (g i),H,I.tok _,⟨_,rfl⟩,q⟩
theorem ZnQ:UnR X (unaryOp .USub) (rU fun i=> .int (-i)):=unI fun _ _ _ _ _ q=>neg_int q
end
def Zpy:V->V->Bool
 | .non,.non=>true| .non,.int _=>true| .int _,.non=>true| .non,.bl _=>true| .bl _,.non=>true| .non,.str _=>true| .str _,.non=>true
 | .int _,.int _=>true| .bl _,.bl _=>true| .str _,.str _=>true| .byt _,.byt _=>true
 | .int _,.str _=>true| .str _,.int _=>true| .bl _,.str _=>true| .str _,.bl _=>true
 |_,_=>false
def rEq:R2:=fun x y H Q=>Zpy x y=true/\Q (.bl (decide (x=y))) H
def rNe:R2:=fun x y H Q=>Zpy x y=true/\Q (.bl (!decide (x=y))) H
theorem Zmj{i j:Int}:decide (V.int i=V.int j)=(i==j):=by
 rw[Bool.eq_iff_iff];simp
theorem ZnR{i j:Bool}:decide (V.bl i=V.bl j)=(i==j):=by
 rw[Bool.eq_iff_iff];simp
theorem Zmk{i j:Str}:decide (V.str i=V.str j)=(i==j):=by
 rw[Bool.eq_iff_iff];simp
theorem Zml{i j:Array UInt8}:decide (V.byt i=V.byt j)=(i.toList==j.toList):=by
 rw[Bool.eq_iff_iff];cases i;cases j;simp
section
variable {X:Cx} {a b c:Expr} {ta tb tc:TE} {pos:Pos}
theorem Yu{pins:List (Addr×Obj)}{σ:St}{H:Hp}{s:Shared}{Q:VK}{k k':Bool}(I:Inv X pins σ H s)(q:Q (.bl k) H)(e:k=k'):EP X pins σ Q (.bool k') s:=by
 subst e;exact⟨.bl k,H,I,rfl,q⟩
theorem Yo:OpR X (compareOp .Eq) rEq:=by
 intro pins s σ H x y v u Q I rx ry h;obtain⟨hs,q⟩:=h;cases x with
 |non=>
  cases rx;cases y with
  |non=>cases ry;exact PySem.EqNone.eq_none_none (Yu I q (by simp))
  |bl j=>cases ry;exact PySem.EqNone.eq_none_bool (Yu I q (by simp))
  |int j=>obtain⟨t',rfl⟩:=ry;exact PySem.EqNone.eq_none_int (Yu I q (by simp))
  |str j=>obtain⟨t',rfl⟩:=ry;exact PySem.EqNone.eq_none_str (Yu I q (by simp))
  |_=>exact absurd (show false=true from hs) Bool.false_ne_true
 |bl i=>
  cases rx;cases y with
  |non=>cases ry;exact PySem.EqNone.eq_bool_none (Yu I q (by simp))
  |bl j=>cases ry;exact eq_bool (Yu I q ZnR)
  |str j=>obtain⟨t',rfl⟩:=ry;exact PySem.EqMixed.eq_bool_str (Yu I q (by simp))
  |_=>exact absurd (show false=true from hs) Bool.false_ne_true
 |int i=>
  obtain⟨t,rfl⟩:=rx;cases y with
  |non=>cases ry;exact PySem.EqNone.eq_int_none (Yu I q (by simp))
  |int j=>obtain⟨t',rfl⟩:=ry;exact eq_int (Yu I q Zmj)
  |str j=>obtain⟨t',rfl⟩:=ry;exact PySem.EqMixed.eq_int_str (Yu I q (by simp))
  |_=>exact absurd (show false=true from hs) Bool.false_ne_true
 |str i=>
  obtain⟨t,rfl⟩:=rx;cases y with
  |non=>cases ry;exact PySem.EqNone.eq_str_none (Yu I q (by simp))
  |bl j=>cases ry;exact PySem.EqMixed.eq_str_bool (Yu I q (by simp))
  |int j=>obtain⟨t',rfl⟩:=ry;exact PySem.EqMixed.eq_str_int (Yu I q (by simp))
  |str j=>obtain⟨t',rfl⟩:=ry;exact eq_str (Yu I q Zmk)
  |_=>exact absurd (show false=true from hs) Bool.false_ne_true
 |byt i=>
  obtain⟨t,rfl⟩:=rx;cases y with
  |byt j=>obtain⟨t',rfl⟩:=ry;exact PySem.W.eq_bytes (Yu I q Zml)
  |_=>exact absurd (show false=true from hs) Bool.false_ne_true
 |_=>cases y<;>exact absurd (show false=true from hs) Bool.false_ne_true
theorem Zqv:OpR X (compareOp .NotEq) rNe:=by
 intro pins s σ H x y v u Q I rx ry h;obtain⟨hs,q⟩:=h;cases x with
 |non=>
  cases rx;cases y with
  |non=>cases ry;exact PySem.EqNone.ne_none_none (Yu I q (by simp))
  |bl j=>cases ry;exact PySem.EqNone.ne_none_bool (Yu I q (by simp))
  |int j=>obtain⟨t',rfl⟩:=ry;exact PySem.EqNone.ne_none_int (Yu I q (by simp))
  |str j=>obtain⟨t',rfl⟩:=ry;exact PySem.EqNone.ne_none_str (Yu I q (by simp))
  |_=>exact absurd (show false=true from hs) Bool.false_ne_true
 |bl i=>
  cases rx;cases y with
  |non=>cases ry;exact PySem.EqNone.ne_bool_none (Yu I q (by simp))
  |bl j=>cases ry;exact ne_bool (Yu I q (congrArg not ZnR))
  |str j=>obtain⟨t',rfl⟩:=ry;exact PySem.EqMixed.ne_bool_str (Yu I q (by simp))
  |_=>exact absurd (show false=true from hs) Bool.false_ne_true
 |int i=>
  obtain⟨t,rfl⟩:=rx;cases y with
  |non=>cases ry;exact PySem.EqNone.ne_int_none (Yu I q (by simp))
  |int j=>obtain⟨t',rfl⟩:=ry;exact ne_int (Yu I q (congrArg not Zmj))
  |str j=>obtain⟨t',rfl⟩:=ry;exact PySem.EqMixed.ne_int_str (Yu I q (by simp))
  |_=>exact absurd (show false=true from hs) Bool.false_ne_true
 |str i=>
  obtain⟨t,rfl⟩:=rx;cases y with
  |non=>cases ry;exact PySem.EqNone.ne_str_none (Yu I q (by simp))
  |bl j=>cases ry;exact PySem.EqMixed.ne_str_bool (Yu I q (by simp))
  |int j=>obtain⟨t',rfl⟩:=ry;exact PySem.EqMixed.ne_str_int (Yu I q (by simp))
  |str j=>obtain⟨t',rfl⟩:=ry;exact ne_str (Yu I q (congrArg not Zmk))
  |_=>exact absurd (show false=true from hs) Bool.false_ne_true
 |byt i=>
  obtain⟨t,rfl⟩:=rx;cases y with
  |byt j=>obtain⟨t',rfl⟩:=ry;exact PySem.W.ne_bytes (Yu I q (congrArg not Zml))
  |_=>exact absurd (show false=true from hs) Bool.false_ne_true
 |_=>cases y<;>exact absurd (show false=true from hs) Bool.false_ne_true
theorem Zgd:OpR X (compareOp .Lt) (rI0 fun i j=> .bl (decide (i<j))):=ZqV fun _ _ _ _ _ _ _ q=>lt_int q
theorem ZrL:OpR X (compareOp .LtE) (rI0 fun i j=> .bl (decide (i<=j))):=ZqV fun _ _ _ _ _ _ _ q=>le_int q
theorem Zh1:OpR X (compareOp .Gt) (rI0 fun i j=> .bl (decide (j<i))):=ZqV fun _ _ _ _ _ _ _ q=>gt_int q
theorem Zem:OpR X (compareOp .Is) (fun x y H Q=>y=.non/\Q (.bl (decide (x=.non))) H):=by
 intro pins s σ H x y v u Q I rx ry h;obtain⟨rfl,q⟩:=h;cases ry;refine is_none_gen (Yu I q ?_);cases x<;>first
  |(cases rx;rfl)
  |(obtain⟨t,rfl⟩:=rx;rfl)
theorem Zmm:OpR X (compareOp .IsNot) (fun x y H Q=>y=.non/\Q (.bl (!decide (x=.non))) H):=by
 intro pins s σ H x y v u Q I rx ry h;obtain⟨rfl,q⟩:=h;cases ry;refine isnot_none_gen (Yu I q ?_);cases x<;>first
  |(cases rx;rfl)
  |(obtain⟨t,rfl⟩:=rx;rfl)
theorem Zy(b:Expr){op:CmpOp}(h:op≠.In:=by decide)(h2:op≠.NotIn:=by decide):behindInMarks op b=false:=by
 have e1:(op==CmpOp.In)=false:=by cases op<;>first|rfl|exact absurd rfl h
 have e2:(op==CmpOp.NotIn)=false:=by cases op<;>first|rfl|exact absurd rfl h2
 cases b<;>simp[behindInMarks,e1,e2]
theorem Zaw{op:CmpOp}{r:R2}(ho:OpR X (compareOp op) r)(ha:PE X a ta)(hb:PE X b tb)(hm:behindInMarks op b=false):PE X (.Compare a [op] [b] pos) (tOp r ta tb):=by
 intro pins s σ H Q I h;exact wpAny_Compare1 (ZqU ha hb I h fun v u s2 x y H2 I2 rx ry q=>ho pins s2 σ H2 x y v u Q I2 rx ry q) hm
def Zqw(t:TE):TT:=fun σ H Q=>t σ H fun x H'=>∃k,x=.bl k/\Q k H'
theorem Zt{op:CmpOp}{r:R2}(ho:OpR X (compareOp op) r)(ha:PE X a ta)(hb:PE X b tb)(hm:behindInMarks op b=false):PT X (.Compare a [op] [b] pos) (Zqw (tOp r ta tb)):=by
 intro pins s σ H Q I h;refine wpAny_isTrue_Compare1 (thn (ha pins s σ H _ I h) fun v s1 ⟨x,H1,I1,r1,q1⟩=>thn (hb pins s1 σ H1 _ I1 q1) fun u s2 ⟨y,H2,I2,r2,q2⟩=>
  thn (ho pins s2 σ H2 x y v u _ I2 r1 r2 q2) fun c s3 ⟨z,H3,I3,r3,k,e,q3⟩=> ?_) hm
 subst e;cases r3;exact wpAny_truthy_bool ⟨H3,I3,q3⟩
theorem Zjf:(sizeLine:Nat)<2^63:=by rw[sizeLine_eq];decide
theorem Zen:OpR X (binaryOp .Add) (fun x y H Q=>∃i j,x=.str i/\y=.str j/\i.length+j.length<=sizeLine/\Q (.str (i++j)) H):=by
 intro pins s σ H x y v u Q I rx ry h;obtain⟨i,j,rfl,rfl,hz,q⟩:=h;obtain⟨t,rfl⟩:=rx;obtain⟨t',rfl⟩:=ry;exact add_str (fun t' tk=>⟨.str (i++j),H,I.tok _,⟨_,rfl⟩,q⟩) hz
theorem Zcm{x:V}{us:List Value}(r:Yb [x] us):∃u,us=[u]/\ZV x u:=by
 cases r with
 |cons r1 r2=>cases r2;exact⟨_,rfl,r1⟩
theorem Zqx{x y:V}{us:List Value}(r:Yb [x,y] us):∃u w',us=[u,w']/\ZV x u/\ZV y w':=by
 cases r with
 |cons r1 r2=>
  cases r2 with
  |cons r3 r4=>cases r4;exact⟨_,_,rfl,r1,r3⟩
theorem Zh2:Zbn X (.builtin "abs") (fun xs H Q=>∃i,xs=[.int i]/\Q (.int (if i<0 then-i else i)) H):=by
 intro pins s σ H xs us Q I r h;obtain⟨i,rfl,q⟩:=h;obtain⟨u,rfl,t,rfl⟩:=Zcm r;exact call_abs_int fun u tk=>⟨.int (if i<0 then-i else i),H,I.tok _,⟨_,rfl⟩,q⟩
theorem ZiC(hc:X.calm=true):Zbn X (.builtin "max") (fun xs H Q=>∃i j,xs=[.int i,.int j]/\Q (.int (if j>i then j else i)) H):=by
 intro pins s σ H xs us Q I r h;obtain⟨i,j,rfl,q⟩:=h;obtain⟨u,w',rfl,⟨t,rfl⟩,⟨t',rfl⟩⟩:=Zqx r;refine max_two_ints (I.ok.hd hc) fun h' tk k=>⟨_,H,I.kept k, ?_,q⟩
 by_cases hj:j>i
 ·rw[if_pos hj,if_pos hj];exact⟨_,rfl⟩
 ·rw[if_neg hj,if_neg hj];exact⟨_,rfl⟩
theorem ZmV(hc:X.calm=true):Zbn X (.builtin "min") (fun xs H Q=>∃i j,xs=[.int i,.int j]/\Q (.int (if j<i then j else i)) H):=by
 intro pins s σ H xs us Q I r h;obtain⟨i,j,rfl,q⟩:=h;obtain⟨u,w',rfl,⟨t,rfl⟩,⟨t',rfl⟩⟩:=Zqx r;refine min_two_ints (I.ok.hd hc) fun h' tk k=>⟨_,H,I.kept k, ?_,q⟩
 by_cases hj:j<i
 ·rw[if_pos hj,if_pos hj];exact⟨_,rfl⟩
 ·rw[if_neg hj,if_neg hj];exact⟨_,rfl⟩
theorem ZdY:Zbn X (.type "int") (fun xs H Q=>(∃i,xs=[.int i]/\Q (.int i) H)\/∃k,xs=[.bl k]/\Q (.int (if k then 1 else 0)) H):=by
 intro pins s σ H xs us Q I r h;rcases h with ⟨i,rfl,q⟩|⟨k,rfl,q⟩
 ·obtain⟨u,rfl,t,rfl⟩:=Zcm r;exact call_int_int ⟨.int i,H,I,⟨_,rfl⟩,q⟩
 ·obtain⟨u,rfl,r1⟩:=Zcm r;cases r1;exact call_int_bool ⟨.int (if k then 1 else 0),H,I.tok _,⟨_,rfl⟩,q⟩
def ZsF(K:PySem.W.Frag)(x:V)(H:Hp)(n:Nat):Prop:=
 match x with
 | .str y=>y.length<=sizeLine/\n=y.length
 | .byt y=>y.size<=sizeLine/\n=y.size
 | .ref p=>(∃xs,SqL K H p xs/\n=xs.length)\/∃xs,SqT K H p xs/\n=xs.length
 |_=>False
theorem YJ:Zbn X (.builtin "len") (fun xs H Q=>∃x n,xs=[x]/\ZsF X.K x H n/\Q (.int n) H):=by
 intro pins s σ H xs us Q I r h;obtain⟨x,n,rfl,e,q⟩:=h;obtain⟨u,rfl,rx⟩:=Zcm r;have hl:=Zjf;have hs:sizeLine=16777216:=sizeLine_eq;cases x with
 |str y=>
  obtain⟨t,rfl⟩:=rx;obtain⟨hy,e'⟩:y.length<=sizeLine/\n=y.length:=e;subst e';exact len_str (by omega) ⟨.int _,H,I.tok _,⟨_,rfl⟩,q⟩
 |byt y=>
  obtain⟨t,rfl⟩:=rx;obtain⟨hy,e'⟩:y.size<=sizeLine/\n=y.size:=e;subst e';exact PySem.W.len_bytes (by omega) ⟨.int _,H,I.tok _,⟨_,rfl⟩,q⟩
 |ref p=>
  cases rx;have e':(∃xs,SqL X.K H p xs/\n=xs.length)\/∃xs,SqT X.K H p xs/\n=xs.length:=e;rcases e' with ⟨xs,hx,e'⟩|⟨xs,hx,e'⟩
  ·subst e';obtain⟨its,r',pl,hz⟩:=I.list hx;have hlen:=r'.length;exact Calls.call_len_list pl.isList (by simp only [List.size_toArray];omega) ⟨.int xs.length,H,I.tok _,⟨_,by simp only [List.size_toArray];rw[hlen]⟩,q⟩
  ·subst e';obtain⟨its,r',pl,hz⟩:=I.tuple hx;have hlen:=r'.length;exact len_tuple pl (by simp only [List.size_toArray];omega) ⟨.int xs.length,H,I.tok _,⟨_,by simp only [List.size_toArray];rw[hlen]⟩,q⟩
 |_=>exact(show False from e).elim
end
end L2
namespace L2
open PySem PySem.Spec PyProof.Rows
structure Zlj (h:Heap) (x dx C:Addr) (mA:Str->Option Value):Prop where
 obj:h.get? x=some (PySem.W.instObj C dx)
 ns:h.Ns1 dx mA
 ne:dx≠x
theorem ZmW{h:Heap}{dx:Addr}{mA:Str->Option Value}(n:h.Ns1 dx mA):∃od,h.get? dx=some od/\∀name,PySem.W.lookIn name od=some (mA name):=by
 obtain⟨o,es,ep,ho,hd,hk,_,hm⟩:=n;refine⟨o,ho,fun name=> ?_⟩;have e:=hm name;unfold nsFind findBy at e
 rw[<-Array.find?_toList] at e
 unfold PySem.W.lookIn;rw[hd]
 dsimp only
 split
 ·rename_i y q
  rw[q] at e
  exact congrArg some e
 ·rename_i q
  rw[q] at e
  have a:es.toList.any (·.refKey)=false:=by
   rw[List.any_eq_false];intro y hy;obtain⟨z,t,hkey⟩:=hk y (Array.mem_toList_iff.mp hy);simp[DictEntry.refKey,hkey]
  have a':¬es.toList.any (·.refKey)=true:=by rw[a];exact Bool.false_ne_true
  rw[if_neg a'];exact congrArg some e
theorem Zlj.look{h:Heap}{x dx C:Addr}{mA:Str->Option Value}(I:Zlj h x dx C mA):∃od,PySem.W.InstAt h x (PySem.W.instObj C dx) C (some od)/\∀name,PySem.W.lookIn name od=some (mA name):=
 let ⟨od,ho,hl⟩:=ZmW I.ns
 ⟨od,⟨I.obj,rfl,rfl,ho⟩,hl⟩
section
variable {prog:Program} {w:World} {A:Around} {E:Value->Shared->Prop} {s:Shared} {K:PySem.W.Frag} {x dx C f:Addr} {mA:Str->Option Value} {name:Str} {v:Value}
theorem Zpz{expr:Bool}{Q:Value->Shared->Prop}(X:K.In s.heap)(I:Zlj s.heap x dx C mA)(hg:PySem.W.plainGet K C name=true)(hh:PySem.W.hasDictIn K C=true)
  (ha:PySem.W.findIn K (.ref C) name=some none)(hv:mA name=some v)(hv':PySem.W.handedIn v=true)(h:Q v {s with toks:=s.toks+1}):
  wpAny (model prog w) A (getAttr (.ref x) name expr) Q E s:=by
 obtain⟨od,J,hl⟩:=I.look;exact PySem.W.get_value X J (PySem.W.plainGet_of hg).1 (PySem.W.findObj_own hh ha rfl (by rw[hl,hv])) hv' h
theorem ZnS{pl:Sem Bool}{Q:Value×List Value->Shared->Prop}(X:K.In s.heap)(I:Zlj s.heap x dx C mA)(hg:PySem.W.plainGet K C name=true)
  (hf:PySem.W.findIn K (.ref C) name=some (some (.ref f)))(ht:PySem.W.isFn K (.ref f)=true)(hv:mA name=none)(h:Q (.ref f,[.ref x]) s):
  wpAny (model prog w) A (getMethod (.ref x) name pl) Q E s:=by
 obtain⟨od,J,hl⟩:=I.look;exact PySem.W.method_fn X J (PySem.W.plainGet_of hg).1 (PySem.W.plainGet_of hg).2 hf (beq_iff_eq.mp ht) (by show(PySem.W.lookIn name od).map (·.isSome)=some false;rw[hl,hv];rfl) h
theorem ZpA{ns:List Str}{Q:Unit->Shared->Prop}(X:K.In s.heap)(I:Zlj s.heap x dx C mA)
  (hs:PySem.W.findIn K (.ref C) "__setattr__"=some (some (.builtin "object.__setattr__")))(hp:PySem.W.plainOver K C=true)(ht:PySem.W.takerIn K C name=some none)(hh:PySem.W.hasDictIn K C=true)
  (hw:PySem.Within mA ns)(hsz:ns.length<=sizeLine)
  (h:∀h',Zlj h' x dx C (fun y=>if y=name then some v else mA y)->Heap.SameBut dx s.heap h'->Q () {s with heap:=h',toks:=s.toks+2}):
  wpAny (model prog w) A (setAttr (.ref x) name v) Q E s:=by
 obtain⟨od,J,hl⟩:=I.look;refine PySem.W.set_plain X J hs (PySem.W.osa_open (s:={s with toks:=s.toks+1}) (r:=none) X J hp ht fun b=> ?_);obtain⟨cd,hc,hd'⟩:=PySem.W.any_some hh;have hx:s.heap.get? x=some ⟨.ref C,some dx,.plain, #[]⟩:=I.obj;refine wpAny_bind (wpAny_pure (wpAny_bind (wpAny_bind (wpAny_loadPart hx (wpAny_bind (PySem.W.Looks.here (s:={s with toks:=s.toks+1}) (PySem.W.looks_clsIn X hc) ?_))))))
 rw[hd'];refine wpAny_pure (a:=some dx) (wpAny_bind (wpAny_pure (wpAny_bind ?_)));refine wpAny_nsSet1 (s:={s with toks:=s.toks+1}) I.ns fun h' hn2 hs2=> ?_;obtain⟨oD,esD,epD,hoD,hdD,hcD⟩:=hn2.count (PySem.Within.cons name v hw);refine wpAny_bind (wpAny_lookBehind hoD (by rw[hdD];exact pastItsLine_dict (Nat.le_trans hcD (by rw[List.length_cons];omega))) ?_)
 exact wpAny_pure (h _ ⟨(hs2.2 _ (Ne.symm I.ne)).trans I.obj,hn2,I.ne⟩ hs2)
theorem ZnT{R:Result->Shared->Prop}{vs:List Value}{kw:List (Str×Value)}(X:K.In s.heap)(hm:PySem.W.makesIn K C=true)
  (hi:PySem.W.findIn K (.ref C) "__init__"=some (some (.ref f)))(hf:PySem.W.typeIn K (.ref f)=some (.type "function"))
  (h:codeAny (model prog w) (A.under (.builtin "type.__call__" ⟨.ref C::vs,kw⟩)) (.call (.ref f) ⟨.ref (s.heap.objs.size+1)::vs,kw⟩) (PySem.W.InitBack (s.heap.objs.size+1) R)
   {s with heap:=(s.heap.push PySem.W.emptyDict).push (PySem.W.instObj C s.heap.objs.size)}):
  codeAny (model prog w) A (.call (.ref C) ⟨vs,kw⟩) R s:=by
 obtain⟨hh,g,d,t,os⟩:=s;exact PySem.W.make_core (PySem.W.makes_of X hm) (PySem.W.looks_findIn X hi) (fun self=>PySem.W.bind_fn X self hf) (.inl rfl) h
end
def ZL(f:Str)(v:V):List (Str×V)->List (Str×V)
 |[]=>[(f,v)]
 |(g,x)::r=>if g=f then(g,v)::r else(g,x)::ZL f v r
theorem Zq(f g:Str)(v:V):∀fs:List (Str×V),(ZL f v fs).lookup g=if g=f then some v else fs.lookup g
 |[]=>by
  show List.lookup g [(f,v)]=_
  by_cases h:g=f
  ·have hb:(g==f)=true:=beq_iff_eq.mpr h;simp only [List.lookup,hb,if_pos h]
  ·have hb:(g==f)=false:=beq_eq_false_iff_ne.mpr h;simp only [List.lookup,hb,if_neg h]
 |(k,x)::r=>by
  have ih:=Zq f g v r;rw[show ZL f v ((k,x)::r)=(if k=f then(k,v)::r else(k,x)::ZL f v r) from rfl]
  by_cases hk:k=f
  ·rw[if_pos hk]
   by_cases h:g=k
   ·have hb:(g==k)=true:=beq_iff_eq.mpr h;simp only [List.lookup,hb,if_pos (h.trans hk)]
   ·have hb:(g==k)=false:=beq_eq_false_iff_ne.mpr h;simp only [List.lookup,hb,if_neg (fun e:g=f=>h (e.trans hk.symm))]
  ·rw[if_neg hk]
   by_cases h:g=k
   ·have hb:(g==k)=true:=beq_iff_eq.mpr h;simp only [List.lookup,hb,if_neg (fun e:g=f=>hk (h.symm.trans e))]
   ·have hb:(g==k)=false:=beq_eq_false_iff_ne.mpr h;simp only [List.lookup,hb];exact ih
theorem ZfD(f:Str)(v:V):∀fs:List (Str×V),f∈(ZL f v fs).map (·.1)/\∀g,g∈fs.map (·.1)->g∈(ZL f v fs).map (·.1)
 |[]=>⟨by simp[ZL],fun g h=>by simp at h⟩
 |(k,x)::r=>by
  obtain⟨i1,i2⟩:=ZfD f v r;rw[show ZL f v ((k,x)::r)=(if k=f then(k,v)::r else(k,x)::ZL f v r) from rfl]
  by_cases hk:k=f
  ·rw[if_pos hk];subst hk;exact⟨by simp,fun g h=>by simpa using h⟩
  ·rw[if_neg hk];refine⟨?_,fun g h=> ?_⟩
   ·rw[List.map_cons];exact List.mem_cons_of_mem _ i1
   ·rw[List.map_cons] at h⊢
    rcases List.mem_cons.mp h with e|e
    ·exact List.mem_cons.mpr (.inl e)
    ·exact List.mem_cons_of_mem _ (i2 g e)
theorem Zge(f:Str)(v:V):∀fs:List (Str×V),(ZL f v fs).length<=fs.length+1
 |[]=>by simp[ZL]
 |(k,x)::r=>by
  have ih:=Zge f v r;rw[show ZL f v ((k,x)::r)=(if k=f then(k,v)::r else(k,x)::ZL f v r) from rfl]
  by_cases hk:k=f
  ·rw[if_pos hk,List.length_cons,List.length_cons];omega
  ·rw[if_neg hk,List.length_cons,List.length_cons];omega
theorem ZcG.some_of{v:V}{o:Option Value}(r:ZcG (some v) o):∃u,o=some u/\ZV v u:=by
 cases o with
 |none=>exact(show False from r).elim
 |some u=>exact⟨u,rfl,r⟩
theorem ZcG.none_of{o:Option Value}(r:ZcG none o):o=none:=by
 cases o with
 |none=>rfl
 |some u=>exact(show False from r).elim
theorem ZmX{v:V}{u:Value}(r:ZV v u):PySem.W.handedIn u=true:=by
 cases v with
 |non=>cases(show u=Value.none from r);rfl
 |bl b=>cases(show u=Value.bool b from r);rfl
 |int i=>obtain⟨t,e⟩:=(show∃t,u=Value.int i t from r);cases e;rfl
 |str x=>obtain⟨t,e⟩:=(show∃t,u=Value.str x t from r);cases e;rfl
 |byt b=>obtain⟨t,e⟩:=(show∃t,u=Value.bytes b t from r);cases e;rfl
 |flt b=>obtain⟨t,e⟩:=(show∃t,u=Value.float b t from r);cases e;rfl
 |ref a=>cases(show u=Value.ref a from r);rfl
 |ty n=>cases(show u=Value.type n from r);rfl
section
variable {P:Program} {w:World} {H H':Hp} {h h':Heap} {a C dx:Addr} {fs fs':List (Str×V)}
theorem Zjg(hok:HOk P w H h)(e:H a=some (.ins C dx fs)):∃mA,Zlj h a dx C mA/\(∀f,ZcG (fs.lookup f) (mA f))/\PySem.Within mA (fs.map (·.1))/\fs.length<=1000/\H dx=some (.own a):=by
 obtain⟨d,z,ne,ob,mA,n,r,q⟩:=(show XM P w H h a (.ins C dx fs) from hok a _ e)
 exact⟨mA,⟨ob,n,ne⟩,r,q,z,d⟩
end
structure Cls (K:PySem.W.Frag) (C:Addr):Prop where
 pg:PySem.W.plainGet K C Str.empty=true
 hd:PySem.W.hasDictIn K C=true
 po:PySem.W.plainOver K C=true
 sa:PySem.W.findIn K (.ref C) "__setattr__"=some (some (.builtin "object.__setattr__"))
theorem Cls.get{K:PySem.W.Frag}{C:Addr}(c:Cls K C)(f:Str):PySem.W.plainGet K C f=true:=c.pg
def YD(K:PySem.W.Frag)(C:Addr)(f:Str):Prop:=PySem.W.findIn K (.ref C) f=some none
theorem YD.taker{K:PySem.W.Frag}{C:Addr}{f:Str}(n:YD K C f):PySem.W.takerIn K C f=some none:=by
 unfold PySem.W.takerIn;rw[show PySem.W.findIn K (.ref C) f=some none from n]
 rfl
structure ZrM (K:PySem.W.Frag) (C:Addr) (m:Str) (f:Addr):Prop where
 at_:PySem.W.findIn K (.ref C) m=some (some (.ref f))
 fn:PySem.W.isFn K (.ref f)=true
 kp:PySem.W.keepIn K (.ref f)=true
section
variable {X:Cx} {pins:List (Addr×Obj)} {σ:St} {H:Hp} {s:Shared} {a C dx:Addr} {fs:List (Str×V)} {f:Str} {v:V} {A:Around} {E:Value->Shared->Prop}
theorem Zlk{b:Bool}{Q:Value->Shared->Prop}(I:Inv X pins σ H s)(e:H a=some (.ins C dx fs))(c:Cls X.K C)(n:YD X.K C f)(l:fs.lookup f=some v)
  (h:∀u s',Inv X pins σ H s'->ZV v u->Q u s'):wpAny (model X.prog X.w) A (getAttr (.ref a) f b) Q E s:=by
 obtain⟨mA,O,r,_,_,_⟩:=Zjg I.hok e;obtain⟨u,hu,ru⟩:=ZcG.some_of (v:=v) (o:=mA f) (by rw[<-l];exact r f)
 exact Zpz I.kIn O (c.get f) c.hd n hu (ZmX ru) (h u _ (I.tok _) ru)
theorem Zh3{m:Str}{g:Addr}{pl:Sem Bool}{Q:Value×List Value->Shared->Prop}(I:Inv X pins σ H s)(e:H a=some (.ins C dx fs))(c:Cls X.K C)(k:ZrM X.K C m g)(l:fs.lookup m=none)
  (h:Q (.ref g,[.ref a]) s):wpAny (model X.prog X.w) A (getMethod (.ref a) m pl) Q E s:=by
 obtain⟨mA,O,r,_,_,_⟩:=Zjg I.hok e;have hn:mA m=none:=ZcG.none_of (by rw[<-l];exact r m)
 exact ZnS I.kIn O (c.get m) k.at_ k.fn hn h
theorem Zll{y:V}{u:Value}{Q:Unit->Shared->Prop}(I:Inv X pins σ H s)(e:H a=some (.ins C dx fs))(c:Cls X.K C)(n:YD X.K C f)(hl:fs.length<1000)(ry:ZV y u)
  (h:∀s',Inv X pins σ (upd H a (.ins C dx (ZL f y fs))) s'->Q () s'):wpAny (model X.prog X.w) A (setAttr (.ref a) f u) Q E s:=by
 obtain⟨mA,O,r,wi,_,ho⟩:=Zjg I.hok e;have hz:(fs.map (·.1)).length<=sizeLine:=by rw[List.length_map,sizeLine_eq];omega
 refine ZpA I.kIn O c.sa c.po n.taker c.hd wi hz fun h' O' sb=>h _ ?_;have hd:∃o,h'.get? dx=some o:=let ⟨o,_,_,e',_⟩:=O'.ns;⟨o,e'⟩;refine I.write (x:=a) (e:=dx) (by rw[e];exact True.intro) (.inr ho) (fun b q hb z=>(sb.2 b hb).trans z) hd ?_
 refine⟨by rw[Zm O.ne];exact ho, ?_,O.ne,O'.obj,_,O'.ns,fun g=> ?_,fun g hg=> ?_⟩
 ·have:=Zge f y fs;omega
 ·show ZcG ((ZL f y fs).lookup g) (if g=f then some u else mA g);rw[Zq]
  by_cases q:g=f
  ·rw[if_pos q,if_pos q];exact ry
  ·rw[if_neg q,if_neg q];exact r g
 ·by_cases q:g=f
  ·rw[q];exact(ZfD f y fs).1
  ·refine(ZfD f y fs).2 g (wi g fun z=>hg ?_);show(if g=f then some u else mA g)=none;rw[if_neg q];exact z
theorem Inv.made(I:Inv X pins σ H s):Inv X pins σ (upd (upd H s.heap.objs.size (.own (s.heap.objs.size+1))) (s.heap.objs.size+1) (.ins C s.heap.objs.size []))
  {s with heap:=(s.heap.push PySem.W.emptyDict).push (PySem.W.instObj C s.heap.objs.size)}:=by
 have e1:(s.heap.push PySem.W.emptyDict).get? s.heap.objs.size=some PySem.W.emptyDict:=Heap.get?_push_size s.heap rfl;have e2:((s.heap.push PySem.W.emptyDict).push (PySem.W.instObj C s.heap.objs.size)).get? (s.heap.objs.size+1)=some (PySem.W.instObj C s.heap.objs.size):=by
  have:=Heap.get?_push_size (s.heap.push PySem.W.emptyDict) (o:=PySem.W.instObj C s.heap.objs.size) rfl
  rwa [Heap.size_push] at this
 have e3:(s.heap.push PySem.W.emptyDict).Ns s.heap.objs.size (fun _=>none):=⟨PySem.W.emptyDict, #[],_,e1,rfl,(fun e he=>absurd he (by simp)),fun _=>rfl⟩
 have I1:=I.laid (a:=s.heap.objs.size) (o:=.own (s.heap.objs.size+1)) (h':=s.heap.push PySem.W.emptyDict) (t':=s.toks) (fun b u q=>Heap.get?_push_of_some _ q) (Nat.le_refl _) ⟨_,e1⟩;refine I1.laid (a:=s.heap.objs.size+1) (o:=.ins C s.heap.objs.size []) (t':=s.toks) (fun b u q=>Heap.get?_push_of_some _ q) (Nat.le_of_eq (Heap.size_push _ _)) ?_;have ne:s.heap.objs.size≠s.heap.objs.size+1:=Nat.ne_of_lt (Nat.lt_succ_self _)
 refine⟨by rw[Zm ne,Zc],Nat.zero_le _,ne,e2,fun _=>none,(Heap.Ns1.of_empty e3).at fun o q=>Heap.get?_push_of_some _ q,fun _=>True.intro,fun y hy=>absurd rfl hy⟩
theorem ZpB{prog:Program}{w:World}{env:Env}{e:Expr}{f:Str}{pos:Pos}{s:Shared}{Q:Value->Shared->Prop}(hb:attributeBase e f env (eval e env)=eval e env)
  (h:wpAny (model prog w) A (eval e env) (fun o s₁=>wpAny (model prog w) A (getAttr o f true) Q E s₁) E s):wpAny (model prog w) A (eval (.Attribute e f pos) env) Q E s:=
 Attribute_any_ h (by rw[arm_eval_Attribute,hb])
end
def ZqW(K:PySem.W.Frag)(ta:TE)(f:Str):TE:=fun σ H Q=>ta σ H fun x H1=>∃a C dx fs v,x=.ref a/\H1 a=some (.ins C dx fs)/\Cls K C/\YD K C f/\fs.lookup f=some v/\Q v H1
def ZsG(K:PySem.W.Frag)(ta tv:TE)(f:Str):TS:=fun D σ H=>tv σ H fun y H1=>ta σ H1 fun x H2=>∃a C dx fs,x=.ref a/\H2 a=some (.ins C dx fs)/\Cls K C/\YD K C f/\fs.length<1000/\
 D.nx σ (upd H2 a (.ins C dx (ZL f y fs)))
section
variable {X:Cx} {o e value:Expr} {f:Str} {pos pos' tpos:Pos} {ta tv:TE}
theorem ZW(he:PE X e ta)(hb:attributeBase e f X.env (eval e X.env)=eval e X.env):PE X (.Attribute e f pos) (ZqW X.K ta f):=by
 intro pins s σ H Q I h;refine ZpB hb (thn (he pins s σ H _ I h) fun u s1 ⟨x,H1,I1,rx,a,C,dx,fs,v,ex,ea,c,n,l,q⟩=> ?_);subst ex;obtain rfl:u=Value.ref a:=rx;exact Zlk I1 ea c n l fun u' s2 I2 ru=>⟨v,H1,I2,ru,q⟩
theorem Zbo(ha:PE X o ta)(hv:PE X value tv)(hs:swapsWith value (some (.Attribute o f pos')) pos.line X.env=pure false):PS X (.Assign [.Attribute o f pos'] value pos) (ZsG X.K ta tv f):=by
 intro pins s σ H D I h;refine plainObj_wpAny_Assign_Attribute (thn (hv pins s σ H _ I h) fun u s1 ⟨y,H1,I1,ry,q⟩=>thn (ha pins s1 σ H1 _ I1 q) fun ov s2 ⟨x,H2,I2,rx,a,C,dx,fs,ex,ea,c,n,l,q2⟩=> ?_) hs;subst ex;obtain rfl:ov=Value.ref a:=rx;exact Zll I2 ea c n l ry fun s3 I3=>⟨σ,_,I3,q2⟩
end
section
variable {X:Cx} {pins:List (Addr×Obj)} {σ:St} {H:Hp} {s:Shared} {A:Around} {E:Value->Shared->Prop} {Q:Value->Shared->Prop} {c:Value} {b:Bool}
end
end L2
namespace L2
open PySem PySem.Spec PyProof.Rows
structure Za1 (k:Nat) (A:Around):Prop where
 hd:A.handled=none
 dp:A.depth+3*k+5<recursionLimit
 un:A.units+16*k+200<cLine
theorem Za1.mono{j k:Nat}{A:Around}(r:Za1 k A)(h:j<=k):Za1 j A:=⟨r.hd,by have:=r.dp;omega,by have:=r.un;omega⟩
theorem Za1.deeper{k:Nat}{A:Around}(r:Za1 (k+1) A)(env:Env):Za1 k (A.deeper env):=
 ⟨r.hd,by have:=r.dp;show A.depth+1+3*k+5<_;omega,by have:=r.un;show A.units+3+16*k+200<_;omega⟩
theorem Zlm{A:Around}{C:Addr}{us:List Value}{kw:List (Str×Value)}:(A.under (.builtin "type.__call__" ⟨.ref C::us,kw⟩)).depth=A.depth+1:=by
 first|rfl|simp[Around.under,Code.weight,Code.isCreation,Code.isGuard,Code.isCaller,Code.frames,Code.isFrame,guardIds]
theorem Zln{A:Around}{C:Addr}{us:List Value}{kw:List (Str×Value)}:(A.under (.builtin "type.__call__" ⟨.ref C::us,kw⟩)).units=A.units+1:=by
 first|rfl|simp[Around.under,Code.cUnits,Code.frames,Code.isFrame]
theorem Za1.make{k:Nat}{A:Around}(r:Za1 (k+1) A)(C:Addr)(us:List Value)(kw:List (Str×Value)):Za1 k (A.under (.builtin "type.__call__" ⟨.ref C::us,kw⟩)):=
 ⟨r.hd,by have:=r.dp;rw[Zlm];omega,by have:=r.un;rw[Zln];omega⟩
theorem Za1.depth{k:Nat}{A:Around}(r:Za1 k A):A.depth<recursionLimit:=by have:=r.dp;omega
theorem Za1.units{k:Nat}{A:Around}(r:Za1 k A):A.units+64<cLine:=by have:=r.un;omega
def ZnU:TA:=fun _ H Q=>Q [] H
def ZrN(ta:TE)(tr:TA):TA:=fun σ H Q=>ta σ H fun x H1=>tr σ H1 fun xs H2=>Q (x::xs) H2
section
variable {X:Cx} {e:Expr} {es:List Expr} {te:TE} {t:TA} {pos:Pos}
theorem Zj:PA X [] ZnU:=fun _ _ _ _ H Q I h=>Calls.spliced_nil ⟨[],H,I,.nil,h⟩
theorem Za(ha:PE X e te)(hr:PA X es t)(hs:starEach (e::es) X.env=(false,eval e X.env)::starEach es X.env:=by rfl):PA X (e::es) (ZrN te t):=by
 intro pos pins s σ H Q I h;rw[hs];show wpAny _ _ (spliced ((false,eval e X.env)::backTo pos (starEach es X.env))) _ _ s;refine Calls.spliced_cons (thn (ha pins s σ H _ I h) fun u s1 ⟨x,H1,I1,r1,q1⟩=> ?_);exact thn (hr pos pins s1 σ H1 _ I1 q1) fun us s2 ⟨xs,H2,I2,r2,q2⟩=>⟨x::xs,H2,I2,.cons r1 r2,q2⟩
def ZsH(t:TA):TE:=fun σ H Q=>t σ H fun xs H1=>xs.length<=sizeLine/\∀p,H1 p=none->Q (.ref p) (upd H1 p (.tup xs))
def ZsI(t:TA):TE:=fun σ H Q=>t σ H fun xs H1=>xs.length<=sizeLine/\∀p,H1 p=none->Q (.ref p) (upd H1 p (.lst xs))
theorem YX{x1}(h:PA X es t):PE X (.Tuple es x1 pos) (ZsH t):=by
 intro pins s σ H Q I hq;refine wpAny_Tuple_spliced (thn (h pos pins s σ H _ I hq) fun us s1 ⟨xs,H1,I1,r,z,q⟩=>⟨by rw[<-r.length];exact z, ?_⟩)
 have hf:H1 s1.heap.objs.size=none:=I1.hok.fresh (Nat.le_refl _);refine⟨.ref s1.heap.objs.size,upd H1 s1.heap.objs.size (.tup xs),I1.laid (t':=s1.toks) (fun b u e=>Heap.get?_push_of_some _ e) (Nat.le_refl _) ?_,rfl,q _ hf⟩;exact⟨z,us,r,⟨_,Heap.get?_push_size _ rfl,rfl,_,rfl⟩⟩
theorem Yl(h:PA X es t):PE X (.List es pos) (ZsI t):=by
 intro pins s σ H Q I hq;refine wpAny_List_spliced (thn (h pos pins s σ H _ I hq) fun us s1 ⟨xs,H1,I1,r,z,q⟩=>⟨by rw[<-r.length];exact z, ?_⟩)
 have hf:H1 s1.heap.objs.size=none:=I1.hok.fresh (Nat.le_refl _);refine⟨.ref s1.heap.objs.size,upd H1 s1.heap.objs.size (.lst xs),I1.laid (t':=s1.toks) (fun b u e=>Heap.get?_push_of_some _ e) (Nat.le_refl _) ?_,rfl,q _ hf⟩;exact⟨z,us,0,r,Heap.get?_push_size _ rfl⟩
end
abbrev Sp:=List V->Hp->VK->XK->Prop
abbrev CXT:=List Env->Hp->Shared->XK->Value->Shared->Prop
structure Zlo (P:Program) (w:World) (K:PySem.W.Frag) (mg:Str->Option Value) (base:Heap) (A:Around) (outer:List Env) (s:Shared) (H:Hp):Prop where
 frames:A.frames=some outer
 mod:Mod K mg base
 bs:∀b o,base.get? b=some o->s.heap.get? b=some o/\H b=none
 bsz:base.objs.size<=s.heap.objs.size
 funs:s.heap.FunFrames base outer
 frf:∀b∈frs outer,H b=none
 hok:HOk P w H s.heap
 bare:AllBare s.gens
def CE(outer:List Env)(P:Program)(w:World)(H:Hp)(s:Shared)(Q:VK)(u:Value)(s':Shared):Prop:=
 ∃v H',s'.os=s.os/\AllBare s'.gens/\Un (frs outer) [] H H' s.heap s'.heap/\HOk P w H' s'.heap/\ZV v u/\Q v H'
def CR(CX:CXT)(outer:List Env)(P:Program)(w:World)(H:Hp)(s:Shared)(Q:VK)(E:XK)(r:Result)(s':Shared):Prop:=
 match r with
 | .ok (.ret u)=>CE outer P w H s Q u s'
 | .ok _=>False
 | .error e=>CX outer H s E e s'
structure Yr (P:Program) (w:World) (K:PySem.W.Frag) (mg:Str->Option Value) (base:Heap) (CX:CXT) (k:Nat) (f:Addr) (fd:FuncData) (ps:List Str) (sp:Sp):Prop where
 len:∀vs H Q E,sp vs H Q E->vs.length=ps.length
 run:∀(A:Around) (outer:List Env) (s:Shared) (H:Hp) (args:Args) (us:List Value) (vs:List V) (Q:VK) (E:XK),Za1 k A->Zlo P w K mg base A outer s H->BindsTo s fd args (ps.zip us)->Yb vs us->sp vs H Q E->
  codeAny (model P w) A (.call (.ref f) args) (CR CX outer P w H s Q E) s
theorem Zlo.make{P:Program}{w:World}{K:PySem.W.Frag}{mg:Str->Option Value}{base:Heap}{A:Around}{outer:List Env}{s:Shared}{H:Hp}(e:Zlo P w K mg base A outer s H)(C:Addr)(us:List Value)(kw:List (Str×Value)):
  Zlo P w K mg base (A.under (.builtin "type.__call__" ⟨.ref C::us,kw⟩)) outer s H:=⟨by first|exact e.frames|(simpa [Around.under,Code.envs,Code.isFrame,pushEnvs] using e.frames),e.mod,e.bs,e.bsz,e.funs,e.frf,e.hok,e.bare⟩
section
variable {X:Cx} {pins:List (Addr×Obj)} {σ:St} {H:Hp} {s s':Shared}
theorem Inv.env0(I:Inv X pins σ H s):Zlo X.prog X.w X.K X.mg X.base X.A X.stack s H:=
 ⟨I.ok.frames,I.ok.mod,I.bs,Nat.le_trans I.ok.bsz I.sz,I.stack,I.stkFree,I.hok,I.bare⟩
theorem Inv.after{Q:VK}{u:Value}(I:Inv X pins σ H s)(h:CE X.stack X.prog X.w H s Q u s'):EP X pins σ Q u s':=by
 obtain⟨v,H',os,bare,un,hok,r,q⟩:=h;obtain⟨hh,g,d,t,os'⟩:=s';obtain rfl:os'=s.os:=os;exact⟨v,H',I.call (h':=hh) (g':=g) (d':=d) (t':=t) (ch:=[]) un hok bare (fun b z=>absurd z (by simp)),r,q⟩
end
def Zmn(sp:Sp)(dvs:List V)(E:XK)(t:TA):TE:=fun σ H Q=>t σ H fun vs H1=>sp (vs++dvs) H1 Q E
def Zqy(C:Addr)(sp:Sp)(dvs:List V)(E:XK)(t:TA):TE:=fun σ H Q=>t σ H fun vs H1=>∀x dx,H1 x=none->H1 dx=none->dx≠x->
 sp (.ref x::(vs++dvs)) (upd (upd H1 dx (.own x)) x (.ins C dx [])) (fun v H2=>v=.non/\Q (.ref x) H2) E
def Zdi(K:PySem.W.Frag)(fd:FuncData)(ps:List Str)(ds:List Value):Prop:=
 ∀(s:Shared) (us:List Value),K.In s.heap->(us++ds).length=ps.length->BindsTo s fd ⟨us,[]⟩ (ps.zip (us++ds))
theorem Zdi.all{K:PySem.W.Frag}{fd:FuncData}{ps:List Str}(h:∀us:List Value,us.length=ps.length->bindArgs fd ⟨us,[]⟩=pure (ps.zip us)):Zdi K fd ps []:=fun s us _ hl=>by
 rw[List.append_nil] at hl⊢
 exact .of_eq (h us hl)
def Zbp(CX:CXT)(X:Cx)(E:XK):Prop:=∀(pins:List (Addr×Obj)) (σ:St) (H:Hp) (s:Shared) (e:Value) (s':Shared),Inv X pins σ H s->CX X.stack H s E e s'->X.xe e s'
section
variable {X:Cx} {CX:CXT} {k:Nat} {f C:Addr} {fd:FuncData} {ps:List Str} {sp:Sp} {dvs:List V} {ds:List Value} {E:XK} {x m:Str} {p pos apos:Pos} {e o:Expr} {es:List Expr} {ta:TE} {t:TA}
theorem Zjh{pins:List (Addr×Obj)}{σ:St}{H:Hp}{s:Shared}{Q:VK}{us:List Value}{vs:List V}(F:Yr X.prog X.w X.K X.mg X.base CX k f fd ps sp)(hr:Za1 k X.A)(hb:Zdi X.K fd ps ds)(hd:Yb dvs ds)(hx:Zbp CX X E)
  (I:Inv X pins σ H s)(r:Yb vs us)(h:sp (vs++dvs) H Q E):wpAny (model X.prog X.w) X.A (call (.ref f) us) (EP X pins σ Q) X.xe s:=by
 have r2:Yb (vs++dvs) (us++ds):=r.append hd;have hl:(us++ds).length=ps.length:=by rw[<-r2.length];exact F.len _ _ _ _ h
 refine wpAny_call (codeAny_mono (F.run X.A X.stack s H ⟨us,[]⟩ (us++ds) (vs++dvs) Q E hr I.env0 (hb s us I.kIn hl) r2 h) fun r s' hq=> ?_);cases r with
 |error e=>exact hx pins σ H s e s' I hq
 |ok fl=>
  cases fl with
  |ret u=>exact I.after hq
  |next=>exact False.elim hq
  |brk=>exact False.elim hq
  |cont=>exact False.elim hq
theorem ZpC(F:Yr X.prog X.w X.K X.mg X.base CX k f fd ps sp)(hr:Za1 k X.A)(hg:Gl X x)(hm:X.mg x=some (.ref f))(hk:PySem.W.keepIn X.K (.ref f)=true)(hb:Zdi X.K fd ps ds)(hd:Yb dvs ds)(hx:Zbp CX X E)
  (ha:PA X (e::es) t)(hdb:(x==("__debug__":Str))=false:=by decide)(he:starEach (e::es) X.env=(false,eval e X.env)::starEach es X.env:=by rfl)(hpl:(backTo pos (starEach es X.env)).any (·.1)=false:=by rfl):
  PE X (.Call (.Name x p) (e::es) [] pos) (Zmn sp dvs E t):=by
 intro pins s σ H Q I h;refine wpAny_Call_Name_kw (ZgG I hg hm ?_ hdb);refine PySem.W.callWith_K (h₀:=X.base) I.ok.mod.kin hk (thn (ha pos pins s σ H _ I h) fun us s1 ⟨vs,H1,I1,r,q⟩=>⟨I1.kIn, ?_⟩) he hpl;exact Zjh F hr hb hd hx I1 r q
theorem ZnV(F:Yr X.prog X.w X.K X.mg X.base CX k f fd ps sp)(hr:Za1 k X.A)(hg:Gl X x)(hm:X.mg x=some (.ref f))(hk:PySem.W.keepIn X.K (.ref f)=true)(hb:Zdi X.K fd ps ds)(hd:Yb dvs ds)(hx:Zbp CX X E)
  (hdb:(x==("__debug__":Str))=false:=by decide):PE X (.Call (.Name x p) [] [] pos) (Zmn sp dvs E ZnU):=by
 intro pins s σ H Q I h;refine wpAny_Call_Name_kw (ZgG I hg hm ?_ hdb);exact PySem.W.callWith_K0 I.kIn hk (Zjh (us:=[]) F hr hb hd hx I .nil h)
structure Mk (K:PySem.W.Frag) (C f:Addr):Prop where
 makes:PySem.W.makesIn K C=true
 init:PySem.W.findIn K (.ref C) "__init__"=some (some (.ref f))
 fn:PySem.W.isFn K (.ref f)=true
 kp:PySem.W.keepIn K (.ref C)=true
theorem ZnW{pins:List (Addr×Obj)}{σ:St}{H:Hp}{s:Shared}{Q:VK}{us:List Value}{vs:List V}(M:Mk X.K C f)(F:Yr X.prog X.w X.K X.mg X.base CX k f fd ps sp)(hr:Za1 (k+1) X.A)(hb:Zdi X.K fd ps ds)(hd:Yb dvs ds)
  (hx:Zbp CX X E)(I:Inv X pins σ H s)(r:Yb vs us)
  (h:∀x dx,H x=none->H dx=none->dx≠x->sp (.ref x::(vs++dvs)) (upd (upd H dx (.own x)) x (.ins C dx [])) (fun v H2=>v=.non/\Q (.ref x) H2) E):
  wpAny (model X.prog X.w) X.A (call (.ref C) us) (EP X pins σ Q) X.xe s:=by
 have hq:=h (s.heap.objs.size+1) s.heap.objs.size (I.hok.fresh (Nat.le_succ _)) (I.hok.fresh (Nat.le_refl _)) (Nat.ne_of_lt (Nat.lt_succ_self _));have I2:=Inv.made (C:=C) I;have r2:Yb (V.ref (s.heap.objs.size+1)::(vs++dvs)) (Value.ref (s.heap.objs.size+1)::(us++ds)):=.cons rfl (r.append hd);have hl:(Value.ref (s.heap.objs.size+1)::us++ds).length=ps.length:=by
  have e:=r2.length;rw[F.len _ _ _ _ hq] at e
  exact e.symm
 refine wpAny_call (ZnT (f:=f) I.kIn M.makes M.init (beq_iff_eq.mp M.fn) (codeAny_mono (F.run _ X.stack _ _ ⟨Value.ref (s.heap.objs.size+1)::us,[]⟩ (Value.ref (s.heap.objs.size+1)::(us++ds)) _ _ E (hr.make C us [])
  (I2.env0.make C us []) (hb _ (Value.ref (s.heap.objs.size+1)::us) I2.kIn hl) r2 hq) fun r s' hq'=> ?_))
 cases r with
 |error e=>exact hx pins σ _ _ e s' I2 hq'
 |ok fl=>
  cases fl with
  |ret u=>
   obtain⟨v,H',I3,rv,ev,q3⟩:=I2.after hq';subst ev;exact⟨rv,⟨V.ref (s.heap.objs.size+1),H',I3,rfl,q3⟩⟩
  |next=>exact False.elim hq'
  |brk=>exact False.elim hq'
  |cont=>exact False.elim hq'
theorem ZpD(M:Mk X.K C f)(F:Yr X.prog X.w X.K X.mg X.base CX k f fd ps sp)(hr:Za1 (k+1) X.A)(hg:Gl X x)(hm:X.mg x=some (.ref C))(hb:Zdi X.K fd ps ds)(hd:Yb dvs ds)(hx:Zbp CX X E)
  (ha:PA X (e::es) t)(hdb:(x==("__debug__":Str))=false:=by decide)(he:starEach (e::es) X.env=(false,eval e X.env)::starEach es X.env:=by rfl)(hpl:(backTo pos (starEach es X.env)).any (·.1)=false:=by rfl):
  PE X (.Call (.Name x p) (e::es) [] pos) (Zqy C sp dvs E t):=by
 intro pins s σ H Q I h;refine wpAny_Call_Name_kw (ZgG I hg hm ?_ hdb);refine PySem.W.callWith_K (h₀:=X.base) I.ok.mod.kin M.kp (thn (ha pos pins s σ H _ I h) fun us s1 ⟨vs,H1,I1,r,q⟩=>⟨I1.kIn, ?_⟩) he hpl;exact ZnW M F hr hb hd hx I1 r q
end
section
variable {X:Cx} {CX:CXT} {k:Nat} {f C:Addr} {fd:FuncData} {ps ks:List Str} {sp:Sp} {E:XK} {x m:Str} {p pos apos kpos:Pos} {e o:Expr} {es:List Expr} {kws:List Keyword} {te ta:TE} {t tk:TA} {nm:Option Str}
variable {g:List Value->List Value->List Value} {gV:List V->List V->List V}
end
structure ZC (N P:List Str) (sc:Scope):Prop where
 kind:sc.kind=.function
 co:sc.isCoroutine=false
 gen:sc.isGenerator=false
 nd:N.Nodup
 pre:N.take P.length=P
 par:∀x∈P,sc.names.lookup x=some .local\/sc.names.lookup x=some .cell
 nofree:∀y∈sc.names,y.2≠.free
theorem ZiD{kindOf:Str->Option NameKind}{x:Str}:∀{binds:List (Str×Value)} {m:Str->Option Value},(∀v,(x,v)∉binds)->bindL kindOf binds m x=m x
 |[],_,_=>rfl
 |(n,v)::r,m,h=>by
  unfold bindL;rw[ZiD fun w hw=>h w (List.mem_cons_of_mem _ hw)]
  split
  ·have:x≠n:=by rintro rfl;exact h v List.mem_cons_self
   simp[this]
  ·rfl
theorem ZiE{kindOf:Str->Option NameKind}{x:Str}:∀{binds:List (Str×Value)} {m:Str->Option Value},(∀v,(x,v)∉binds)->bindC kindOf binds m x=m x
 |[],_,_=>rfl
 |(n,v)::r,m,h=>by
  unfold bindC;rw[ZiE fun w hw=>h w (List.mem_cons_of_mem _ hw)]
  split
  ·rfl
  ·have:x≠n:=by rintro rfl;exact h v List.mem_cons_self
   simp[this]
theorem ZiF{kindOf:Str->Option NameKind}{x:Str}{v:Value}:∀{P:List Str} {vs:List Value} {i:Nat} {m:Str->Option Value},P.Nodup->P[i]? =some x->vs[i]? =some v->kindOf x=some .local->
  bindL kindOf (P.zip vs) m x=some v
 |[],_,_,_,_,h,_,_=>by simp at h
 |_::_,[],_,_,_,_,h,_=>by simp at h
 |p::P,w::vs,0,m,nd,h1,h2,hk=>by
  simp at h1 h2;subst h1;subst h2
  show bindL kindOf ((p,w)::P.zip vs) m p=_;unfold bindL;rw[ZiD fun v hv=>(List.nodup_cons.mp nd).1 (List.of_mem_zip hv).1,if_pos hk];simp
 |p::P,w::vs,i+1,m,nd,h1,h2,hk=>by
  show bindL kindOf ((p,w)::P.zip vs) m x=_;unfold bindL;exact ZiF (i:=i) (List.nodup_cons.mp nd).2 (by simpa using h1) (by simpa using h2) hk
theorem ZiG{kindOf:Str->Option NameKind}{x:Str}{v:Value}:∀{P:List Str} {vs:List Value} {i:Nat} {m:Str->Option Value},P.Nodup->P[i]? =some x->vs[i]? =some v->kindOf x≠some .local->
  bindC kindOf (P.zip vs) m x=some v
 |[],_,_,_,_,h,_,_=>by simp at h
 |_::_,[],_,_,_,_,h,_=>by simp at h
 |p::P,w::vs,0,m,nd,h1,h2,hk=>by
  simp at h1 h2;subst h1;subst h2
  show bindC kindOf ((p,w)::P.zip vs) m p=_;unfold bindC;rw[ZiE fun v hv=>(List.nodup_cons.mp nd).1 (List.of_mem_zip hv).1,if_neg hk];simp
 |p::P,w::vs,i+1,m,nd,h1,h2,hk=>by
  show bindC kindOf ((p,w)::P.zip vs) m x=_;unfold bindC;exact ZiG (i:=i) (List.nodup_cons.mp nd).2 (by simpa using h1) (by simpa using h2) hk
def Zei(N:List Str)(vs:List V):St:=vs.map some++List.replicate (N.length-vs.length) none
def ZmY(CX:CXT)(P:Program)(w:World)(K:PySem.W.Frag)(mg:Str->Option Value)(base:Heap)(N:List Str)(qual:Str)(scope:Scope)(f:Addr)(cd:Value)(A:Around)(outer:List Env)(s:Shared)(H:Hp)(E:XK):Cx where
 prog:=P
 w:=w
 K:=K
 mg:=mg
 base:=base
 A:=A.deeper (envOfC qual scope s.heap.objs.size f cd)
 N:=N
 s₀:=s
 H₀:=H
 env:=envOfC qual scope s.heap.objs.size f cd
 outer:=outer
 stack:=envOfC qual scope s.heap.objs.size f cd::outer
 ex:=[]
 calm:=true
 fn:=fun _=>true
 pn:=[]
 xe:=fun e s'=>wpAny (model P w) (A.deeper (envOfC qual scope s.heap.objs.size f cd)) (leaving (envOfC qual scope s.heap.objs.size f cd) e) (fun _ s''=>CX outer H s E e s'') (fun e' s''=>CX outer H s E e' s'') s'
theorem Zkm{sc:Scope}{n:Nat}{x:Str}(h:sc.names.lookup x=some .cell):∃c,(cellsFrom n sc.names []).lookup x=some c:=by
 have q:=PySem.W.cellsFrom_some sc.names n [] (.inl h);exact Option.isSome_iff_exists.mp q
theorem ZmZ{CX:CXT}{P:Program}{w:World}{K:PySem.W.Frag}{mg:Str->Option Value}{base:Heap}{N ps:List Str}{qual:Str}{scope:Scope}{f:Addr}{cd:Value}{A:Around}{outer:List Env}{s s1:Shared}{H:Hp}{E:XK}{us:List Value}{vs:List V}
  (S:ZC N ps scope)(hd:A.handled=none)(e0:Zlo P w K mg base A outer s H)(hl:vs.length=ps.length)(r:Yb vs us)
  (x:InCallC s s.heap.objs.size (bindL (envOfC qual scope s.heap.objs.size f cd).kindOf (ps.zip us) fun _=>none) (cellsFrom (s.heap.objs.size+1) scope.names []) (bindC (envOfC qual scope s.heap.objs.size f cd).kindOf (ps.zip us) fun _=>none) s1):
  Inv (ZmY CX P w K mg base N qual scope f cd A outer s H E) [] (Zei N vs) H s1:=by
 have hpl:ps.length<=N.length:=by have:=congrArg List.length S.pre;rw[List.length_take] at this;omega
 obtain⟨h1,tk,rfl,hk⟩:=x.done;have noA:∀b:Addr,b∉(ZmY CX P w K mg base N qual scope f cd A outer s H E).ex:=fun b z=>absurd (show b∈([]:List Addr) from z) (by simp);refine⟨⟨e0.mod,S.kind,rfl,rfl,Nat.le_refl _,fun y z c h1 h2=> ?_,fun y hy=> ?_,fun y c _ h=> ?_,fun _=>hd,Around.frames_deeper e0.frames,.inr ⟨rfl,rfl⟩,fun b z=>absurd z (noA b),e0.bs,e0.bsz,fun b _ _=>noA b,fun b z=>absurd z (noA b),e0.funs,e0.frf⟩,
  rfl,e0.bare,Un.kept hk,⟨_,x.toInCall.ns,fun i y v h1 h2 h3=> ?_⟩,fun y c h=>⟨_,x.cell y c h⟩,e0.hok.fresh (Nat.le_refl _),fun y c h=> ?_,fun p hp=>absurd (show p∈([]:List (Addr×Obj)) from hp) (by simp),e0.hok.kept hk, ?_⟩
 ·exact name_of_addr x.apart (PySem.mem_of_lookup h1) (PySem.mem_of_lookup h2)
 ·have hy:scope.names.lookup y=some .cell\/scope.names.lookup y=some .free:=hy;rcases hy with hy|hy
  ·exact Zkm hy
  ·exact absurd rfl (S.nofree _ (PySem.mem_of_lookup hy))
 ·exact Nat.le_of_lt (x.above y c (PySem.mem_of_lookup h))
 ·have hi:i<vs.length:=by
   unfold Zei at h2
   by_cases hi:i<vs.length
   ·exact hi
   ·rw[List.getElem?_append_right (by simpa using hi)] at h2
    rw[List.getElem?_replicate] at h2
    split at h2<;>cases h2
  have ha:vs[i]? =some v:=by
   unfold Zei at h2
   rw[List.getElem?_append_left (by simpa using hi),List.getElem?_map] at h2
   cases e:vs[i]? with
   |none=>rw[e] at h2;cases h2
   |some a=>rw[e] at h2;cases h2;rfl
  obtain⟨u,hu,rv⟩:=r.get ha;have hp:ps[i]? =some y:=by
   rw[<-S.pre,List.getElem?_take_of_lt (by omega)];exact h1
  have ndP:ps.Nodup:=by rw[<-S.pre];exact S.nd.sublist (List.take_sublist _ _)
  refine⟨u,rv, ?_⟩;rcases S.par y (List.mem_of_getElem? hp) with k|k
  ·exact .inl ⟨k,ZiF ndP hp hu k⟩
  ·obtain⟨c,e⟩:=Zkm (n:=s.heap.objs.size+1) k;refine .inr ⟨.inl k,c,e, ?_⟩;have q:=x.cell y c e;rw[ZiG ndP hp hu (by show scope.names.lookup y≠_;rw[k];decide)] at q
   exact q
 ·exact e0.hok.fresh (Nat.le_of_lt (x.above y c (PySem.mem_of_lookup h)))
 ·unfold Zei;show _=N.length;rw[List.length_append,List.length_map,List.length_replicate];omega
theorem ZrO{CX:CXT}{P:Program}{w:World}{K:PySem.W.Frag}{mg:Str->Option Value}{base:Heap}{k:Nat}{f:Addr}{name qual:Str}{params:Arguments}{body:List Stmt}{scope:Scope}{dV kV doc pm cdv ct oc:Value}{an od:Option Addr}
  {osl:Array (Option Value)}{N ps:List Str}{sp:Sp}(lk:K.lookup f=some ⟨oc,od,.func (PySem.W.fnOf name qual params body scope dV kV doc pm an cdv ct),osl⟩)(hcd:PySem.W.codeIn K cdv qual=true)(S:ZC N ps scope)
  (len:∀vs H Q E,sp vs H Q E->vs.length=ps.length)
  (hbody:∀(A:Around) (outer:List Env) (s:Shared) (H:Hp) (vs:List V) (Q:VK) (E:XK),Za1 k (A.deeper (envOfC qual scope s.heap.objs.size f cdv))->sp vs H Q E->
   ∃t,PSs (ZmY CX P w K mg base N qual scope f cdv A outer s H E) body t/\t {nx:=fun _ H'=>Q .non H',rt:=Q} (Zei N vs) H):
  Yr P w K mg base CX (k+1) f (PySem.W.fnOf name qual params body scope dV kV doc pm an cdv ct) ps sp:=by
 refine⟨len,fun A outer s H args us vs Q E hr e0 hb r hsp=> ?_⟩;have hl:=len _ _ _ _ hsp;have KX:K.In s.heap:=e0.mod.kin.keeps fun b o e=>(e0.bs b o e).1;have lim:s.heap.NoLimit:=e0.mod.nolimit.keeps fun b o e=>(e0.bs b o e).1;have hkind:∀y∈ps.zip us,scope.names.lookup y.1=some .local\/(scope.names.lookup y.1=some .cell/\((cellsFrom (s.heap.objs.size+1) scope.names []).lookup y.1).isSome=true):=fun⟨n,v⟩ hy=>by
  rcases S.par n (List.of_mem_zip hy).1 with q|q
  ·exact .inl q
  ·exact .inr ⟨q,PySem.W.cellsFrom_some _ _ _ (.inl q)⟩
 refine codeAny_call_function hr.depth (KX _ _ lk) rfl S.co S.gen rfl (PySem.W.codeRec_of KX hcd) (hb _ _ _ _ ?_);refine wpAny_newFunctionEnv_cells S.kind hkind fun env he s1 x=> ?_;subst he;refine⟨lim.keeps x.toInCall.keep,codeAny_func ?_⟩;obtain⟨t,ht,hq⟩:=hbody A outer s H vs Q E (hr.deeper _) hsp;have I:Inv (ZmY CX P w K mg base N qual scope f cdv A outer s H E) [] (Zei N vs) H s1:=ZmZ S hr.hd e0 hl r x
 refine wpAny_mono (ht [] s1 (Zei N vs) H _ I hq) (fun fl s' hs=> ?_) fun e s' hs=>hs;have fin:∀{σ':St} {H':Hp} {v:V} {u:Value},Inv (ZmY CX P w K mg base N qual scope f cdv A outer s H E) [] σ' H' s'->ZV v u->Q v H'->CE outer P w H s Q u s':=
  fun{σ' H' v u} J rv q=>⟨v,H',J.os,J.bare,J.base,J.hok,rv,q⟩
 cases fl with
 |ret u=>
  obtain⟨v,σ',H',J,rv,q⟩:=hs;exact fin J rv q
 |next=>
  obtain⟨σ',H',J,q⟩:=hs;exact fin (v:=V.non) (u:=Value.none) J rfl q
 |brk=>
  obtain⟨_,_,_,q⟩:=hs;exact False.elim q
 |cont=>
  obtain⟨_,_,_,q⟩:=hs;exact False.elim q
end L2
namespace L2
open PySem PySem.Spec PyProof.Rows
section
variable {X:Cx} {x:Str} {p pos:Pos} {e:Expr} {es:List Expr} {t:TA} {id T:String} {r:List V->Hp->VK->Prop}
def tCB(r:List V->Hp->VK->Prop)(t:TA):TE:=fun σ H Q=>t σ H fun vs H1=>r vs H1 Q
theorem ZM(hc:Zbn X (.builtin id) r)(hg:Gl X x)(hm:X.mg x=none)(hv:bootBuiltins x=some (.builtin id))(ha:PA X (e::es) t)(hn:x≠"__name__":=by decide)(hdb:(x==("__debug__":Str))=false:=by decide)
  (he:starEach (e::es) X.env=(false,eval e X.env)::starEach es X.env:=by rfl)(hpl:(backTo pos (starEach es X.env)).any (·.1)=false:=by rfl):PE X (.Call (.Name x p) (e::es) [] pos) (tCB r t):=by
 intro pins s σ H Q I h;refine wpAny_Call_Name_kw (ZfA I hg hm hv ?_ hn hdb);exact PyProof.Rows.callWith_builtin1 (thn (ha pos pins s σ H _ I h) fun us s1 ⟨vs,H1,I1,r1,q1⟩=>hc pins s1 σ H1 vs us Q I1 r1 q1) he hpl
theorem JV(hc:Zbn X (.type T) r)(hg:Gl X x)(hm:X.mg x=none)(hv:bootBuiltins x=some (.type T))(ha:PA X (e::es) t)(hn:x≠"__name__":=by decide)(hdb:(x==("__debug__":Str))=false:=by decide)
  (he:starEach (e::es) X.env=(false,eval e X.env)::starEach es X.env:=by rfl)(hpl:(backTo pos (starEach es X.env)).any (·.1)=false:=by rfl):PE X (.Call (.Name x p) (e::es) [] pos) (tCB r t):=by
 intro pins s σ H Q I h;refine wpAny_Call_Name_kw (ZfA I hg hm hv ?_ hn hdb);exact PyProof.Rows.callWith_type1 (thn (ha pos pins s σ H _ I h) fun us s1 ⟨vs,H1,I1,r1,q1⟩=>hc pins s1 σ H1 vs us Q I1 r1 q1) he hpl
end
end L2
namespace HT
open PySem PyProof.Rows
section
open PySem.SeqAt
open PySem.AutoSeq1 (wpAny_loadPart')
open PySem.MeetsSeq PySem.MeetsSeq2 PySem.MeetsSeq3
end
section
variable {prog:Program} {w:World} {A:Around} {E:Value->Shared->Prop} {s:Shared}
def sIx(n d:Nat):Option Int->Nat
 |none=>d
 |some v=>if v<0 then(v+(n:Int)).toNat else min v.toNat n
theorem Zkn(n d:Nat):sIx n d none=d:=rfl
theorem ZgH(n d k:Nat):sIx n d (some (k:Int))=min k n:=by
 show(if(k:Int)<0 then((k:Int)+(n:Int)).toNat else min (k:Int).toNat n)=min k n;rw[if_neg (by omega),Int.toNat_natCast]
theorem ZqX(n d:Nat)(hd:d<=n)(o:Option Int):sIx n d o<=n:=by
 cases o with
 |none=>exact hd
 |some v=>
  show(if v<0 then(v+(n:Int)).toNat else min v.toNat n)<=n
  by_cases hv:v<0
  ·rw[if_pos hv];omega
  ·rw[if_neg hv];exact Nat.min_le_right _ _
theorem Zmo(v:Int)(n d:Nat):(if v<0 then max (v+(n:Int)) 0 else min v (n:Int))=((sIx n d (some v):Nat):Int):=by
 show(if v<0 then max (v+(n:Int)) 0 else min v (n:Int))=(((if v<0 then(v+(n:Int)).toNat else min v.toNat n):Nat):Int)
 by_cases hv:v<0
 ·simp only [if_pos hv];omega
 ·simp only [if_neg hv];omega
theorem Zlp(lo hi:Option Int)(n:Nat):Builtin.Slice.sliceAdjust lo hi 1 (n:Int)=(((sIx n 0 lo:Nat):Int),((sIx n n hi:Nat):Int)):=by
 have h1:¬((1:Int)<0):=by omega
 unfold Builtin.Slice.sliceAdjust;simp only [h1,if_false];refine Prod.ext ?_ ?_
 ·cases lo with
  |none=>rfl
  |some v=>exact Zmo v n 0
 ·cases hi with
  |none=>rfl
  |some v=>exact Zmo v n n
theorem Zlq(i j:Nat):Builtin.Slice.slicePlaces (i:Int) (j:Int) 1=j-i:=by
 unfold Builtin.Slice.slicePlaces;have h1:(1:Int)>0:=by omega
 simp only [h1,if_true,Int.ediv_one]
 split<;>omega
theorem Zh4{v:Value}{o:Option Int}{Q:Option Int->Shared->Prop}(p:IsPart v o)(h:Q o s):wpAny (model prog w) A (Builtin.Slice.slicePartIndex v) Q E s:=by
 cases p with
 |none=>exact slicePart_none h
 |int i t=>exact slicePart_int h
theorem ZfE{sl:Addr}{vl vu:Value}{lo hi:Option Int}{n:Nat}{Q:Int×Int×Nat->Shared->Prop}(hs:s.heap.IsSliceOf sl vl vu .none)(pl:IsPart vl lo)(pu:IsPart vu hi)
  (h:Q (((sIx n 0 lo:Nat):Int),1,sIx n n hi-sIx n 0 lo) s):wpAny (model prog w) A (Builtin.Slice.sliceApplied (.ref sl) (pure (n:Int))) Q E s:=by
 obtain⟨os,hos,hcs,hds⟩:=id hs;unfold Builtin.Slice.sliceApplied Builtin.Slice.sliceFields;refine wpAny_bind (wpAny_bind (wpAny_field hos hds (x:=vl) rfl (wpAny_bind (wpAny_field hos hds (x:=vu) rfl (wpAny_bind (wpAny_field hos hds (x:=.none) rfl (wpAny_pure ?_)))))));refine wpAny_bind (slicePart_none ?_);show wpAny _ _ (if((1:Int)==0)=true then _ else _) _ _ s;rw[if_neg (by decide)];refine wpAny_bind (Zh4 pl (wpAny_bind (Zh4 pu (wpAny_bind (wpAny_pure ?_)))))
 show wpAny _ _ (match Builtin.Slice.sliceAdjust lo hi 1 (n:Int) with|(lo,hi)=>pure (lo,(1:Int),Builtin.Slice.slicePlaces lo hi 1)) _ _ s;rw[Zlp lo hi n];show wpAny _ _ (pure (((sIx n 0 lo:Nat):Int),(1:Int),Builtin.Slice.slicePlaces ((sIx n 0 lo:Nat):Int) ((sIx n n hi:Nat):Int) 1)) _ _ s;rw[Zlq];exact wpAny_pure h
theorem ZnX(xs:Array Value)(i k:Nat):((List.range k).filterMap fun(m:Nat)=>xs[((i:Int)+(m:Int)*1).toNat]?).toArray=((xs.toList.drop i).take k).toArray:=by
 have e:(fun(m:Nat)=>xs[((i:Int)+(m:Int)*1).toNat]?)=fun m=>xs[i+m]? :=by
  funext m
  have:((i:Int)+(m:Int)*1).toNat=i+m:=by omega
  rw[this]
 rw[e];have:=pick_run xs i k;rw[List.filterMap_map] at this
 have e2:((fun x=>xs[x]?)∘fun x=>i+x)=fun m=>xs[i+m]? :=rfl;rw[e2] at this
 rw[this]
theorem ZeW{t sl:Addr}{items:Array Value}{vl vu:Value}{lo hi:Option Int}{Q:Value->Shared->Prop}(ht:IsTup s.heap t items)(hs:s.heap.IsSliceOf sl vl vu .none)(pl:IsPart vl lo)(pu:IsPart vu hi)
  (hw:¬(sIx items.size 0 lo=0/\sIx items.size items.size hi=items.size))
  (h:Q (.ref s.heap.objs.size) {s with heap:=s.heap.push {cls:=.type "tuple",data:=.seq ((items.toList.drop (sIx items.size 0 lo)).take (sIx items.size items.size hi-sIx items.size 0 lo)).toArray}})
  (hsz:items.size<=sizeLine):wpAny (model prog w) A (getItem (.ref t) (.ref sl)) Q E s:=by
 have htake:sizeOk (.seq ((items.toList.drop (sIx items.size 0 lo)).take (sIx items.size items.size hi-sIx items.size 0 lo)).toArray):=by
  show((items.toList.drop (sIx items.size 0 lo)).take (sIx items.size items.size hi-sIx items.size 0 lo)).toArray.size<=sizeLine;rw[List.size_toArray,List.length_take,List.length_drop,Array.length_toList];omega
 have hj:sIx items.size items.size hi<=items.size:=ZqX _ _ (Nat.le_refl _) hi;obtain⟨os,hos,hcs,hds⟩:=id hs;have hTs:s.TypeIs (.ref sl) "slice":=⟨os,hos,hcs⟩
 unfold getItem
 try with_reducible refine wpAny_holding ?_
 first|refine wpAny_bind (wpAny_pure ?_)|skip
 refine wpAny_bind (wpAny_sequenceKey ht.typeIs (by decide) ?_);refine wpAny_bind (wpAny_callSpecial?_slot (name:=Str.ofString "__getitem__") ht.typeIs PyProof.Rows.slot_tuple_getitem
  (wpAny_call_entry PyProof.Rows.slot_tuple_getitem ht.typeIs entry_tuple_getitem ?_ (args_tuple_getitem _ _)))
 show wpAny _ _ (Builtin.Tuple.tupleItemsOf (.ref t)>>=_) _ _ s;refine wpAny_bind (tupleItemsOf_ ht ?_);refine wpAny_bind (wpAny_typeOf hTs ?_);rw[if_pos (by decide)];refine wpAny_bind (ZfE hs pl pu ?_);have hno:¬((((sIx items.size 0 lo:Nat):Int)==0&&(1:Int)==1&&(sIx items.size items.size hi-sIx items.size 0 lo)==items.size)=true):=by
  intro q;rw[Bool.and_eq_true,Bool.and_eq_true] at q
  have q1:((sIx items.size 0 lo:Nat):Int)=0:=eq_of_beq q.1.1;have q2:sIx items.size items.size hi-sIx items.size 0 lo=items.size:=eq_of_beq q.2;exact hw ⟨by omega,by omega⟩
 show wpAny _ _ (if(((sIx items.size 0 lo:Nat):Int)==0&&(1:Int)==1&&(sIx items.size items.size hi-sIx items.size 0 lo)==items.size)=true then _ else _) _ _ s;rw[if_neg hno,ZnX]
 first
  |exact wpAny_bind (m:=Builtin.Tuple.tupleExact _) (wpAny_newObj_type (wpAny_pure ⟨_,rfl,wpAny_pure h⟩) htake)
  |exact wpAny_bind (m:=Builtin.Tuple.tupleExact _) (wpAny_newObj_type (wpAny_bind (wpAny_pure (wpAny_pure ⟨_,rfl,wpAny_pure h⟩))) htake)
  |exact wpAny_bind (wpAny_bind (m:=Builtin.Tuple.tupleExact _) (wpAny_newObj_type (wpAny_pure (wpAny_pure ⟨_,rfl,wpAny_pure h⟩)) htake))
  |exact wpAny_bind (wpAny_bind (m:=Builtin.Tuple.tupleExact _) (wpAny_newObj_type (wpAny_pure ⟨_,rfl,wpAny_pure h⟩) htake))
end
end HT
namespace L2
open PySem PySem.Spec PyProof.Rows
abbrev TO:=St->Hp->(Option Int->Hp->Prop)->Prop
def PO(X:Cx)(e:Option Expr)(t:TO):Prop:=
 ∀(pins:List (Addr×Obj)) (s:Shared) (σ:St) (H:Hp) (Q:Option Int->Hp->Prop),Inv X pins σ H s->t σ H Q->
  wpAny (model X.prog X.w) X.A (evalPart e X.env) (fun u s'=>∃o H',Inv X pins σ H' s'/\IsPart u o/\Q o H') X.xe s
def ZpE:TO:=fun _ H Q=>Q none H
def ZrP(t:TE):TO:=fun σ H Q=>t σ H fun x H1=>∃i,x=.int i/\Q (some i) H1
section
variable {X:Cx} {e:Expr} {te:TE} {lo hi:Option Expr} {tl th:TO} {pos p2:Pos}
theorem ZgI:PO X none ZpE:=by
 intro pins s σ H Q I h;rw[evalPart_none];exact wpAny_pure ⟨none,H,I,.none,h⟩
theorem ZbQ(h:PE X e te):PO X (some e) (ZrP te):=by
 intro pins s σ H Q I hw;rw[evalPart_some];refine thn (h pins s σ H _ I hw) fun u s1 ⟨x,H1,I1,r1,q1⟩=> ?_;obtain⟨i,rfl,q⟩:=q1;obtain⟨t,rfl⟩:=r1;exact⟨some i,H1,I1,.int i t,q⟩
def SlR(X:Cx)(r:V->Option Int->Option Int->Hp->VK->Prop):Prop:=
 ∀(pins:List (Addr×Obj)) (s:Shared) (σ:St) (H:Hp) (x:V) (v vl vu:Value) (lo hi:Option Int) (sl:Addr) (Q:VK),Inv X pins σ H s->ZV x v->s.heap.IsSliceOf sl vl vu .none->IsPart vl lo->IsPart vu hi->r x lo hi H Q->
  ∃T id,typeLookup (.type T) "__getitem__"=pure (some (.builtin id))/\s.TypeIs v T/\wpAny (model X.prog X.w) X.A (getItem v (.ref sl)) (EP X pins σ Q) X.xe s
def tSl(r:V->Option Int->Option Int->Hp->VK->Prop)(te:TE)(tl th:TO):TE:=fun σ H Q=>te σ H fun x H1=>tl σ H1 fun l H2=>th σ H2 fun u H3=>r x l u H3 Q
theorem Zcn{r:V->Option Int->Option Int->Hp->VK->Prop}(hr:SlR X r)(he:PE X e te)(hl:PO X lo tl)(hu:PO X hi th):PE X (.Subscript e (.Slice lo hi none p2) pos) (tSl r te tl th):=by
 intro pins s σ H Q I h;refine Subscript_ (thn (he pins s σ H _ I h) fun v s1 ⟨x,H1,I1,r1,q1⟩=> ?_);refine wpAny_Slice (thn (hl pins s1 σ H1 _ I1 q1) fun vl s2 ⟨l,H2,I2,pl,q2⟩=>thn (hu pins s2 σ H2 _ I2 q2) fun vu s3 ⟨u,H3,I3,pu,q3⟩=> ?_);rw[evalPart_none];refine wpAny_pure ?_;have I4:Inv X pins σ H3 {s3 with heap:=s3.heap.push {cls:=.type "slice",data:=.fields #[vl,vu,.none]}}:=I3.kept (t':=s3.toks) fun b ob q=>Heap.get?_push_of_some _ q
 obtain⟨T,id,hT,ht,hg⟩:=hr pins {s3 with heap:=s3.heap.push {cls:=.type "slice",data:=.fields #[vl,vu,.none]}} σ H3 x v vl vu l u s3.heap.objs.size Q I4 r1 (Heap.IsSliceOf.new ..) pl pu q3;show wpAny (model X.prog X.w) X.A (subscriptTail e (.Slice lo hi none p2) v (.ref s3.heap.objs.size)) (EP X pins σ Q) X.xe {s3 with heap:=s3.heap.push {cls:=.type "slice",data:=.fields #[vl,vu,.none]}};exact tail_any (ops:=[.ref s3.heap.objs.size,v]) ht hT hg (by with_unfolding_all rfl)
def ZaB(xs:List V)(lo hi:Option Int):List V:=(xs.drop (HT.sIx xs.length 0 lo)).take (HT.sIx xs.length xs.length hi-HT.sIx xs.length 0 lo)
theorem Zgf(xs:List V)(lo hi:Option Int):(ZaB xs lo hi).length<=xs.length:=by
 unfold ZaB;rw[List.length_take,List.length_drop];omega
def ZrQ(K:PySem.W.Frag):V->Option Int->Option Int->Hp->VK->Prop:=fun x lo hi H Q=>∃a xs,x=.ref a/\SqT K H a xs/\
 ¬(HT.sIx xs.length 0 lo=0/\HT.sIx xs.length xs.length hi=xs.length)/\∀p,H p=none->Q (.ref p) (upd H p (.tup (ZaB xs lo hi)))
theorem ZnY:SlR X (ZrQ X.K):=by
 intro pins s σ H x v vl vu lo hi sl Q I rx hs pl pu h;obtain⟨a,xs,rfl,hx,hw,q⟩:=h;cases rx;obtain⟨its,r,ht,hz⟩:=I.tuple hx;have hlen:its.toArray.size=xs.length:=by rw[List.size_toArray];exact r.length.symm
 refine⟨"tuple",_,PyProof.Rows.slot_tuple_getitem.lookup,ht.typeIs, ?_⟩;refine HT.ZeW ht hs pl pu (by rw[hlen];exact hw) ?_ (by rw[hlen];exact hz)
 rw[hlen];refine⟨.ref s.heap.objs.size,_,I.laid (t':=s.toks) (o:=.tup (ZaB xs lo hi)) (fun b ob q=>Heap.get?_push_of_some _ q) (Nat.le_refl _) ?_,rfl,q _ (I.hok.fresh (Nat.le_refl _))⟩;exact⟨Nat.le_trans (Zgf xs lo hi) hz,_,(r.drop (HT.sIx xs.length 0 lo)).take (HT.sIx xs.length xs.length hi-HT.sIx xs.length 0 lo),IsTup.new _ _⟩
end
end L2
namespace L2
open PySem PySem.Spec PyProof.Rows
def ixN(n:Nat)(i:Int):Option Nat:=if 0<=i then(if i<n then some i.toNat else none) else if-(n:Int)<=i then some (i+n).toNat else none
def atI{α:Type}(xs:List α)(i:Int):Option α:=(ixN xs.length i).bind fun j=>xs[j]?
theorem ZpF{n:Nat}{i:Int}{j:Nat}(h:ixN n i=some j):seqIndex? i n=some j/\j<n/\-(n:Int)<=i/\i<n:=by
 unfold ixN at h
 by_cases h0:0<=i
 ·rw[if_pos h0] at h
  by_cases h1:i<n
  ·rw[if_pos h1] at h
   have e:i.toNat=j:=Option.some.inj h;exact⟨by rw[seqIndex_of h0 h1,e],by omega,by omega,h1⟩
  ·rw[if_neg h1] at h;cases h
 ·rw[if_neg h0] at h
  by_cases h1: -(n:Int)<=i
  ·rw[if_pos h1] at h
   have e:(i+n).toNat=j:=Option.some.inj h;exact⟨by rw[seqIndex_neg (by omega) h1,e],by omega,h1,by omega⟩
  ·rw[if_neg h1] at h;cases h
theorem ZdZ{α:Type}{xs:List α}{i:Int}{v:α}(h:atI xs i=some v):∃j,seqIndex? i xs.length=some j/\xs[j]? =some v/\j<xs.length/\-(xs.length:Int)<=i/\i<xs.length:=by
 unfold atI at h
 cases e:ixN xs.length i with
 |none=>rw[e] at h;cases h
 |some j=>
  rw[e] at h
  obtain⟨h1,h2,h3,h4⟩:=ZpF e;exact⟨j,h1,h,h2,h3,h4⟩
theorem ZnZ{α:Type}(xs:List α)(v:α):atI (xs++[v]) (-1)=some v:=by
 have hl:(xs++[v]).length=xs.length+1:=by simp
 have e:ixN (xs++[v]).length (-1)=some xs.length:=by
  unfold ixN;rw[hl,if_neg (by decide),if_pos (by omega)]
  congr 1
  omega
 unfold atI;rw[e];show(xs++[v])[xs.length]? =some v;simp
def ZpG(b:Expr):Prop:=∀o i,subscripted b false o i=operate [o,i] (getItem o i)
def IxR(X:Cx)(r:R2):Prop:=
 ∀(value slice:Expr) (pins:List (Addr×Obj)) (s:Shared) (σ:St) (H:Hp) (x y:V) (v u:Value) (Q:VK),Inv X pins σ H s->ZV x v->ZV y u->r x y H Q->
  subscripted slice false v u=operate [v,u] (getItem v u)->wpAny (model X.prog X.w) X.A (subscriptTail value slice v u) (EP X pins σ Q) X.xe s
def MtR(X:Cx)(id:String)(r:V->List V->Hp->VK->Prop):Prop:=
 ∀(pins:List (Addr×Obj)) (s:Shared) (σ:St) (H:Hp) (x:V) (xs:List V) (v:Value) (us:List Value) (Q:VK),Inv X pins σ H s->ZV x v->Yb xs us->r x xs H Q->
  wpAny (model X.prog X.w) X.A (call (.builtin id) (v::us)) (EP X pins σ Q) X.xe s
section
variable {X:Cx} {a b:Expr} {ta tb:TE} {pos:Pos}
theorem Zz{r:R2}(hr:IxR X r)(ha:PE X a ta)(hb:PE X b tb)(hs:ZpG b):PE X (.Subscript a b pos) (tOp r ta tb):=by
 intro pins s σ H Q I h;exact Subscript_ (ZqU ha hb I h fun v u s2 x y H2 I2 rx ry q=>hr a b pins s2 σ H2 x y v u Q I2 rx ry q (hs _ _))
def ZrR(K:PySem.W.Frag):R2:=fun x y H Q=>∃p xs i v,x=.ref p/\y=.int i/\SqL K H p xs/\atI xs i=some v/\Q v H
def ZqY(K:PySem.W.Frag):R2:=fun x y H Q=>∃p xs i v,x=.ref p/\y=.int i/\SqT K H p xs/\atI xs i=some v/\Q v H
def ZsJ:R2:=fun x y H Q=>∃z i c,x=.str z/\y=.int i/\z.length<=sizeLine/\atI z.cps.toList i=some c/\Q (.str ⟨#[c]⟩) H
theorem YC:IxR X (ZrR X.K):=by
 intro value slice pins s σ H x y v u Q I rx ry h hs;obtain⟨p,xs,i,z,rfl,rfl,hq,he,q⟩:=h;cases rx;obtain⟨t,rfl⟩:=ry;obtain⟨its,r,pl,hz⟩:=I.list hq;obtain⟨j,h1,h2,h3,h4,h5⟩:=ZdZ he;obtain⟨w,ew,rw'⟩:=r.get h2;have hl:=r.length;have hn:=Zjf;have fin:EP X pins σ Q w s:=⟨z,H,I,rw',q⟩
 by_cases h0:0<=i
 ·have hj:i.toNat=j:=by
   rw[seqIndex_of h0 h5] at h1
   exact Option.some.inj h1
  exact item_listR pl.isList h0 (by omega) (by rw[hj];simpa using ew) fin hs
 ·have hj:(i+(its.toArray.size:Int)).toNat=j:=by
   rw[seqIndex_neg (by omega) h4] at h1
   rw[List.size_toArray,<-hl];exact Option.some.inj h1
  exact subscriptTail_builtinR (x:=w) pl.isList.typeIs slot_list_getitem.lookup
   (wpAny_getItem_list_neg (Q:=fun r s'=>r=w/\EP X pins σ Q r s') pl.isList (by omega) (by rw[List.size_toArray]<;>omega) (by omega) (by rw[hj];simpa using ew) ⟨rfl,fin⟩) hs
theorem ZJ:IxR X (ZqY X.K):=by
 intro value slice pins s σ H x y v u Q I rx ry h hs;obtain⟨p,xs,i,z,rfl,rfl,hq,he,q⟩:=h;cases rx;obtain⟨t,rfl⟩:=ry;obtain⟨its,r,pl,hz⟩:=I.tuple hq;obtain⟨j,h1,h2,h3,h4,h5⟩:=ZdZ he;obtain⟨w,ew,rw'⟩:=r.get h2;have hl:=r.length;have hn:=Zjf;have fin:EP X pins σ Q w s:=⟨z,H,I,rw',q⟩
 exact subscriptTail_builtinR (x:=w) pl.typeIs slot_tuple_getitem.lookup
  (getItem_tuple (j:=j) (Q:=fun r s'=>r=w/\EP X pins σ Q r s') pl (by omega) (by omega) (by rw[List.size_toArray,<-hl];exact h1) (by simpa using ew) ⟨rfl,fin⟩) hs
theorem Zji:IxR X ZsJ:=by
 intro value slice pins s σ H x y v u Q I rx ry h hs;obtain⟨z,i,c,rfl,rfl,hz,he,q⟩:=h;obtain⟨t,rfl⟩:=rx;obtain⟨t',rfl⟩:=ry;obtain⟨j,h1,h2,h3,h4,h5⟩:=ZdZ he;have hl:z.cps.toList.length=z.length:=by simp[Str.length]
 rw[hl] at h1 h4 h5
 have hn:=Zjf;exact tail_any (typeIs_str s z t) slot_str_getitem.lookup (getItem_str (c:=c) (by
  have e1:decide (i< -(2^63:Int))=false:=decide_eq_false (by omega);have e2:decide (i≥2^63)=false:=decide_eq_false (by omega);rw[e1,e2,Bool.or_false]) (by rw[h1];simpa using h2) ⟨.str ⟨#[c]⟩,H,I.tok _,⟨_,rfl⟩,q⟩) hs
theorem Zjj(lo hi:Option Int)(n:Nat):(sliceBounds lo hi none n).1=((HT.sIx n 0 lo:Nat):Int)/\(sliceBounds lo hi none n).2.1=((HT.sIx n n hi:Nat):Int)/\(sliceBounds lo hi none n).2.2=1:=by
 refine⟨?_, ?_,rfl⟩
 ·cases lo with
  |none=>simp[sliceBounds,HT.sIx]
  |some i=>
   simp only [sliceBounds,HT.sIx,Option.getD_none,show(1:Int)>0 by decide,if_true]
   by_cases h:i<0
   ·simp only [h,if_true]<;>omega
   ·simp only [h,if_false]<;>omega
 ·cases hi with
  |none=>simp[sliceBounds,HT.sIx]
  |some i=>
   simp only [sliceBounds,HT.sIx,Option.getD_none,show(1:Int)>0 by decide,if_true]
   by_cases h:i<0
   ·simp only [h,if_true]<;>omega
   ·simp only [h,if_false]<;>omega
theorem Zib(its:List Value)(lo hi:Option Int):slicePick its.toArray lo hi none=((its.drop (HT.sIx its.length 0 lo)).take (HT.sIx its.length its.length hi-HT.sIx its.length 0 lo)).toArray:=by
 obtain⟨h1,h2,h3⟩:=Zjj lo hi its.toArray.size;unfold slicePick;rw[h1,h2,h3];simp only [sliceRange_one,pick_run,List.size_toArray]<;>rfl
def ZsK(K:PySem.W.Frag):V->Option Int->Option Int->Hp->VK->Prop:=fun x lo hi H Q=>∃a xs,x=.ref a/\SqL K H a xs/\∀p,H p=none->Q (.ref p) (upd H p (.lst (ZaB xs lo hi)))
theorem ZgJ:SlR X (ZsK X.K):=by
 intro pins s σ H x v vl vu lo hi sl Q I rx hs pl pu h;obtain⟨a,xs,rfl,hx,q⟩:=h;cases rx;obtain⟨its,r,ht,hz⟩:=I.list hx;have hlen:=r.length;refine⟨"list",_,slot_list_getitem.lookup,ht.isList.typeIs, ?_⟩;refine wpAny_getItem_list_slice ht.isList hs pl pu .none (by simp) ?_ (by rw[List.size_toArray]<;>omega)
 rw[Zib,<-hlen];refine⟨.ref s.heap.objs.size,_,I.laid (t':=s.toks) (o:=.lst (ZaB xs lo hi)) (fun b ob q=>Heap.get?_push_of_some _ q) (Nat.le_refl _) ?_,rfl,q _ (I.hok.fresh (Nat.le_refl _))⟩;exact⟨Nat.le_trans (Zgf xs lo hi) hz,_,0,(r.drop (HT.sIx xs.length 0 lo)).take (HT.sIx xs.length xs.length hi-HT.sIx xs.length 0 lo),Heap.get?_push_size _ rfl⟩
def Xk:V->Bool
 | .non=>true
 | .bl _=>true
 | .int _=>true
 | .str _=>true
 |_=>false
def eqV:V->V->Bool
 | .non,.non=>true
 | .bl a,.bl b=>a==b
 | .bl a,.int b=>(if a then 1 else 0)==b
 | .int a,.bl b=>a==(if b then 1 else 0)
 | .int a,.int b=>a==b
 | .str a,.str b=>a==b
 |_,_=>false
theorem Zh5{A:Around}{s:Shared}{y x:V}{u v:Value}(ry:ZV y u)(rx:ZV x v)(fy:Xk y=true)(fx:Xk x=true):SeqAt.EqAt A s u v (eqV y x):=by
 cases y with
 |non=>
  cases ry;cases x with
  |non=>cases rx;exact SeqAt.EqAt.same _
  |bl b=>cases rx;exact SeqAt.EqAt.none_bool b
  |int b=>obtain⟨t,rfl⟩:=rx;exact SeqAt.EqAt.none_int b t
  |str b=>obtain⟨t,rfl⟩:=rx;exact SeqAt.EqAt.none_str b t
  |_=>exact absurd (show false=true from fx) Bool.false_ne_true
 |bl a=>
  cases ry;cases x with
  |non=>cases rx;exact SeqAt.EqAt.bool_none a
  |bl b=>cases rx;exact SeqAt.EqAt.bool_bool a b
  |int b=>obtain⟨t,rfl⟩:=rx;exact SeqAt.EqAt.bool_int a b t
  |str b=>obtain⟨t,rfl⟩:=rx;exact SeqAt.EqAt.bool_str a b t
  |_=>exact absurd (show false=true from fx) Bool.false_ne_true
 |int a=>
  obtain⟨t',rfl⟩:=ry;cases x with
  |non=>cases rx;exact SeqAt.EqAt.int_none a t'
  |bl b=>cases rx;exact SeqAt.EqAt.int_bool a t' b
  |int b=>obtain⟨t,rfl⟩:=rx;exact SeqAt.EqAt.int_int a t' b t
  |str b=>obtain⟨t,rfl⟩:=rx;exact SeqAt.EqAt.int_str a t' b t
  |_=>exact absurd (show false=true from fx) Bool.false_ne_true
 |str a=>
  obtain⟨t',rfl⟩:=ry;cases x with
  |non=>cases rx;exact SeqAt.EqAt.str_none a t'
  |bl b=>cases rx;exact SeqAt.EqAt.str_bool a t' b
  |int b=>obtain⟨t,rfl⟩:=rx;exact SeqAt.EqAt.str_int a t' b t
  |str b=>obtain⟨t,rfl⟩:=rx;exact SeqAt.EqAt.str_str a t' b t
  |_=>exact absurd (show false=true from fx) Bool.false_ne_true
 |_=>exact absurd (show false=true from fy) Bool.false_ne_true
def eqU(x:V)(u:Value):Bool:=match u with
 | .none=>eqV .non x
 | .bool b=>eqV (.bl b) x
 | .int i _=>eqV (.int i) x
 | .str z _=>eqV (.str z) x
 |_=>false
theorem Zo0{x y:V}{u:Value}(r:ZV y u)(f:Xk y=true):eqU x u=eqV y x:=by
 cases y with
 |non=>cases r;rfl
 |bl b=>cases r;rfl
 |int i=>obtain⟨t,rfl⟩:=r;rfl
 |str z=>obtain⟨t,rfl⟩:=r;rfl
 |_=>exact absurd (show false=true from f) Bool.false_ne_true
theorem ZeX{x:V}:∀{xs:List V} {us:List Value},Yb xs us->xs.all Xk=true->us.any (eqU x)=xs.any fun y=>eqV y x
 |_,_,.nil,_=>rfl
 |y::xs,u::us,.cons r t,f=>by
  rw[List.all_cons,Bool.and_eq_true] at f
  rw[List.any_cons,List.any_cons,Zo0 r f.1,ZeX t f.2]
theorem Zdj{A:Around}{s:Shared}{x:V}{v:Value}(rx:ZV x v)(fx:Xk x=true):∀{xs:List V} {us:List Value},Yb xs us->xs.all Xk=true->∀u∈us,SeqAt.EqAt A s u v (eqU x u)
 |_,_,.nil,_=>fun u hu=>by cases hu
 |y::xs,u::us,.cons r t,f=>fun u' hu=>by
  rw[List.all_cons,Bool.and_eq_true] at f
  rcases List.mem_cons.mp hu with rfl|hu
  ·rw[Zo0 r f.1];exact Zh5 r rx f.1 fx
  ·exact Zdj rx fx t f.2 u' hu
def inV(x:V)(xs:List V):Bool:=xs.any fun y=>eqV y x
def rIn(K:PySem.W.Frag)(neg:Bool):R2:=fun x y H Q=>∃p xs,y=.ref p/\(SqL K H p xs\/SqT K H p xs)/\Xk x=true/\xs.all Xk=true/\Q (.bl (if neg then !inV x xs else inV x xs)) H
theorem Ze0:OpR X (compareOp .In) (rIn X.K false):=by
 intro pins s σ H x y v u Q I rx ry h;obtain⟨p,xs,rfl,hq,fx,fs,q⟩:=h;cases ry;rcases hq with hq|hq
 ·obtain⟨its,r,pl,hz⟩:=I.list hq;refine SeqAt.in_listAt (eqU x) pl.isList (fun w hw=>Zdj rx fx r fs w (by simpa using hw)) ⟨.bl _,H,I,rfl, ?_⟩;rw[show its.toArray.any (eqU x)=its.any (eqU x) by simp,ZeX r fs];exact q
 ·obtain⟨its,r,pl,hz⟩:=I.tuple hq;refine SeqAt.in_tupleAt (eqU x) pl (fun w hw=>Zdj rx fx r fs w (by simpa using hw)) ⟨.bl _,H,I,rfl, ?_⟩;rw[show its.toArray.any (eqU x)=its.any (eqU x) by simp,ZeX r fs];exact q
theorem ZeY:OpR X (compareOp .NotIn) (rIn X.K true):=by
 intro pins s σ H x y v u Q I rx ry h;obtain⟨p,xs,rfl,hq,fx,fs,q⟩:=h;cases ry;rcases hq with hq|hq
 ·obtain⟨its,r,pl,hz⟩:=I.list hq;refine SeqAt.notIn_listAt (eqU x) pl.isList (fun w hw=>Zdj rx fx r fs w (by simpa using hw)) ⟨.bl _,H,I,rfl, ?_⟩;rw[show its.toArray.any (eqU x)=its.any (eqU x) by simp,ZeX r fs];exact q
 ·obtain⟨its,r,pl,hz⟩:=I.tuple hq;refine SeqAt.notIn_tupleAt (eqU x) pl (fun w hw=>Zdj rx fx r fs w (by simpa using hw)) ⟨.bl _,H,I,rfl, ?_⟩;rw[show its.toArray.any (eqU x)=its.any (eqU x) by simp,ZeX r fs];exact q
theorem ZeZ:Zbn X (.type "list") (fun xs H Q=>∃p ys,xs=[.ref p]/\(SqL X.K H p ys\/SqT X.K H p ys)/\∀l,H l=none->Q (.ref l) (upd H l (.lst ys))):=by
 intro pins s σ H xs us Q I r h;obtain⟨p,ys,rfl,hq,q⟩:=h;obtain⟨u,rfl,rx⟩:=Zcm r;cases rx;have fin:∀(its:List Value),Yb ys its->ys.length<=sizeLine->∀(h':Heap) (c':Nat),(∀b o',s.heap.get? b=some o'->h'.get? b=some o')->
   h'.get? s.heap.objs.size=some {cls:=.type "list",dict:=none,data:=.seq its.toArray c',slots:= #[]}->EP X pins σ Q (.ref s.heap.objs.size) {s with heap:=h'}:=fun its r' hz h' c' kp e=>
  ⟨.ref s.heap.objs.size,_,I.laid (t':=s.toks) kp (Nat.le_refl _) (show XM X.prog X.w _ h' _ (.lst ys) from⟨hz,its,c',r',e⟩),rfl,q _ (I.hok.fresh (Nat.le_refl _))⟩
 rcases hq with hq|hq
 ·obtain⟨its,r',pl,hz⟩:=I.list hq;have hlen:=r'.length;obtain⟨o,ho,hc,n,hd⟩:=pl.isList;exact call_list_seq p (.inl rfl) ho hc hd (fun h' c' kp e=>fin its r' hz h' c' kp e) (by simp only [List.size_toArray]<;>omega)
 ·obtain⟨its,r',pl,hz⟩:=I.tuple hq;have hlen:=r'.length;obtain⟨o,ho,hc,n,hd⟩:=pl;exact call_list_seq p (.inr rfl) ho hc hd (fun h' c' kp e=>fin its r' hz h' c' kp e) (by simp only [List.size_toArray]<;>omega)
theorem Zic:Zbn X (.type "tuple") (fun xs H Q=>∃p ys,xs=[.ref p]/\((SqL X.K H p ys/\∀l,H l=none->Q (.ref l) (upd H l (.tup ys)))\/(SqT X.K H p ys/\Q (.ref p) H))):=by
 intro pins s σ H xs us Q I r h;obtain⟨p,ys,rfl,h⟩:=h;obtain⟨u,rfl,rx⟩:=Zcm r;cases rx;rcases h with ⟨hq,q⟩|⟨hq,q⟩
 ·obtain⟨its,r',pl,hz⟩:=I.list hq;have hlen:=r'.length;refine call_tuple_list pl.isList (fun h' kp=> ?_) (by simp only [List.size_toArray]<;>omega)
  have I1:Inv X pins σ H {s with heap:=h'}:=I.kept (t':=s.toks) kp;have I2:Inv X pins σ (upd H h'.objs.size (.tup ys)) {s with heap:=h'.push {cls:=.type "tuple",data:=.seq its.toArray}}:=
   I1.laid (t':=s.toks) (fun b o e=>Heap.get?_push_of_some _ e) (Nat.le_refl _) (show XM X.prog X.w _ _ _ (.tup ys) from⟨hz,its,r',IsTup.new _ _⟩)
  exact⟨.ref h'.objs.size,_,I2,rfl,q _ (I1.hok.fresh (Nat.le_refl _))⟩
 ·obtain⟨its,r',pl,hz⟩:=I.tuple hq;exact call_tuple_same pl ⟨.ref p,H,I,rfl,q⟩
def tyV(K:PySem.W.Frag)(T:String)(x:V)(H:Hp):Prop:=match x with
 | .str _=>T="str"
 | .int _=>T="int"
 | .ref p=>(T="list"/\∃xs,SqL K H p xs)\/(T="tuple"/\∃o,K.lookup p=some o/\o.cls=.type "tuple"/\o.dict=none)\/
   (T="dict"/\((∃kvs,H p=some (.dK kvs))\/∃kvs,H p=some (.dT kvs)))\/(T="set"/\∃S n,H p=some (.set S n))
 |_=>False
theorem Zlr{pins:List (Addr×Obj)}{σ:St}{H:Hp}{s:Shared}{T:String}{x:V}{v:Value}(I:Inv X pins σ H s)(r:ZV x v)(ty:tyV X.K T x H):
  s.TypeIs v T/\∀a,v=.ref a->∃ob,s.heap.get? a=some ob/\ob.dict=none:=by
 cases x with
 |str z=>
  obtain⟨t,rfl⟩:=r;cases(show T="str" from ty);exact⟨typeIs_str s z t,fun _ e=>nomatch e⟩
 |int i=>
  obtain⟨t,rfl⟩:=r;cases(show T="int" from ty);exact⟨typeIs_int s i t,fun _ e=>nomatch e⟩
 |ref p=>
  cases r;rcases ty with ⟨rfl,xs,hq⟩|⟨rfl,o,hk,hc,hd⟩|⟨rfl,hk⟩|⟨rfl,S,n,hk⟩
  ·obtain⟨its,_,pl,_⟩:=I.list hq;refine⟨pl.isList.typeIs,fun a e=> ?_⟩;cases e;obtain⟨o,n,e,c,hd,_⟩:=pl;exact⟨o,e,hd⟩
  ·refine⟨⟨o,I.kIn p o hk,hc⟩,fun a e=> ?_⟩;cases e;exact⟨o,I.kIn _ o hk,hd⟩
  ·have z:∃o,s.heap.get? p=some o/\o.ExactDict:=by
    rcases hk with ⟨kvs,hk⟩|⟨kvs,hk⟩
    ·obtain⟨_,_,_,_,o,_,_,e,ex,_⟩:=I.hok p _ hk;exact⟨o,e,ex⟩
    ·obtain⟨_,_,_,_,o,_,_,e,ex,_⟩:=I.hok p _ hk;exact⟨o,e,ex⟩
   obtain⟨o,e,ex⟩:=z;refine⟨⟨o,e,ex.1⟩,fun a e2=> ?_⟩;cases e2;exact⟨o,e,ex.2.1⟩
  ·obtain⟨o,_,_,_,e,ex,_⟩:=I.hok p _ hk;refine⟨⟨o,e,ex.1⟩,fun a e2=> ?_⟩;cases e2;exact⟨o,e,ex.2.1⟩
 |_=>exact False.elim ty
def ZsL(K:PySem.W.Frag)(T:String)(r:V->List V->Hp->VK->Prop)(to:TE):TE:=fun σ H Q=>to σ H fun x H1=>tyV K T x H1/\r x [] H1 Q
def tBM(K:PySem.W.Frag)(T:String)(r:V->List V->Hp->VK->Prop)(to:TE)(t:TA):TE:=fun σ H Q=>to σ H fun x H1=>tyV K T x H1/\t σ H1 fun xs H2=>r x xs H2 Q
variable {o e:Expr} {es:List Expr} {to:TE} {t:TA} {name:Str} {apos cpos:Pos} {T id:String} {r:V->List V->Hp->VK->Prop}
theorem Zjk(pa:PlainAttrs T)(slot:Slot T name id)(hty:typeOf (.builtin id)=pure (.type "method_descriptor"))(hm:MtR X id r)(ho:PE X o to)
  (hbase:attributeBase o name X.env (eval o X.env)=eval o X.env:=by rfl)(hline:(apos.endLine==cpos.line)=true:=by rfl):PE X (.Call (.Attribute o name apos) [] [] cpos) (ZsL X.K T r to):=by
 intro pins s σ H Q I h;refine wpAny_Call_method0_late hbase hline (thn (ho pins s σ H _ I h) fun v s1 ⟨x,H1,I1,r1,ty,q1⟩=> ?_);obtain⟨h1,h2⟩:=Zlr I1 r1 ty;exact⟨T,id,pa,slot,hty,h1,h2,Calls.callWith_builtin rfl (PySem.evalArgs_none (hm pins s1 σ H1 x [] v [] Q I1 r1 .nil q1))⟩
theorem ZaC(pa:PlainAttrs T)(slot:Slot T name id)(hty:typeOf (.builtin id)=pure (.type "method_descriptor"))(hm:MtR X id r)(ho:PE X o to)(ha:PA X (e::es) t)
  (hbase:attributeBase o name X.env (eval o X.env)=eval o X.env:=by rfl)
  (hfew:((backTo cpos (starEach (e::es) X.env)).all (fun x=> !x.1)&&(backToKw cpos (keywordEach [] X.env)).all (fun x=>x.1.isSome)
   &&decide ((e::es).length+([]:List Keyword).length+(if([]:List Keyword).isEmpty then 0 else 1)<30))=true:=by rfl)
  (hline:(apos.endLine==cpos.line)=true:=by rfl)(hs:starEach (e::es) X.env=(false,eval e X.env)::starEach es X.env:=by rfl)(hplain:(backTo cpos (starEach es X.env)).any (·.1)=false:=by rfl):
  PE X (.Call (.Attribute o name apos) (e::es) [] cpos) (tBM X.K T r to t):=by
 intro pins s σ H Q I h;refine wpAny_Call_method_late hbase hfew hline rfl (thn (ho pins s σ H _ I h) fun v s1 ⟨x,H1,I1,r1,ty,q1⟩=> ?_);obtain⟨h1,h2⟩:=Zlr I1 r1 ty;refine⟨T,id,pa,slot,hty,h1,h2, ?_⟩;have hA:=ha cpos pins s1 σ H1 _ I1 q1;rw[hs] at hA⊢
 refine Calls.callWith_builtin (by show(false||(backTo cpos (starEach es X.env)).any (·.1))=false;rw[hplain]<;>rfl) (Calls.evalArgs_plain ?_)
 exact thn hA fun us s2 ⟨vs,H2,I2,r2,q2⟩=>hm pins s2 σ H2 x vs v us Q I2 r1 r2 q2
end
end L2
namespace L2
open PySem PySem.Spec PyProof.Rows
def MtM(X:Cx)(id:String)(r:V->List V->Hp->VK->Prop):Prop:=
 ∀(pins:List (Addr×Obj)) (s:Shared) (σ:St) (H:Hp) (x:V) (xs:List V) (v:Value) (us:List Value) (Q:VK),Inv X pins σ H s->ZV x v->Yb xs us->r x xs H Q->
  wpAny (model X.prog X.w) X.A (call (.builtin id) (v::us)) (EP X pins σ Q) X.xe s
theorem Yb.one:∀{x:V} {us:List Value},Yb [x] us->∃u,us=[u]/\ZV x u
 |_,_,.cons r .nil=>⟨_,rfl,r⟩
theorem Yb.zero:∀{us:List Value},Yb [] us->us=[]
 |_,.nil=>rfl
theorem Yb.dropLast{xs:List V}{us:List Value}(h:Yb xs us):Yb xs.dropLast us.dropLast:=by
 induction h with
 |nil=>exact .nil
 |cons r t ih=>
  cases t with
  |nil=>exact .nil
  |cons q t'=>exact .cons r ih
theorem Yb.reverse{xs:List V}{us:List Value}(h:Yb xs us):Yb xs.reverse us.reverse:=by
 induction h with
 |nil=>exact .nil
 |cons r t ih=>rw[List.reverse_cons,List.reverse_cons];exact Yb.append ih (.cons r .nil)
theorem Zls{α:Type}(l:List α):l.eraseIdx (l.length-1)=l.dropLast:=by
 induction l with
 |nil=>rfl
 |cons a r ih=>
  cases r with
  |nil=>rfl
  |cons b r=>
   have e:(a::b::r).length-1=((b::r).length-1)+1:=by
    have h1:(a::b::r).length=r.length+2:=rfl;have h2:(b::r).length=r.length+1:=rfl;omega
   rw[e,List.eraseIdx_cons_succ,ih]
   all_goals rfl
section
variable {X:Cx} {pins:List (Addr×Obj)} {σ:St} {H:Hp} {s:Shared} {l b:Addr} {xs ys zs:List V}
theorem Inv.lset{its its':List Value}{n:Nat}{f:Array Value->Array Value}{t':Nat}(I:Inv X pins σ H s)(hH:H l=some (.lst xs))
  (e:s.heap.get? l=some {cls:=.type "list",data:=.seq its.toArray n})(hf:f its.toArray=its'.toArray)(hv:Yb ys its')(hz:ys.length<=sizeLine):
  Inv X pins σ (upd H l (.lst ys)) {s with heap:=s.heap.update l (Obj.mapSeq f),toks:=t'}:=by
 have q:=PySem.IsL.update e f;rw[hf] at q
 refine I.write (x:=l) (e:=l) (by rw[hH];exact trivial) (.inl rfl) (fun b' u hb hu=>(Heap.get?_update_other s.heap (Obj.mapSeq f) (Ne.symm hb)).trans hu) ⟨_,q⟩ ?_
 exact⟨hz,its',_,hv,q⟩
theorem Inv.lnew{its:List Value}{t':Nat}(I:Inv X pins σ H s)(hv:Yb ys its)(hz:ys.length<=sizeLine):
  Inv X pins σ (upd H s.heap.objs.size (.lst ys)) {s with heap:=s.heap.push {cls:=.type "list",data:=.seq its.toArray},toks:=t'}:=
 I.laid (fun _ _ q=>Heap.get?_push_of_some _ q) (Nat.le_refl _) ⟨hz,its,0,hv,Heap.get?_push_size _ rfl⟩
theorem Inv.fresh(I:Inv X pins σ H s):H s.heap.objs.size=none:=I.hok.fresh (Nat.le_refl _)
theorem Inv.lstM(I:Inv X pins σ H s)(hH:H l=some (.lst xs)):xs.length<=sizeLine/\∃(its:List Value) (n:Nat),Yb xs its/\xs.length=its.length/\s.heap.get? l=some {cls:=.type "list",data:=.seq its.toArray n}:=by
 obtain⟨z,its,n,r,e⟩:=I.hok l _ hH;exact⟨z,its,n,r,r.length,e⟩
end
section
variable {X:Cx}
def ZpH:V->List V->Hp->VK->Prop:=fun x vs H Q=>∃l xs y,x=.ref l/\vs=[y]/\H l=some (.lst xs)/\xs.length<sizeLine/\Q .non (upd H l (.lst (xs++[y])))
theorem Yz:MtM X "list.append" ZpH:=by
 intro pins s σ H x vs v us Q I rx rv h;obtain⟨l,xs,y,rfl,rfl,hH,hz,q⟩:=h;cases rx;obtain⟨u,rfl,ru⟩:=rv.one;obtain⟨z,its,n,r,hl,e⟩:=I.lstM hH;refine call_meets F.slot_list_append ⟨_,e,rfl⟩ F.entry_list_append (F.args_list_append_2 _ _) (PySem.list_append l its.toArray n u (by rw[List.size_toArray];omega)) ⟨e, ?_⟩
 refine⟨.non,_,I.lset (its':=its++[u]) hH e (by simp) (r.append (.cons ru .nil)) ?_,rfl,q⟩;rw[List.length_append,List.length_singleton];omega
def ZrS:V->List V->Hp->VK->Prop:=fun x vs H Q=>∃l xs y,x=.ref l/\vs=[]/\H l=some (.lst xs)/\xs[xs.length-1]? =some y/\Q y (upd H l (.lst xs.dropLast))
theorem Zjl:MtM X "list.pop" ZrS:=by
 intro pins s σ H x vs v us Q I rx rv h;obtain⟨l,xs,y,rfl,rfl,hH,hy,q⟩:=h;cases rx;have hus:=rv.zero;subst hus;obtain⟨z,its,n,r,hl,e⟩:=I.lstM hH;obtain⟨u,hu,ru⟩:=r.get hy;have hy':its.toArray[its.toArray.size-1]? =some u:=by
  show its.toArray[its.length-1]? =some u;rw[<-Array.getElem?_toList,<-hl];exact hu
 refine call_meets F.slot_list_pop ⟨_,e,rfl⟩ F.entry_list_pop (F.args_list_pop_1 _) (MeetsSeq.list_pop_last l its.toArray n u hy' (by rw[List.size_toArray];omega)) ⟨e, ?_⟩
 refine⟨y,_,I.lset (its':=its.dropLast) hH e ?_ r.dropLast ?_,ru,q⟩
 ·show its.toArray.eraseIdxIfInBounds (its.toArray.size-1)=its.dropLast.toArray;rw[List.size_toArray,List.eraseIdxIfInBounds_toArray,Zls]
 ·rw[List.length_dropLast];omega
end
section
variable {prog:Program} {w:World} {A:Around} {E:Value->Shared->Prop} {s:Shared}
end
section
variable {X:Cx}
end
end L2
namespace L2
open PySem PySem.Spec PyProof.Rows
section
variable {κ:Type} [DecidableEq κ]
def YB(kvs:List (κ×V))(k:κ):Option V:=(kvs.find? fun kv=>decide (kv.1=k)).map (·.2)
def Jo(kvs:List (κ×V))(k:κ)(v:V):List (κ×V):=
 if(kvs.any fun kv=>decide (kv.1=k))=true then kvs.map (fun kv=>if kv.1=k then(kv.1,v) else kv) else kvs++[(k,v)]
theorem Yv{p:κ×V}{r:List (κ×V)}{k:κ}(e:p.1=k):YB (p::r) k=some p.2:=by simp[YB,List.find?_cons,e]
theorem Ys{p:κ×V}{r:List (κ×V)}{k:κ}(e:¬p.1=k):YB (p::r) k=YB r k:=by simp[YB,List.find?_cons,e]
theorem Za5(k:κ):∀kvs:List (κ×V),(kvs.any fun kv=>decide (kv.1=k))=(YB kvs k).isSome
 |[]=>rfl
 |p::r=>by
  rw[List.any_cons]
  by_cases e:p.1=k
  ·simp only [Yv e,decide_eq_true e,Bool.true_or,Option.isSome_some]
  ·rw[Ys e,decide_eq_false e,Bool.false_or];exact Za5 k r
theorem Zh6(k j:κ)(y:V):∀kvs:List (κ×V),YB (kvs.map fun kv=>if kv.1=k then(kv.1,y) else kv) j=(YB kvs j).map fun x=>if j=k then y else x
 |[]=>rfl
 |p::r=>by
  have ih:=Zh6 k j y r;rw[List.map_cons]
  by_cases h:p.1=k
  ·rw[if_pos h]
   by_cases e:p.1=j
   ·rw[Yv (p:=(p.1,y)) e,Yv e,Option.map_some,if_pos (e.symm.trans h)]
   ·rw[Ys (p:=(p.1,y)) e,Ys e,ih]
  ·rw[if_neg h]
   by_cases e:p.1=j
   ·rw[Yv (p:=p) e,Yv e,Option.map_some,if_neg (fun z=>h (e.trans z))]
   ·rw[Ys (p:=p) e,Ys e,ih]
theorem ZiH(k j:κ)(y:V):∀kvs:List (κ×V),YB kvs k=none->YB (kvs++[(k,y)]) j=if j=k then some y else YB kvs j
 |[],_=>by
  by_cases e:k=j
  ·rw[if_pos e.symm];exact Yv (p:=(k,y)) e
  ·rw[if_neg (fun z=>e z.symm)];exact Ys (p:=(k,y)) e
 |p::r,hn=>by
  rw[List.cons_append];have hk:¬p.1=k:=fun z=>by rw[Yv z] at hn;cases hn
  rw[Ys hk] at hn
  have ih:=ZiH k j y r hn
  by_cases e:p.1=j
  ·rw[Yv e,Yv e,if_neg (fun z=>hk (e.trans z))]
  ·rw[Ys e,Ys e,ih]
theorem Zf0(kvs:List (κ×V))(k j:κ)(y:V):YB (Jo kvs k y) j=if j=k then some y else YB kvs j:=by
 unfold Jo
 by_cases a:(kvs.any fun kv=>decide (kv.1=k))=true
 ·rw[if_pos a,Zh6];rw[Za5] at a
  by_cases e:j=k
  ·obtain⟨x,hx⟩:=Option.isSome_iff_exists.mp a;rw[if_pos e,e,hx,Option.map_some,if_pos rfl]
  ·rw[if_neg e];cases YB kvs j with
   |none=>rfl
   |some x=>rw[Option.map_some,if_neg e]
 ·rw[if_neg a];refine ZiH k j y kvs ?_;rw[Za5] at a
  cases q:YB kvs k with
  |none=>rfl
  |some x=>rw[q] at a;exact(a rfl).elim
theorem ZaD(kvs:List (κ×V))(k:κ)(v:V):(Jo kvs k v).length<=kvs.length+1:=by
 unfold Jo
 split
 ·rw[List.length_map];omega
 ·rw[List.length_append,List.length_cons,List.length_nil];omega
theorem ZcG.isSome_eq{o:Option V}{u:Option Value}(r:ZcG o u):o.isSome=u.isSome:=by
 cases o with
 |none=>cases u with
  |none=>rfl
  |some _=>exact(show False from r).elim
 |some _=>cases u with
  |none=>exact(show False from r).elim
  |some _=>rfl
theorem ZcG.getD{o:Option V}{u:Option Value}{d:V}{d':Value}(r:ZcG o u)(rd:ZV d d'):ZV (o.getD d) (u.getD d'):=by
 cases o with
 |none=>cases u with
  |none=>exact rd
  |some _=>exact(show False from r).elim
 |some _=>cases u with
  |none=>exact(show False from r).elim
  |some _=>exact r
theorem KV.val{kvs:List (κ×V)}{vs:List (κ×Value)}(r:KV kvs vs)(k:κ):ZcG (YB kvs k) (valueAt vs k):=by
 unfold KV at r
 induction r with
 |nil=>exact True.intro
 | @cons p q ps qs h t ih=>
  obtain⟨h1,h2⟩:=h
  by_cases e:p.1=k
  ·have e':q.1=k:=h1.symm.trans e;have b:valueAt (q::qs) k=some q.2:=by simp[valueAt,List.find?_cons,e']
   rw[Yv e,b];exact h2
  ·have e':¬q.1=k:=fun z=>e (h1.trans z);have b:valueAt (q::qs) k=valueAt qs k:=by simp[valueAt,List.find?_cons,e']
   rw[Ys e,b];exact ih
theorem KV.any{kvs:List (κ×V)}{vs:List (κ×Value)}(r:KV kvs vs)(k:κ):(kvs.any fun kv=>decide (kv.1=k))=vs.any fun kv=>decide (kv.1=k):=by
 unfold KV at r
 induction r with
 |nil=>rfl
 |cons h t ih=>rw[List.any_cons,List.any_cons,ih,h.1]
theorem KV.repl{kvs:List (κ×V)}{vs:List (κ×Value)}(r:KV kvs vs)(k:κ){y:V}{u:Value}(ry:ZV y u):
  KV (kvs.map fun kv=>if kv.1=k then(kv.1,y) else kv) (vs.map fun kv=>if kv.1=k then(kv.1,u) else kv):=by
 unfold KV at r⊢
 induction r with
 |nil=>exact .nil
 | @cons p q ps qs h t ih=>
  rw[List.map_cons,List.map_cons];refine .cons ?_ ih;obtain⟨h1,h2⟩:=h
  by_cases e:p.1=k
  ·rw[if_pos e,if_pos (h1.symm.trans e)];exact⟨h1,ry⟩
  ·rw[if_neg e,if_neg (fun z=>e (h1.trans z))];exact⟨h1,h2⟩
theorem KV.put{kvs:List (κ×V)}{vs:List (κ×Value)}(r:KV kvs vs)(k:κ){y:V}{u:Value}(ry:ZV y u):KV (Jo kvs k y) (stored vs k u):=by
 unfold Jo stored;rw[r.any k]
 by_cases e:(vs.any fun kv=>decide (kv.1=k))=true
 ·rw[if_pos e,if_pos e];exact r.repl k ry
 ·rw[if_neg e,if_neg e];exact Paired.snoc r ⟨rfl,ry⟩
theorem KV.keys{kvs:List (κ×V)}{vs:List (κ×Value)}(r:KV kvs vs):kvs.map (·.1)=vs.map (·.1):=by
 unfold KV at r
 induction r with
 |nil=>rfl
 |cons h t ih=>rw[List.map_cons,List.map_cons,ih,h.1]
theorem KV.length{kvs:List (κ×V)}{vs:List (κ×Value)}(r:KV kvs vs):kvs.length=vs.length:=Paired.length r
end
theorem Zh7{P:Program}{w:World}{k:Key}{u:Value}(r:ZV (kV k) u):(Xe P w).is k u=true:=by
 cases k with
 |inl i=>obtain⟨t,e⟩:=(show∃t,u=Value.int i t from r);subst e;exact Zkh P w i t
 |inr x=>obtain⟨t,e⟩:=(show∃t,u=Value.str x t from r);subst e;exact Zki P w x t
theorem ZiI{P:Program}{w:World}:∀{ks:List Key} {us:List Value},Yb (ks.map kV) us->ItemsAre (Xe P w) ks us
 |[],_,r=>by rw[List.map_nil] at r;cases r;exact .nil
 |k::ks,_,r=>by
  rw[List.map_cons] at r
  cases r with
  |cons h t=>exact .cons (Zh7 h) (ZiI t)
abbrev KT(H:Hp):List (List Key×V)->List (List Key×Addr×Value)->Prop:=Paired fun p q=>p.1=q.1/\H q.2.1=some (.tup (p.1.map kV))/\ZV p.2 q.2.2
theorem KT.val{H:Hp}{kvs:List (List Key×V)}{xs:List (List Key×Addr×Value)}(r:KT H kvs xs)(k:List Key):ZcG (YB kvs k) ((atKey xs k).map (·.2)):=by
 induction r with
 |nil=>exact True.intro
 | @cons p q ps qs h t ih=>
  obtain⟨h1,_,h2⟩:=h
  by_cases e:p.1=k
  ·have e':q.1=k:=h1.symm.trans e;have b:atKey (q::qs) k=some q.2:=by simp[atKey,List.find?_cons,e']
   rw[Yv e,b];exact h2
  ·have e':¬q.1=k:=fun z=>e (h1.trans z);have b:atKey (q::qs) k=atKey qs k:=by simp[atKey,List.find?_cons,e']
   rw[Ys e,b];exact ih
theorem KT.repl{H:Hp}{kvs:List (List Key×V)}{xs:List (List Key×Addr×Value)}(r:KT H kvs xs)(k:List Key){y:V}{u:Value}(ry:ZV y u):
  KT H (kvs.map fun kv=>if kv.1=k then(kv.1,y) else kv) (xs.map (putAt k u)):=by
 induction r with
 |nil=>exact .nil
 | @cons p q ps qs h t ih=>
  rw[List.map_cons,List.map_cons];refine .cons ?_ ih;obtain⟨h1,h2,h3⟩:=h;unfold putAt
  by_cases e:p.1=k
  ·rw[if_pos e,if_pos (h1.symm.trans e)];exact⟨h1,h2,ry⟩
  ·rw[if_neg e,if_neg (fun z=>e (h1.trans z))];exact⟨h1,h2,h3⟩
theorem KT.put{H:Hp}{kvs:List (List Key×V)}{xs:List (List Key×Addr×Value)}(r:KT H kvs xs)(k:List Key){b:Addr}{y:V}{u:Value}(hb:H b=some (.tup (k.map kV)))(ry:ZV y u):
  KT H (Jo kvs k y) (storedH xs k b u):=by
 have e:(kvs.any fun kv=>decide (kv.1=k))=(atKey xs k).isSome:=by
  rw[Za5,(r.val k).isSome_eq,Option.isSome_map]
 unfold Jo storedH;rw[e]
 by_cases q:(atKey xs k).isSome=true
 ·rw[if_pos q,if_pos q];exact r.repl k ry
 ·rw[if_neg q,if_neg q];exact Paired.snoc r ⟨rfl,hb,ry⟩
theorem KT.keeps{H H':Hp}{kvs:List (List Key×V)}{xs:List (List Key×Addr×Value)}(r:KT H kvs xs)(ht:∀b ys,H b=some (.tup ys)->H' b=some (.tup ys)):KT H' kvs xs:=
 Paired.mapP r fun _ _ z=>⟨z.1,ht _ _ z.2.1,z.2.2⟩
section
variable {P:Program} {w:World} {H:Hp} {h:Heap} {a:Addr}
theorem Zqz{u:HO}(ok:HOk P w H h)(e:Rd H a u):XM P w H h a u:=e.ok ok
theorem Zco{kvs:List (Key×V)}(ok:HOk P w H h)(e:Rd H a (.dK kvs)):kvs.length<=sizeLine/\(a==sysModules)=false/\∃vs,KV kvs vs/\h.DictOf (Xe P w) a vs:=
 show XM P w H h a (.dK kvs) from Zqz ok e
theorem ZqA{kvs:List (Key×V)}(ok:HOk P w H h)(e:H a=some (.dK kvs)):kvs.length<=sizeLine/\(a==sysModules)=false/\∃vs,KV kvs vs/\h.DictOf (Xe P w) a vs:=Zco ok (.inl e)
theorem ZfF{ks:List Key}(ok:HOk P w H h)(e:H a=some (.tup (ks.map kV))):(tupleKind (Xe P w)).is h ks a:=by
 obtain⟨_,its,r,o,h1,h2,n,h3⟩:=(show XM P w H h a (.tup (ks.map kV)) from ok a _ e)
 exact⟨o,its.toArray,n,h1,h2,h3,by simpa using ZiI r⟩
theorem Zh8{kvs:List (List Key×V)}(ok:HOk P w H h)(e:Rd H a (.dT kvs)):kvs.length<=sizeLine/\(a==sysModules)=false/\
  ∃xs,KT H kvs xs/\h.DictOfH (tupleKind (Xe P w)) a xs:=by
 obtain⟨z,y,xs,r,o,es,ep,h1,h2,h3,h4,h5⟩:=(show XM P w H h a (.dT kvs) from Zqz ok e)
 refine⟨z,y,xs,r,o,es,ep,h1,h2,h3,h4,fun x hx=> ?_,h5⟩;have all:∀{l:List (List Key×V)} {m:List (List Key×Addr×Value)},KT H l m->∀x∈m,(tupleKind (Xe P w)).is h x.1 x.2.1:=by
  intro l m q
  induction q with
  |nil=>intro x hx;exact nomatch hx
  | @cons p q ps qs hq t ih=>
   intro x hx;rcases List.mem_cons.mp hx with e|hx
   ·subst e;exact ZfF ok (by rw[<-hq.1];exact hq.2.1)
   ·exact ih x hx
 exact all r x hx
theorem ZrT{kvs:List (List Key×V)}(ok:HOk P w H h)(e:H a=some (.dT kvs)):kvs.length<=sizeLine/\(a==sysModules)=false/\
  ∃xs,KT H kvs xs/\h.DictOfH (tupleKind (Xe P w)) a xs:=Zh8 ok (.inl e)
end
def Zgr(H:Hp)(a:Addr)(y:V)(r:Option V):Prop:=
 (∃kvs k,Rd H a (.dK kvs)/\y=kV k/\r=YB kvs k)\/∃kvs k b,Rd H a (.dT kvs)/\y=.ref b/\H b=some (.tup (k.map kV))/\r=YB kvs k
def Zid(H:Hp)(a:Addr)(y v:V)(H':Hp):Prop:=
 (∃kvs k,H a=some (.dK kvs)/\y=kV k/\kvs.length<sizeLine/\H'=upd H a (.dK (Jo kvs k v)))\/
 ∃kvs k b,H a=some (.dT kvs)/\y=.ref b/\H b=some (.tup (k.map kV))/\kvs.length<sizeLine/\H'=upd H a (.dT (Jo kvs k v))
theorem Zid.k{H:Hp}{a:Addr}{kvs:List (Key×V)}{k:Key}{v:V}(e:H a=some (.dK kvs))(hl:kvs.length<sizeLine):Zid H a (kV k) v (upd H a (.dK (Jo kvs k v))):=.inl ⟨kvs,k,e,rfl,hl,rfl⟩
section
variable {X:Cx} {pins:List (Addr×Obj)} {σ:St} {H:Hp} {s:Shared} {a:Addr} {y v:V} {u r:Value} {o:Option V} {A:Around} {E:Value->Shared->Prop}
theorem Inv.big(I:Inv X pins σ H s):sysModules<s.heap.objs.size:=by
 have h:mainGlobals<s.heap.objs.size:=(I.mod.glob.keeps I.bk).lt;exact Nat.lt_trans (by decide) h
theorem Zn0{Q:Value->Shared->Prop}(hu:A.units+1<cLine)(I:Inv X pins σ H s)(g:Zgr H a y (some v))(ry:ZV y u)(h:∀w' s',Inv X pins σ H s'->ZV v w'->Q w' s'):
  wpAny (model X.prog X.w) A (getItem (.ref a) u) Q E s:=by
 rcases g with ⟨kvs,k,e,ey,l⟩|⟨kvs,k,b,e,ey,eb,l⟩
 ·subst ey;obtain⟨z,hd,vs,rel,dd⟩:=Zco I.hok e;obtain⟨w',hw,rw'⟩:=ZcG.some_of (v:=v) (o:=valueAt vs k) (by rw[l];exact rel.val k)
  exact wpAny_getItem_of (Zh7 ry) dd.mapOf hw (h w' _ (I.tok _) rw')
 ·subst ey;cases(show u=Value.ref b from ry);obtain⟨z,hd,xs,rel,dd⟩:=Zh8 I.hok e;obtain⟨w',hw,rw'⟩:=ZcG.some_of (v:=v) (o:=(atKey xs k).map (·.2)) (by rw[l];exact rel.val k)
  obtain⟨p,hp,hp2⟩:=Option.map_eq_some_iff.mp hw;refine wpAny_getItem_heap (tupleKind_room_in1 hu) (ZfF I.hok eb) dd hp ?_;rw[hp2];exact h w' _ (I.tok _) rw'
theorem ZsM{Q:Value->Shared->Prop}(hu:A.units+1<cLine)(I:Inv X pins σ H s)(g:Zgr H a y o)(ry:ZV y u)(h:∀s',Inv X pins σ H s'->Q (.bool o.isSome) s'):
  wpAny (model X.prog X.w) A (compareOp .In u (.ref a)) Q E s:=by
 rcases g with ⟨kvs,k,e,ey,l⟩|⟨kvs,k,b,e,ey,eb,l⟩
 ·subst ey;obtain⟨z,hd,vs,rel,dd⟩:=Zco I.hok e;refine wpAny_in_of (Zh7 ry) hd dd.mapOf ?_;rw[<-(rel.val k).isSome_eq,<-l];exact h _ (I.tok _)
 ·subst ey;cases(show u=Value.ref b from ry);obtain⟨z,hd,xs,rel,dd⟩:=Zh8 I.hok e;refine wpAny_in_heap (tupleKind_room_in1 hu) (ZfF I.hok eb) hd dd ?_;have q:=(rel.val k).isSome_eq;rw[Option.isSome_map] at q
  rw[<-q,<-l];exact h _ (I.tok _)
theorem ZpI{Q:Value->Shared->Prop}(hu:A.units+1<cLine)(I:Inv X pins σ H s)(g:Zgr H a y o)(ry:ZV y u)(h:∀s',Inv X pins σ H s'->Q (.bool (!o.isSome)) s'):
  wpAny (model X.prog X.w) A (compareOp .NotIn u (.ref a)) Q E s:=by
 rcases g with ⟨kvs,k,e,ey,l⟩|⟨kvs,k,b,e,ey,eb,l⟩
 ·subst ey;obtain⟨z,hd,vs,rel,dd⟩:=Zco I.hok e;refine wpAny_notIn_of (Zh7 ry) hd dd.mapOf ?_;rw[<-(rel.val k).isSome_eq,<-l];exact h _ (I.tok _)
 ·subst ey;cases(show u=Value.ref b from ry);obtain⟨z,hd,xs,rel,dd⟩:=Zh8 I.hok e;refine wpAny_notIn_heap (tupleKind_room_in1 hu) (ZfF I.hok eb) hd dd ?_;have q:=(rel.val k).isSome_eq;rw[Option.isSome_map] at q
  rw[<-q,<-l];exact h _ (I.tok _)
theorem Zjm{h':Heap}{t':Nat}{ob:HO}(I:Inv X pins σ H s)(mu:Mut (H a))(hs:Heap.SameBut a s.heap h')(he:∃q,h'.get? a=some q)(new:XM X.prog X.w (upd H a ob) h' a ob):
  Inv X pins σ (upd H a ob) {s with heap:=h',toks:=t'}:=
 I.write (x:=a) (e:=a) mu (.inl rfl) (fun b q hb z=>(hs.2 b hb).trans z) he new
theorem Zlt{P:Program}{w:World}{H':Hp}{h':Heap}{kvs:List (Key×V)}{vs:List (Key×Value)}(z:kvs.length<=sizeLine)(hd:(a==sysModules)=false)(rel:KV kvs vs)(dd:h'.DictOf (Xe P w) a vs):
  XM P w H' h' a (.dK kvs):=⟨z,hd,vs,rel,dd⟩
theorem Zn1{H':Hp}{Q:Unit->Shared->Prop}(hu:A.units+1<cLine)(I:Inv X pins σ H s)(g:Zid H a y v H')(ry:ZV y u)(rv:ZV v r)(h:∀s',Inv X pins σ H' s'->Q () s'):
  wpAny (model X.prog X.w) A (setItem (.ref a) u r) Q E s:=by
 rcases g with ⟨kvs,k,e,ey,l,eH⟩|⟨kvs,k,b,e,ey,eb,l,eH⟩
 ·subst ey eH;obtain⟨z,hd,vs,rel,dd⟩:=ZqA I.hok e;have hz:vs.length<=sizeLine:=by rw[<-rel.length];exact z
  have hl:(Jo kvs k v).length<=sizeLine:=by have:=ZaD kvs k v;omega
  refine wpAny_setItem_pairs (hsz:=hz) (Zh7 ry) dd fun h' dd' hs=>h _ ?_;have he:∃q,h'.get? a=some q:=let ⟨q,_,_,hq,_⟩:=dd';⟨q,hq⟩;exact Zjm I (by rw[e];exact True.intro) hs he (Zlt hl hd (rel.put k rv) dd')
 ·subst ey eH;cases(show u=Value.ref b from ry);obtain⟨z,hd,xs,rel,dd⟩:=ZrT I.hok e;have hz:xs.length<=sizeLine:=by rw[<-Paired.length rel];exact z
  have hl:(Jo kvs k v).length<=sizeLine:=by have:=ZaD kvs k v;omega
  refine wpAny_setItem_heap (hsz:=hz) (tupleKind_room_in1 hu) (ZfF I.hok eb) dd fun h' dd' hs=>h _ ?_;obtain⟨q,es,ep,hq,h2,h3,h4,_,h5⟩:=dd';refine Zjm I (by rw[e];exact True.intro) hs ⟨q,hq⟩ ⟨hl,hd,_,(rel.put k eb rv).keeps fun c ys ec=> ?_,q,es,ep,hq,h2,h3,h4,h5⟩
  rw[Zm (Yi ec e (fun z=>nomatch z))];exact ec
end
section
variable {X:Cx} {pins:List (Addr×Obj)} {σ:St} {H:Hp} {s:Shared} {a:Addr} {kvs:List (Key×V)} {k:Key} {u:Value} {A:Around} {E:Value->Shared->Prop}
end
def ZrU(i:Expr):Prop:=∀ov iv,subscripted i false ov iv=operate [ov,iv] (getItem ov iv)
theorem ZpJ{prog:Program}{w:World}{A:Around}{E:Value->Shared->Prop}{s:Shared}{env:Env}{value slice:Expr}{pos:Pos}{T id:String}{Q:Value->Shared->Prop}
  (hl:typeLookup (.type T) "__getitem__"=pure (some (.builtin id)))(hs:ZrU slice)
  (h:wpAny (model prog w) A (eval value env) (fun o s₁=>wpAny (model prog w) A (eval slice env) (fun i s₂=>s₂.TypeIs o T/\wpAny (model prog w) A (getItem o i) Q E s₂) E s₁) E s):
  wpAny (model prog w) A (eval (.Subscript value slice pos) env) Q E s:=by
 refine Subscript_ (wpAny_mono h (fun o s₁ h₁=>wpAny_mono h₁ (fun i s₂ h₂=> ?_) fun _ _ x=>x) fun _ _ x=>x);obtain⟨hT,h₂⟩:=h₂;unfold subscriptTail;refine wpAny_bind ?_;rw[getitemInPython_of_ne hT.not_modules];refine wpAny_bind (wpAny_specialOf hT hl ?_);have fin:wpAny (model prog w) A (subscripted slice false o i) (fun r s₃=>wpAny (model prog w) A (letTemporaryGo value o r>>=fun _=>pure r) Q E s₃) E s₂:=by
  rw[hs o i];exact wpAny_operating (wpAny_mono h₂ (fun r s₃ h₃=>wpAny_bind (wpAny_letTemporaryGo (wpAny_pure h₃))) fun _ _ x=>x)
 first
  |exact wpAny_pure (wpAny_bind fin)
  |exact wpAny_bind (wpAny_pure (wpAny_bind fin))
  |exact wpAny_bind fin
theorem Zko{X:Cx}{pins:List (Addr×Obj)}{σ:St}{H:Hp}{s:Shared}{a:Addr}{y:V}{o:Option V}(I:Inv X pins σ H s)(g:Zgr H a y o):s.TypeIs (.ref a) "dict":=by
 rcases g with ⟨kvs,k,e,_,_⟩|⟨kvs,k,b,e,_,_,_⟩
 ·obtain⟨_,_,vs,_,dd⟩:=Zco I.hok e;exact dd.typeIs
 ·obtain⟨_,_,xs,_,dd⟩:=Zh8 I.hok e;exact dd.typeIs
def ZrV(td ty:TE):TE:=fun σ H Q=>td σ H fun x H1=>ty σ H1 fun y H2=>∃a v,x=.ref a/\Zgr H2 a y (some v)/\Q v H2
def ZsN(ty td:TE):TE:=fun σ H Q=>ty σ H fun y H1=>td σ H1 fun x H2=>∃a o,x=.ref a/\Zgr H2 a y o/\Q (.bl o.isSome) H2
def ZpK(ty td:TE):TE:=fun σ H Q=>ty σ H fun y H1=>td σ H1 fun x H2=>∃a o,x=.ref a/\Zgr H2 a y o/\Q (.bl (!o.isSome)) H2
def ZrW(td ty tv:TE):TS:=fun D σ H=>tv σ H fun v H1=>td σ H1 fun x H2=>ty σ H2 fun y H3=>∃a H4,x=.ref a/\Zid H3 a y v H4/\D.nx σ H4
section
variable {X:Cx} {o i e value:Expr} {pos pos' tpos:Pos} {td ty tv:TE}
theorem Zba(hu:X.A.units+1<cLine)(ho:PE X o td)(hi:PE X i ty)(hs:ZrU i):PE X (.Subscript o i pos) (ZrV td ty):=by
 intro pins s σ H Q I h;refine ZpJ PySem.F.slot_dict_getitem.lookup hs (thn (ho pins s σ H _ I h) fun u s1 ⟨x,H1,I1,rx,q1⟩=>thn (hi pins s1 σ H1 _ I1 q1) fun iv s2 ⟨y,H2,I2,ry,a,v,ex,g,q2⟩=> ?_);subst ex;obtain rfl:u=Value.ref a:=rx;exact⟨Zko I2 g,Zn0 hu I2 g ry fun w' s3 I3 rw'=>⟨v,H2,I3,rw',q2⟩⟩
theorem Zlu(hu:X.A.units+1<cLine)(hi:PE X i ty)(ho:PE X o td):PC X .In i o (ZsN ty td):=by
 intro pins s σ H Q I h;refine thn (hi pins s σ H _ I h) fun iv s1 ⟨y,H1,I1,ry,q1⟩=>thn (ho pins s1 σ H1 _ I1 q1) fun u s2 ⟨x,H2,I2,rx,a,ov,ex,g,q2⟩=> ?_;subst ex;obtain rfl:u=Value.ref a:=rx;exact ZsM hu I2 g ry fun s3 I3=>⟨.bl ov.isSome,H2,I3,rfl,q2⟩
theorem Ze1(hu:X.A.units+1<cLine)(hi:PE X i ty)(ho:PE X o td):PC X .NotIn i o (ZpK ty td):=by
 intro pins s σ H Q I h;refine thn (hi pins s σ H _ I h) fun iv s1 ⟨y,H1,I1,ry,q1⟩=>thn (ho pins s1 σ H1 _ I1 q1) fun u s2 ⟨x,H2,I2,rx,a,ov,ex,g,q2⟩=> ?_;subst ex;obtain rfl:u=Value.ref a:=rx;exact ZpI hu I2 g ry fun s3 I3=>⟨.bl (!ov.isSome),H2,I3,rfl,q2⟩
theorem ZcI(hu:X.A.units+1<cLine)(ho:PE X o td)(hi:PE X i ty)(hv:PE X value tv)(hs:swapsWith value (some (.Subscript o i pos')) pos.line X.env=pure false):
  PS X (.Assign [.Subscript o i pos'] value pos) (ZrW td ty tv):=by
 intro pins s σ H D I h;refine wpAny_Assign_Subscript (thn (hv pins s σ H _ I h) fun r s1 ⟨v,H1,I1,rv,q1⟩=>thn (ho pins s1 σ H1 _ I1 q1) fun u s2 ⟨x,H2,I2,rx,q2⟩=>thn (hi pins s2 σ H2 _ I2 q2) fun iv s3 ⟨y,H3,I3,ry,a,H4,ex,g,q3⟩=> ?_) hs;subst ex;obtain rfl:u=Value.ref a:=rx;exact Zn1 hu I3 g ry rv fun s4 I4=>⟨σ,H4,I4,q3⟩
end
theorem Zo1{P:Program}{w:World}{H:Hp}(h:Heap)(hb:sysModules<h.objs.size):XM P w H (h.push {cls:=.type "dict",data:=.dict #[]}) h.objs.size (.dK []):=
 ⟨Nat.zero_le _,beq_eq_false_iff_ne.mpr (Ne.symm (Nat.ne_of_lt hb)),[],.nil,Heap.DictOf.new h⟩
def ZqZ:TE:=fun _ H Q=>∀p,H p=none->Q (.ref p) (upd H p (.dK []))
section
variable {X:Cx} {pos:Pos}
theorem Zbq:PE X (.Dict [] [] pos) ZqZ:=fun pins s σ H Q I h=>
 wpAny_Dict_empty ⟨.ref s.heap.objs.size,_,I.laid (a:=s.heap.objs.size) (o:=.dK []) (t':=s.toks) (fun _ _ q=>Heap.get?_push_of_some _ q) (Nat.le_refl _) (Zo1 s.heap I.big),rfl,h _ (I.hok.fresh (Nat.le_refl _))⟩
end
structure M2 (X:Cx) (o:Expr) (m:Str) (apos:Pos) (e f:Expr) (cpos:Pos):Prop where
 base:attributeBase o m X.env (eval o X.env)=eval o X.env
 few:((backTo cpos (starEach [e,f] X.env)).all (fun x=> !x.1)&&(backToKw cpos (keywordEach [] X.env)).all (fun x=>x.1.isSome)
  &&decide (([e,f]:List Expr).length+([]:List Keyword).length+(if([]:List Keyword).isEmpty then 0 else 1)<30))=true
 line:(apos.endLine==cpos.line)=true
 trees:backTo cpos (starEach [e,f] X.env)=[(false,eval e X.env),(false,eval f X.env)]
def IsD(H:Hp)(a:Addr):Prop:=(∃kvs,Rd H a (.dK kvs))\/∃kvs,Rd H a (.dT kvs)
theorem Zo2{X:Cx}{pins:List (Addr×Obj)}{σ:St}{H:Hp}{s:Shared}{a:Addr}(I:Inv X pins σ H s)(d:IsD H a):
  s.TypeIs (.ref a) "dict"/\(∀b,Value.ref a=.ref b->∃ob,s.heap.get? b=some ob/\ob.dict=none)/\(a==sysModules)=false:=by
 rcases d with ⟨kvs,e⟩|⟨kvs,e⟩
 ·obtain⟨_,hd,vs,_,dd⟩:=Zco I.hok e;refine⟨dd.typeIs,fun b q=> ?_,hd⟩;cases q;obtain⟨ob,_,_,h1,h2,_⟩:=dd;exact⟨ob,h1,h2.2.1⟩
 ·obtain⟨_,hd,xs,_,dd⟩:=Zh8 I.hok e;refine⟨dd.typeIs,fun b q=> ?_,hd⟩;cases q;obtain⟨ob,_,_,h1,h2,_⟩:=dd;exact⟨ob,h1,h2.2.1⟩
section
variable {X:Cx} {pins:List (Addr×Obj)} {σ:St} {H:Hp} {s:Shared} {a:Addr} {y d:V} {u r:Value} {o:Option V} {A:Around} {E:Value->Shared->Prop}
theorem Zr0{Q:Value->Shared->Prop}(hu:A.units+1<cLine)(I:Inv X pins σ H s)(g:Zgr H a y o)(ry:ZV y u)(rd:ZV d r)(h:∀w' s',Inv X pins σ H s'->ZV (o.getD d) w'->Q w' s'):
  wpAny (model X.prog X.w) A (call (.builtin "dict.get") [.ref a,u,r]) Q E s:=by
 rcases g with ⟨kvs,k,e,ey,l⟩|⟨kvs,k,b,e,ey,eb,l⟩
 ·subst ey;obtain⟨z,hd,vs,rel,dd⟩:=Zco I.hok e;refine call_meetsIn PySem.F.slot_dict_get dd.typeIs PySem.F.entry_dict_get (PySem.F.args_dict_get_3 _ _ _) (meets_dict_get_default (Xe X.prog X.w) a (Zh7 ry) hd r) ⟨_,dd.mapOf,h _ _ (I.tok _) ?_⟩;rw[l];exact(rel.val k).getD rd
 ·subst ey;cases(show u=Value.ref b from ry);obtain⟨z,hd,xs,rel,dd⟩:=Zh8 I.hok e;refine call_meetsIn PySem.F.slot_dict_get dd.typeIs PySem.F.entry_dict_get (PySem.F.args_dict_get_3 _ _ _) (meetsH_dict_get_default (tupleKind (Xe X.prog X.w)) a b hd r) ⟨tupleKind_room_in1 hu,k,xs,ZfF I.hok eb,dd,h _ _ (I.tok _) ?_⟩;rw[l];exact(rel.val k).getD rd
end
def Zr1(td ty tx:TE):TE:=fun σ H Q=>td σ H fun x H1=>∃a,x=.ref a/\IsD H1 a/\ty σ H1 fun y H2=>tx σ H2 fun z H3=>∃o,Zgr H3 a y o/\Q (o.getD z) H3
section
variable {X:Cx} {o e f:Expr} {apos cpos:Pos} {td ty tx:TE}
theorem Zkp(hu:X.A.units+1<cLine)(ho:PE X o td)(he:PE X e ty)(hf:PE X f tx)(m:M2 X o "get" apos e f cpos):PE X (.Call (.Attribute o "get" apos) [e,f] [] cpos) (Zr1 td ty tx):=by
 intro pins s σ H Q I h;refine wpAny_Call_method m.base m.few m.line PySem.F.plainAttrs_dict PySem.F.slot_dict_get PySem.F.type_dict_get (thn (ho pins s σ H _ I h) fun u s1 ⟨x,H1,I1,rx,a,ex,d,q1⟩=> ?_);subst ex;obtain rfl:u=Value.ref a:=rx;obtain⟨t1,t2,_⟩:=Zo2 I1 d;refine⟨t1,t2, ?_⟩;rw[m.trees];refine Calls.callWith_builtin rfl (Calls.evalArgs_plain (Calls.spliced_cons (thn (he pins s1 σ H1 _ I1 q1) fun iv s2 ⟨y,H2,I2,ry,q2⟩=>
  Calls.spliced_cons (thn (hf pins s2 σ H2 _ I2 q2) fun fv s3 ⟨z,H3,I3,rz,ov,g,q3⟩=>Calls.spliced_nil ?_))))
 exact Zr0 hu I3 g ry rz fun w' s4 I4 rw'=>⟨_,H3,I4,rw',q3⟩
end
section
variable {X:Cx} {pins:List (Addr×Obj)} {σ:St} {H:Hp} {s:Shared} {a:Addr} {kvs:List (Key×V)} {A:Around} {E:Value->Shared->Prop}
theorem Zo3{Q:Value->Shared->Prop}(I:Inv X pins σ H s)(e:Rd H a (.dK kvs))(h:∀p s',H p=none->Inv X pins σ (upd H p (.dK kvs)) s'->Q (.ref p) s'):wpAny (model X.prog X.w) A (call (.type "dict") [.ref a]) Q E s:=by
 obtain⟨z,hd,vs,rel,dd⟩:=Zco I.hok e;refine kt_call_dict hd dd (by rw[<-rel.length];exact z) fun h' dd' hs=> ?_
 refine h _ _ (I.hok.fresh (Nat.le_refl _)) (I.laid (a:=s.heap.objs.size) (o:=.dK kvs) (t':=s.toks) (fun b q hq=> ?_) (Nat.le_refl _) (Zlt z (beq_eq_false_iff_ne.mpr (Ne.symm (Nat.ne_of_lt I.big))) rel dd'));exact(hs.2 b (Nat.ne_of_lt (Heap.lt_size hq))).trans (Heap.get?_push_of_some _ hq)
end
section
variable {X:Cx} {pins:List (Addr×Obj)} {σ:St} {H:Hp} {s:Shared} {a:Addr} {y:V} {u:Value} {A:Around} {E:Value->Shared->Prop}
end
end L2
namespace Att
open PySem PySem.W PySem.Calls PyProof.Rows
theorem Zgs{P:Params}{h:Heap}:∀(ns:List Int) (vs:List Value),WellAll P h vs (ns.map WData.int)->IntsAre vs ns:=by
 intro ns
 induction ns with
 |nil=>
  intro vs w;rw[List.map_nil] at w
  cases w;exact .nil
 |cons n ns ih=>
  intro vs w;rw[List.map_cons] at w
  cases w with
  |cons a b=>
   cases a;exact .cons _ _ (ih _ b)
theorem script_of{l:OpenLaw}{n:Nat}(hn:l.most=some n){P:Params}{h:Heap}{args:List WData}{vals:List Value}
  (hpre:l.row.toRowW.claim.pre args=true)(hwl:WellAll P h vals args):
  ∃a vs ns,vals=[Value.ref a]/\args=[WData.list (ns.map WData.int)]/\h.get? a=some {cls:=.type "list",data:=.seq vs.toArray}/\IntsAre vs ns/\ns.length<=n:=by
 have hsh:WShape.hasAll [] args [.list .int]=true:=(pre_splitW hpre).1;have hc:l.pre.holds [] {args:=args}=true:=(pre_splitW hpre).2;obtain⟨d,r,rfl,h1,h2⟩:=hasAllW_cons hsh;obtain rfl:=hasAllW_nil h2;obtain⟨xs,rfl,h3⟩:=hasW_list h1;obtain⟨ns,rfl⟩:=items_int h3;have hlen:ns.length<=n:=by
  unfold OpenLaw.pre at hc
  have h4:(WTm.not (.lt (.lit (.int (n:Int))) (.len (.arg 0)))).holds [] {args:=[.list (ns.map .int)]}=true:=by
   have h4:=(holds_andW hc).1;rw[hn] at h4
   exact h4
  have h5:=condW_of h4 (w_not (w_lt w_lit (w_len_list (w_arg rfl))));rw[List.length_map] at h5
  refine Nat.le_of_not_lt fun q=> ?_;have q':(n:Int)<((ns.length:Nat):Int):=by omega
  first
   |(rw[decide_eq_true q'] at h5;exact absurd h5 (by decide))
   |(simp at h5;omega)
 cases hwl with
 |cons w1 w2=>
  cases w2;cases w1 with
  |list ho hall=>exact⟨_,_,ns,rfl,rfl,ho,Zgs ns _ hall,hlen⟩
theorem post_true(l:OpenLaw)(args:List WData):l.row.toRowW.claim.post args (.bool true) args=true:=
 postW_of (r:=l.row.toRowW) (X:=(true==true))
  (show WShape.has [] (.bool true) .bool=true by first|rfl|decide|simp[WShape.has,WShape.arms,WShape.armsAll])
  (show(WTm.eq .res (.lit (.bool true))).value [] {args:=args,res:=some (.bool true),after:=args}=some (.bool (true==true)) from w_eq_bool (w_res rfl) w_lit) rfl
section
variable {prog:Program} {w:World} {A:Around} {E:Value->Shared->Prop} {s:Shared} {K:Frag}
end
end Att
namespace L2
open PySem PySem.Spec PyProof.Rows
theorem ZiJ:∀{vs:List Value} {ns:List Int},IntsAre vs ns->Yb (ns.map V.int) vs
 |_,_,.nil=> .nil
 |_,_,.cons n t h=> .cons ⟨t,rfl⟩ (ZiJ h)
def ZrX(H:Hp):Prop:=∀b,H b=none\/∃o xs,H b=some (.frz o (.lst xs))
theorem Zo4{P:Program}{w:World}{K:PySem.W.Frag}{mg mb:Str->Option Value}{CX:CXT}{k:Nat}{fa a:Addr}{fd:FuncData}{x:Str}{sp:Sp}{s₁:Shared}{vs:List Value}{ns:List Int}
  (KX:K.In s₁.heap)(hns:s₁.heap.Ns mainGlobals mg)(hb:s₁.heap.Ns builtinsNs mb)(hbb:∀x:Str,x≠"__name__"->mb x=bootBuiltins x)(hlim:s₁.heap.NoLimit)(hg:s₁.gens= #[])
  (ha:s₁.heap.get? a=some {cls:=.type "list",data:=.seq vs.toArray})(hi:IntsAre vs ns)(hl:ns.length<=sizeLine)(hr:Za1 k callerA)
  (F:∀base:Heap,K.In base->base.Ns mainGlobals mg->Yr P w K mg base CX k fa fd [x] sp)(hbind:∀(s:Shared) (u:Value),BindsTo s fd ⟨[u],[]⟩ [(x,u)])
  (hsp:∀H:Hp,ZrX H->SqL K H a (ns.map V.int)->sp [.ref a] H (fun v _=>v=.bl true) fun _ _ _=>False)
  (hCX:∀H e s',CX [] H s₁ (fun _ _ _=>False) e s'->False):
  codeAny (model P w) callerA (.call (.ref fa) ⟨[.ref a],[]⟩) (fun r s'=>r=.ok (.ret (.bool true))/\OldK s₁.heap s'.heap/\s'.os=s₁.os/\AllBare s'.gens) s₁:=by
 have rv:=ZiJ hi;have lenV:=hi.length;have core:∀H:Hp,ZrX H->SqL K H a (ns.map V.int)->HOk P w H s₁.heap->(∀b,H b≠none->b=a)->(H a≠none->K.lookup a=none)->
   codeAny (model P w) callerA (.call (.ref fa) ⟨[.ref a],[]⟩) (fun r s'=>r=.ok (.ret (.bool true))/\OldK s₁.heap s'.heap/\s'.os=s₁.os/\AllBare s'.gens) s₁:=by
  intro H hO hS hok hA hK;have base_of:∀{b:Addr} {o:Obj},s₁.heap.get? b=some o->H b=none->(Zjd s₁.heap H).get? b=some o:=fun e n=>ZnF e n;have noA:∀{b:Addr} {o:Obj} {es:Array DictEntry} {ep:Nat},s₁.heap.get? b=some o->o.data=.dict es ep->H b=none:=fun{b o es ep} e d=>by
   cases q:H b with
   |none=>rfl
   |some u=>
    have e':b=a:=hA b (by rw[q];simp)
    subst e';rw[ha] at e;cases e
    have d':Data.seq vs.toArray _=Data.dict es ep:=d;cases d'
  have nsK:∀{b:Addr} {m:Str->Option Value},s₁.heap.Ns b m->(Zjd s₁.heap H).Ns b m:=fun{b m} ⟨o,es,ep,e,d,r⟩=>⟨o,es,ep,base_of e (noA e d),d,r⟩
  have hKb:K.In (Zjd s₁.heap H):=fun b o e=>base_of (KX b o e) (by
   cases q:H b with
   |none=>rfl
   |some u=>
    have e':b=a:=hA b (by rw[q];simp)
    subst e';rw[hK (by rw[q];simp)] at e;cases e)
  have hM:Mod K mg (Zjd s₁.heap H):=⟨hKb,nsK hns,⟨mb,nsK hb,hbb⟩,let ⟨mc,h1,h2⟩:=hlim;⟨mc,nsK h1,h2⟩⟩
  have e0:Zlo P w K mg (Zjd s₁.heap H) callerA [] s₁ H:=⟨rfl,hM,fun b o e=>Zpw e,Nat.le_of_eq (ZmQ _ _),trivial,fun b hb=>absurd (show b∈([]:List Addr) from hb) (by simp),hok,.of_eq hg⟩
  refine codeAny_mono ((F _ hKb (nsK hns)).run callerA [] s₁ H ⟨[.ref a],[]⟩ [.ref a] [.ref a] _ _ hr e0 (hbind s₁ (.ref a)) (.cons rfl .nil) (hsp H hO hS)) fun r s' h=> ?_;cases r with
  |error e=>exact(hCX H e s' h).elim
  |ok fl=>
   cases fl with
   |next=>exact False.elim h
   |brk=>exact False.elim h
   |cont=>exact False.elim h
   |ret u=>
    obtain⟨v,H',os,bare,un,hok',r',q⟩:=h;have q':v=.bl true:=q;subst q';obtain rfl:u=Value.bool true:=r';refine⟨rfl,OldK.of_keep fun b o e=> ?_,os,bare⟩;cases q:H b with
    |none=>exact un.keep b o e q (by intro z;exact absurd (show b∈([]:List Addr) from z) (by simp)) (by simp)
    |some u=>
     rcases hO b with z|⟨ob,xs,z⟩
     ·rw[q] at z;cases z
     ·have z2:=un.frzs b ob _ z;obtain⟨e1,_⟩:=hok b _ z;obtain⟨e2,_⟩:=hok' b _ z2;rw[e] at e1;cases e1
      exact e2
 cases hk:K.lookup a with
 |some o=>
  have e:=KX a o hk;rw[ha] at e
  cases e;refine core (fun _=>none) (fun _=> .inl rfl) (.inr ⟨_,vs.toArray,_,hk,rfl,rfl,rfl,by rw[List.size_toArray,lenV];exact hl,by simpa using rv⟩) (fun b u z=>by have z':(none:Option HO)=some u:=z;cases z') (fun b z=>absurd rfl z) fun z=>absurd rfl z
 |none=>
  refine core (fun b=>if b=a then some (.frz {cls:=.type "list",data:=.seq vs.toArray} (.lst (ns.map V.int))) else none) (fun b=> ?_) (.inl (.inr ⟨{cls:=.type "list",data:=.seq vs.toArray},if_pos rfl⟩)) (fun b u z=> ?_) (fun b z=> ?_) fun _=>hk
  ·by_cases hb:b=a
   ·exact .inr ⟨_,_,if_pos hb⟩
   ·exact .inl (if_neg hb)
  ·by_cases hb:b=a
   ·have z':=(if_pos hb).symm.trans z;cases z';subst hb;exact⟨ha,by rw[List.length_map];exact hl,vs,_,rv,ha⟩
   ·have z':=(if_neg hb).symm.trans z;cases z'
  ·by_cases hb:b=a
   ·exact hb
   ·exact absurd (if_neg hb) z
end L2
namespace L2
open PySem PySem.Spec PyProof.Rows
end L2
namespace L2
open PySem PySem.Spec PyProof.Rows
def Xg(s:Stmt)(j:Nat):Stmt:=match s with
 | .ClassDef _ _ _ body _ _ _ _ _ _ _=>body.getD j (.Pass ⟨0,0,0,0⟩)
 |_=> .Pass ⟨0,0,0,0⟩
def Ze2(s:Stmt):Arguments:=match s with
 | .FunctionDef _ a _ _ _ _ _ _ _ _=>a
 |_=>{posonlyargs:=[],args:=[],vararg:=none,kwonlyargs:=[],kw_defaults:=[],kwarg:=none,defaults:=[]}
def ZcJ(s:Stmt):List Stmt:=match s with
 | .FunctionDef _ _ b _ _ _ _ _ _ _=>b
 |_=>[]
def Zu(s:Stmt):Scope:=match s with
 | .FunctionDef _ _ _ _ _ _ sc _ _ _=>sc
 |_=>{kind:=.function,names:=[],isGenerator:=false,isCoroutine:=false}
abbrev CX0:CXT:=fun _ _ _ _ _ _=>False
abbrev E0:XK:=fun _ _ _=>False
theorem ZD{X:Cx}:Zbp CX0 X E0:=fun _ _ _ _ _ _ _ h=>h.elim
structure Fun (K:PySem.W.Frag) (x qual:Str) (st:Stmt) (f:Addr) (fd:FuncData):Prop where
 ex:∃(oc:Value) (od:Option Addr) (kV doc pm:Value) (an:Option Addr) (cdv ct:Value) (osl:Array (Option Value)),
  fd=PySem.W.fnOf x qual (Ze2 st) (ZcJ st) (Zu st) .none kV doc pm an cdv ct/\K.lookup f=some ⟨oc,od,.func fd,osl⟩/\PySem.W.codeIn K cdv qual=true
 kp:PySem.W.keepIn K (.ref f)=true
section
variable {P:Program} {w:World} {K:PySem.W.Frag} {mg:Str->Option Value} {base:Heap}
theorem Fun.ok{x qual:Str}{st:Stmt}{f:Addr}{fd:FuncData}{N ps:List Str}{k:Nat}{sp:Sp}(F:Fun K x qual st f fd)(S:ZC N ps (Zu st))(len:∀vs H Q E,sp vs H Q E->vs.length=ps.length)
  (hbody:∀(cdv:Value) (A:Around) (outer:List Env) (s:Shared) (H:Hp) (vs:List V) (Q:VK) (E:XK),Za1 k (A.deeper (envOfC qual (Zu st) s.heap.objs.size f cdv))->sp vs H Q E->
   ∃t,PSs (ZmY CX0 P w K mg base N qual (Zu st) f cdv A outer s H E).nox (ZcJ st) t/\t {nx:=fun _ H'=>Q .non H',rt:=Q} (Zei N vs) H):Yr P w K mg base CX0 (k+1) f fd ps sp:=by
 obtain⟨oc,od,kV,doc,pm,an,cdv,ct,osl,rfl,lk,hcd⟩:=F.ex;refine ZrO lk hcd S len fun A outer s H vs Q E hr hsp=> ?_;obtain⟨t,h,q⟩:=hbody cdv A outer s H vs Q E hr hsp;exact⟨t,h.nox,q⟩
theorem Fun.binds{x qual:Str}{st:Stmt}{f:Addr}{fd:FuncData}{ps:List Str}(F:Fun K x qual st f fd)
  (h:∀(kV doc pm:Value) (an:Option Addr) (cdv ct:Value) (us:List Value),us.length=ps.length->bindArgs (PySem.W.fnOf x qual (Ze2 st) (ZcJ st) (Zu st) .none kV doc pm an cdv ct) ⟨us,[]⟩=pure (ps.zip us)):Zdi K fd ps []:=by
 obtain⟨oc,od,kV,doc,pm,an,cdv,ct,osl,rfl,lk,hcd⟩:=F.ex;exact .all (h kV doc pm an cdv ct)
theorem Zlv{x qual:Str}{st:Stmt}{f:Addr}{oc:Value}{od an:Option Addr}{osl:Array (Option Value)}{kV doc pm cdv ct:Value}(l:K.lookup f=some ⟨oc,od,.func (PySem.W.fnOf x qual (Ze2 st) (ZcJ st) (Zu st) .none kV doc pm an cdv ct),osl⟩)
  (c:PySem.W.codeIn K cdv qual=true)(k:PySem.W.keepIn K (.ref f)=true):Fun K x qual st f (PySem.W.fnOf x qual (Ze2 st) (ZcJ st) (Zu st) .none kV doc pm an cdv ct):=⟨⟨oc,od,kV,doc,pm,an,cdv,ct,osl,rfl,l,c⟩,k⟩
end
theorem Zcp{A:Around}{k:Nat}(hr:Za1 k A):A.units+1<cLine:=Nat.lt_of_le_of_lt (Nat.add_le_add_left (by decide:1<=64) _) hr.units
section
variable {X:Cx}
theorem pv(i:Nat){x:Str}{pos:Pos}(hN:X.N[i]? =some x:=by rfl)(hv:Vis X.env.scope x:=by first|exact Or.inl rfl|exact Or.inr (Or.inl rfl)|exact Or.inr (Or.inr rfl)) (hd:(x==("__debug__":Str))=false:=by decide)
  (hcd:(x==("__classdict__":Str))=false:=by decide):PE X (.Name x pos) (ZnH i):=ZqQ hN hv hd hcd
end
theorem Xh{A B:Prop}(h:B):if false=true then A else B:=by
 rw[if_neg Bool.false_ne_true];exact h
theorem Zbb{A B:Prop}(h:A):if true=true then A else B:=by
 rw[if_pos rfl];exact h
theorem YZ{c A B:Prop} [Decidable c](h1:c->A)(h2:¬c->B):if c then A else B:=by
 by_cases h:c
 ·rw[if_pos h];exact h1 h
 ·rw[if_neg h];exact h2 h
theorem ZrY{c A B:Prop} [Decidable c](hc:c)(h:B):if(!decide c)=true then A else B:=by
 rw[decide_eq_true hc];exact Xh h
def Zx(H H':Hp):Prop:=∀b o,H b=some o->H' b=some o
theorem Zx.refl(H:Hp):Zx H H:=fun _ _ h=>h
theorem Zx.trans{H H1 H2:Hp}(a:Zx H H1)(b:Zx H1 H2):Zx H H2:=fun c o h=>b c o (a c o h)
theorem Zx.free{H H':Hp}(e:Zx H H'){l:Addr}(h:H' l=Option.none):H l=Option.none:=by
 cases q:H l with
 |none=>rfl
 |some o=>
  rw[e l o q] at h
  cases h
theorem Zx.seq{K:PySem.W.Frag}{H H':Hp}{a:Addr}{xs:List V}(e:Zx H H')(h:SqL K H a xs):SqL K H' a xs:=by
 rcases h with (h|⟨o,h⟩)|h
 ·exact .inl (.inl (e _ _ h))
 ·exact .inl (.inr ⟨o,e _ _ h⟩)
 ·exact .inr h
section
variable {κ:Type} [DecidableEq κ]
end
end L2
namespace L3
open PySem PySem.Spec PyProof.Rows L2
theorem up{α:Type}{M:Model}{A:Around}{t:Sem α}{Q:α->Shared->Prop}{E:Value->Shared->Prop}{s:Shared}(h:wpAny M A t Q (fun _ _=>False) s):wpAny M A t Q E s:=wpAny_mono h (fun _ _ z=>z) fun _ _ z=>z.elim
theorem ZpL{prog:Program}{w:World}{A:Around}{E:Value->Shared->Prop}{s:Shared}{l b:Addr}{vs ws:List Value}{Q:Value->Shared->Prop}(hl:s.heap.IsList l vs.toArray)(hb:s.heap.IsList b ws.toArray)
  (h:Q (.ref s.heap.objs.size) {s with heap:=s.heap.push {cls:=.type "list",data:=.seq (vs++ws).toArray}})(hz:vs.length+ws.length<=sizeLine):wpAny (model prog w) A (binaryOp .Add (.ref l) (.ref b)) Q E s:=by
 obtain⟨⟨c1,d1,t1,l1⟩,o1,k1,n1,e1⟩:=id hl;obtain⟨⟨c2,d2,t2,l2⟩,o2,k2,n2,e2⟩:=id hb;simp only at k1 e1 k2 e2
 subst k1 e1 k2 e2;refine concat_meets ⟨_,o1,rfl⟩ ⟨_,o2,rfl⟩ noFill_list_add seq_list_add PySem.F.slot_list_add PySem.F.entry_list_add (PySem.F.args_list_add_2 _ _) (list_addW l b vs.toArray ws.toArray n1 n2 d1 d2 l1 l2 (by simpa using hz)) ⟨o1,o2, ?_⟩;have ea:vs.toArray++ws.toArray=(vs++ws).toArray:=by simp
 rw[ea];exact h
section
variable {X:Cx}
theorem Zax:OpR X (binaryOp .Mult) (rI IntMulOk fun i j=> .int (i*j)):=opI fun _ _ _ _ _ _ _ hc q=>mul_int q hc
def ZrZ(K:PySem.W.Frag):R2:=fun x y H Q=>∃l b xs zs,x=.ref l/\y=.ref b/\SqL K H l xs/\SqL K H b zs/\xs.length+zs.length<=sizeLine/\∀p,H p=none->Q (.ref p) (upd H p (.lst (xs++zs)))
theorem ZcK:OpR X (binaryOp .Add) (ZrZ X.K):=by
 intro pins s σ H x y v u Q I rx ry h;obtain⟨l,b,xs,zs,rfl,rfl,h1,h2,hz,q⟩:=h;cases rx;cases ry;obtain⟨its,r,pl,_⟩:=I.list h1;obtain⟨its2,r2,pl2,_⟩:=I.list h2;obtain⟨m,F⟩:=I.fr;have e1:=r.length;have e2:=r2.length;refine ZpL pl.isList pl2.isList ?_ (by omega);exact⟨.ref _,_,I.lnew (t':=s.toks) (r.append r2) (by rw[List.length_append];omega),rfl,q _ I.fresh⟩
theorem Zh9:∀{bs:List Bool} {us:List Value},Yb (bs.map V.bl) us->LSm.BoolsAre us bs
 |[],us,r=>by
  rw[List.map_nil] at r
  cases r;exact .nil
 |b::bs,us,r=>by
  rw[List.map_cons] at r
  cases r with
  |cons r1 r2=>
   cases(show _=Value.bool b from r1);exact .cons b (Zh9 r2)
end
def Ext:L2.St->L2.St->Prop
 |[],[]=>True
 |none::a,_::b=>Ext a b
 |some v::a,w::b=>w=some v/\Ext a b
 |_,_=>False
theorem Ext.len:∀{a b:L2.St},Ext a b->a.length=b.length
 |[],[],_=>rfl
 |none::a,_::b,h=>by
  have h:Ext a b:=h;simp[h.len]
 |some v::a,w::b,h=>by
  have h:w=some v/\Ext a b:=h;simp[h.2.len]
 |[],_::_,h=>h.elim
 |none::_,[],h=>h.elim
 |some _::_,[],h=>h.elim
theorem Ext.get:∀{a b:L2.St},Ext a b->∀(i:Nat) (v:V),a[i]? =some (some v)->b[i]? =some (some v)
 |[],[],_,i,v,e=>by simp at e
 |none::a,_::b,h,i,v,e=>by
  have h:Ext a b:=h;cases i with
  |zero=>simp at e
  |succ i=>simpa using h.get i v (by simpa using e)
 |some z::a,w::b,h,i,v,e=>by
  have h:w=some z/\Ext a b:=h;cases i with
  |zero=>
   have e':z=v:=by simpa using e
   subst e';rw[h.1]
   rfl
  |succ i=>simpa using h.2.get i v (by simpa using e)
 |[],_::_,h,_,_,_=>h.elim
 |none::_,[],h,_,_,_=>h.elim
 |some _::_,[],h,_,_,_=>h.elim
def frY(own:List Str)(fr:List (Str×Nat))(σ:L2.St):L2.St:=own.map (fun _=>none)++fr.map fun p=>σ.getD p.2 none
def nmY(own:List Str)(fr:List (Str×Nat)):List Str:=own++fr.map (·.1)
def Jc(X:Cx)(N:List Str)(scope:Scope)(cl:List (Str×Addr))(C:Addr)(s:Shared)(H:Hp)(fp:List Addr):Cx:=
 {X with N:=N,s₀:=s,H₀:=H,env:=compEnvC scope cl C X.env,outer:=X.stack,stack:=X.stack,ex:=fp,fn:=fun _=>false,pn:=[],xe:=fun _ _=>False}
def Zlw:Option NameKind->Bool
 |some .cell=>true
 |some .free=>true
 |_=>false
theorem Zjn{o:Option NameKind}(h:Zlw o=true):o=some .cell\/o=some .free:=by
 cases o with
 |none=>cases h
 |some k=>cases k<;>first|exact .inl rfl|exact .inr rfl|cases h
def Zlx(X:Cx)(scope:Scope):List (Str×Nat)->Prop
 |[]=>True
 |p::r=>(X.N[p.2]? =some p.1/\Zlw (X.env.scope.names.lookup p.1)=true/\Zlw ((relabel scope X.env).names.lookup p.1)=true)/\Zlx X scope r
theorem Zlx.mem{X:Cx}{scope:Scope}:∀{fr:List (Str×Nat)},Zlx X scope fr->∀p∈fr,X.N[p.2]? =some p.1/\Zlw (X.env.scope.names.lookup p.1)=true/\Zlw ((relabel scope X.env).names.lookup p.1)=true
 |[],_,p,hp=>by simp at hp
 |q::r,h,p,hp=>by
  have h:_/\Zlx X scope r:=h;rcases List.mem_cons.mp hp with rfl|hmore
  ·exact h.1
  ·exact h.2.mem p hmore
def Zly(X:Cx):List (Str×Addr)->Prop
 |[]=>True
 |p::r=>X.env.cells.lookup p.1=some p.2/\Zly X r
theorem Zly.get{X:Cx}:∀{cl:List (Str×Addr)},Zly X cl->∀x c,cl.lookup x=some c->X.env.cells.lookup x=some c
 |[],_,x,c,e=>by simp at e
 |(n,a)::r,h,x,c,e=>by
  have h:X.env.cells.lookup n=some a/\Zly X r:=h
  by_cases hx:x=n
  ·subst hx;simp only [List.lookup_cons,beq_self_eq_true] at e
   cases e;exact h.1
  ·have hb:(x==n)=false:=by simpa using hx
   simp only [List.lookup_cons,hb] at e
   exact h.2.get x c e
def Zeo(scope:Scope)(env:Env)(cl:List (Str×Addr)):Bool:=
 scope.kind==.function&&scope.names.all (fun y=>y.2 !=.cell)&&scope.names.all (fun y=>y.2 !=.local||scope.names.lookup y.1==some .local)&&
 (relabel scope env).names.all (fun y=> !Zlw (some y.2)||(cl.lookup y.1).isSome)
def Zkq:TT:=fun _ H Q=>Q true H
def PTs(X:Cx)(ifs:List Expr)(t:TT):Prop:=
 ∀(pins:List (Addr×Obj)) (s:Shared) (σ:L2.St) (H:Hp) (Q:Bool->Hp->Prop),Inv X pins σ H s->t σ H Q->
  wpAny (model X.prog X.w) X.A (forIn ifs true fun c r=>if r=true then do let ok<-isTrue c X.env (eval c X.env);pure (ForInStep.yield ok) else pure (ForInStep.yield r)) (TP X pins σ Q) X.xe s
theorem Ze3{X:Cx}:PTs X [] Zkq:=fun _ _ _ H _ I h=>wpAny_tests_nil ⟨H,I,h⟩
theorem JM{X:Cx}{c:Expr}{t:TT}(h:PT X c t):PTs X [c] t:=fun pins s σ H Q I q=>wpAny_tests_one (h pins s σ H Q I q)
theorem ZpM{prog:Program}{w:World}{A:Around}{R:Result->Shared->Prop}{s:Shared}{elt tg iter:Expr}{ifs:List Expr}{scope:Scope}{pos:Pos}{it acc:Value}{env:Env}(J:Nat->Shared->Prop)
  (turn:∀n s,J n s->∀E:Value->Shared->Prop,wpAny (model prog w) A (pyNext it) (fun r s₁=>(r=none/\R (.ok .next) s₁)\/∃v,r=some v/\
    wpAny (model prog w) A (letOwnedTupleGo tg it v) (fun _ s₂=>wpAny (model prog w) A (assign tg env v) (fun _ s₃=>
     wpAny (model prog w) A (forIn ifs true fun c r=>if r=true then do let ok<-isTrue c env (eval c env);pure (ForInStep.yield ok) else pure (ForInStep.yield r)) (fun ok s₄=>
      (ok=true/\wpAny (model prog w) A (eval elt env) (fun x s₅=>wpAny (model prog w) A (call (.builtin "list.append") [acc,x]) (fun _ s₆=>∃m,m<n/\J m s₆) E s₅) E s₄)\/
      (ok=false/\∃m,m<n/\J m s₄)) E s₃) E s₂) E s₁) E s)
  (n:Nat)(h:J n s):codeAny (model prog w) A (.compLoop (.ListComp elt [⟨tg,iter,ifs,0⟩] scope pos) 0 it acc env) R s:=by
 refine codeAny_loop rfl J (fun n s hJ=> ?_) n h;show wpAny _ A ((compTurn (.ListComp elt [⟨tg,iter,ifs,0⟩] scope pos) 0 it acc env).onRaise (fun x=>do noteFrame x env;theTreesLotGoes x)) _ _ s
 refine wpAny_noted ?_;rw[compTurn_list];refine wpAny_bind (wpAny_standAt (wpAny_bind (thn (turn n s hJ _) fun r s₁ h₁=> ?_)));rcases h₁ with ⟨rfl,h₁⟩|⟨v,rfl,h₁⟩
 ·exact wpAny_pure h₁
 ·refine wpAny_bind (thn h₁ fun _ s₂ h₂=>wpAny_bind (thn h₂ fun _ s₃ h₃=>wpAny_bind (thn h₃ fun ok s₄ h₄=> ?_)));rcases h₄ with ⟨rfl,h₄⟩|⟨rfl,h₄⟩
  ·exact wpAny_bind (wpAny_bind (thn h₄ fun x s₅ h₅=>wpAny_bind (thn h₅ fun _ s₆ h₆=>wpAny_pure (wpAny_pure ⟨rfl,h₆⟩))))
  ·exact wpAny_pure ⟨rfl,h₄⟩
def Zo5(J:It)(own:List Str)(fr:List (Str×Nat))(g:TG)(tc:TT)(te:TE)(σ:L2.St)(H1:Hp)(Q:VK):Prop:=∀D,H1 D=none->∃W:Nat->Nat->List V->Hp->Prop,(∃m,W 0 m [] (upd H1 D (.lst [])))/\
 ∀i m ys H2,W i m ys H2->H2 D=some (.lst ys)/\((J.stop i H2/\Q (.ref D) H2)\/(J.go i H2/\∃N:List V->Hp->Prop,(∀zs H',N zs H'->∃m',m'<m/\W (i+1) m' zs H')/\
  ∀x H',J.yld i H2 x H'->g x (frY own fr σ) H' fun σ3 H3=>Ext (frY own fr σ) σ3/\tc σ3 H3 fun b H4=>if b=true then te σ3 H4 fun v H5=>H5 D=some (.lst ys)/\ys.length<sizeLine/\N (ys++[v]) (upd H5 D (.lst (ys++[v]))) else N ys H4))
def Zo6(wi:TI)(own:List Str)(fr:List (Str×Nat))(g:TG)(tc:TT)(te:TE):TE:=fun σ H Q=>wi σ H fun J H1=>Zo5 J own fr g tc te σ H1 Q
theorem ZiK{X:Cx}{elt tg iter:Expr}{ifs:List Expr}{scope:Scope}{pos ipos:Pos}{wi:TI}{g:TG}{tc:TT}{te:TE}{cl:List (Str×Addr)}(own:List Str)(fr:List (Str×Nat))(hc:X.calm=true)(hi:PI X tg iter wi)
  (hclos:closureFor scope X.env=pure cl)(hcl:Zly X cl)(hok:Zeo scope X.env cl=true)(hfr:Zlx X scope fr)
  (hg:∀C s H fp,PG (Jc X (nmY own fr) scope cl C s H fp) tg g)(ht:∀C s H fp,PTs (Jc X (nmY own fr) scope cl C s H fp) ifs tc)(he:∀C s H fp,PE (Jc X (nmY own fr) scope cl C s H fp) elt te)
  (hs:∀x,foldedSetIterable iter X.env x=pure x){pins:List (Addr×Obj)}{s:Shared}{σ:L2.St}{H:Hp}{Q:VK}{use:Option (Value->Sem Unit)}{PQ:Value->Shared->Prop}(I:Inv X pins σ H s)(h:Zo6 wi own fr g tc te σ H Q)
  (hend:∀(s6:Shared) (H5:Hp) (C D:Addr) (m:Str->Option Value),Inv X pins σ H5 s6->s6.heap.Ns C m->Zia X pins H5 C->Q (.ref D) H5->compPost (model X.prog X.w) X.A X.xe use PQ (.ref D) C (.ok .next) s6):
  wpAny (model X.prog X.w) X.A (comprehension (.ListComp elt [⟨tg,iter,ifs,0⟩] scope pos) scope X.env ipos (newList []) false (eval iter X.env) use) PQ X.xe s:=by
 have ok1:scope.kind=.function:=by
  unfold Zeo at hok
  simp only [Bool.and_eq_true,beq_iff_eq] at hok
  exact hok.1.1.1
 have ok2:∀y∈scope.names,y.2≠.cell:=by
  unfold Zeo at hok
  simp only [Bool.and_eq_true,List.all_eq_true] at hok
  intro y hy
  simpa using hok.1.1.2 y hy
 have ok3:∀y∈scope.names,y.2=.local->scope.names.lookup y.1=some .local:=by
  unfold Zeo at hok
  simp only [Bool.and_eq_true,List.all_eq_true] at hok
  intro y hy e;have:=hok.1.2 y hy
  simpa [e] using this
 have ok4:∀x,(relabel scope X.env).names.lookup x=some .cell\/(relabel scope X.env).names.lookup x=some .free->∃c,cl.lookup x=some c:=by
  unfold Zeo at hok
  simp only [Bool.and_eq_true,List.all_eq_true] at hok
  intro x hx;have key:∀k,(relabel scope X.env).names.lookup x=some k->Zlw (some k)=true->∃c,cl.lookup x=some c:=fun k e hk=>by
   have:=hok.2 (x,k) (PySem.mem_of_lookup e);simp only [hk,Bool.not_true,Bool.false_or] at this
   exact Option.isSome_iff_exists.mp this
  rcases hx with e|e
  ·exact key _ e rfl
  ·exact key _ e rfl
 refine wpAny_comprehension_free (use:=use) rfl hs hclos ok1 ok3 ?_;refine thn (hi pins s σ H _ I h) fun v s1 h1=>thn h1 fun itv s2 h2=> ?_;obtain⟨it,fp,tn,J,H2,e,I2,T,st2,f2,hD⟩:=h2;subst e;have lt2:∀b∈fp,b<s2.heap.objs.size:=fun b hb=>by
  obtain⟨o,e,_⟩:=T.obj _ _ st2 b hb;exact Heap.lt_size e
 refine wpAny_newObj_type (wpAny_newFunctionEnv ok2 (by intro y hy;simp at hy) (fun h₁ hns₁ hsb₁=> ?_) ok1)
 obtain⟨W,⟨m0,w0⟩,turn⟩:=hD s2.heap.objs.size I2.fresh;have I3:Inv X pins σ (upd H2 s2.heap.objs.size (.lst [])) {s2 with heap:=s2.heap.push {cls:=.type "list",data:=.seq ([]:List Value).toArray}}:=I2.lnew (t':=s2.toks) .nil (Nat.zero_le _);have st3:=T.keep 0 _ (s2.heap.push {cls:=.type "list",data:=.seq ([]:List Value).toArray}) st2 fun b hb o e=>Heap.get?_push_of_some _ e;have f3:∀b∈fp,Zia X pins (upd H2 s2.heap.objs.size (.lst [])) b:=fun b hb=>⟨by rw[Zm (Nat.ne_of_lt (lt2 b hb))];exact(f2 b hb).1,(f2 b hb).2⟩
 generalize hs3:({s2 with heap:=s2.heap.push {cls:=.type "list",data:=.seq ([]:List Value).toArray}}:Shared)=s3 at I3
 have es3:s3.heap=s2.heap.push {cls:=.type "list",data:=.seq ([]:List Value).toArray}:=by rw[<-hs3]
 have eg3:s3.gens=s2.gens:=by rw[<-hs3]
 have lt3:∀b∈fp,b<s3.heap.objs.size:=fun b hb=>by rw[es3,Heap.size_push];exact Nat.lt_succ_of_lt (lt2 b hb)
 rw[<-es3] at st3
 have hns:h₁.Ns s3.heap.objs.size (fun x=>([]:List (Str×Value)).reverse.lookup x):=by rw[es3];exact hns₁
 have k34:∀b o,s3.heap.get? b=some o->h₁.get? b=some o:=fun b o e=>by
  have hsb:=hsb₁.extBut b o;rw[es3] at e
  exact hsb (Nat.ne_of_lt (Heap.lt_size e)) (Heap.get?_push_of_some _ e)
 generalize hs4:({s3 with heap:=h₁,toks:=s3.toks+([]:List (Str×Value)).length}:Shared)=s4;have es4:s4.heap=h₁:=by rw[<-hs4]
 have st4:tn 0 s4.heap:=T.keep 0 _ _ st3 fun b hb o e=>by rw[es4];exact k34 b o e
 have IY:Inv (Jc X (nmY own fr) scope cl s3.heap.objs.size s3 (upd H2 s2.heap.objs.size (.lst [])) fp) [] (frY own fr σ) (upd H2 s2.heap.objs.size (.lst [])) s4:=by
  refine⟨⟨I3.ok.mod,ok1,I3.ok.glob,I3.ok.blt,Nat.le_refl _,fun x y c e1 e2=>I3.ok.inj x y c (hcl.get x c e1) (hcl.get y c e2),fun x hx=>ok4 x hx,(fun x c z=>nomatch z),I3.ok.hd,I3.ok.frames,.inl rfl,
   fun b hb=>⟨Nat.ne_of_lt (lt3 b hb),fun x c e=>(f3 b hb).2.2.2.2.1 x c (hcl.get x c e)⟩,I3.bs,Nat.le_trans I3.ok.bsz I3.sz,fun b o e hb=> ?_,fun b hb z=> ?_,I3.stack,I3.stkFree⟩,
   by rw[<-hs4];rfl,by rw[<-hs4];exact I3.bare,Un.kept (by rw[es4];exact k34),⟨_,by rw[es4];exact hns,fun i x v e1 e2 e3=> ?_⟩,fun x c e=> ?_,I3.hok.fresh (Nat.le_refl _),fun x c e=>I3.freeC x c (hcl.get x c e),fun p hp=>absurd hp (by simp[Jc]),by rw[es4];exact I3.hok.kept k34, ?_⟩
  ·rcases(f3 b hb).2.2.2.1 with z|z
   ·exact I3.ok.noex b o e z
   ·exact absurd (Nat.lt_of_lt_of_le (Heap.lt_size (I3.ok.bs b o e).1) z) (Nat.lt_irrefl _)
  ·rcases List.mem_cons.mp (I3.stkSub b z) with q|q
   ·exact(f3 b hb).2.1 q
   ·exact(f3 b hb).2.2.1 q
  ·have e1:(own++fr.map (·.1))[i]? =some x:=e1;have e2:(own.map (fun _=>(none:Option V))++fr.map fun p=>σ.getD p.2 none)[i]? =some (some v):=e2;have hi:own.length<=i:=by
    refine Nat.le_of_not_lt fun hlt=> ?_;rw[List.getElem?_append_left (by simpa using hlt),List.getElem?_map] at e2
    cases q:own[i]? with
    |none=>rw[q] at e2;cases e2
    |some a=>rw[q] at e2;cases e2
   rw[List.getElem?_append_right hi,List.getElem?_map] at e1
   rw[List.getElem?_append_right (by simpa using hi),List.getElem?_map,List.length_map] at e2
   cases q:fr[i-own.length]? with
   |none=>rw[q] at e1;cases e1
   |some p=>
    rw[q] at e1 e2
    obtain rfl:p.1=x:=Option.some.inj e1;have e2:σ.getD p.2 none=some v:=Option.some.inj e2;have e4:σ[p.2]? =some (some v):=by
     rw[List.getD_eq_getElem?_getD] at e2
     cases z:σ[p.2]? with
     |none=>rw[z] at e2;cases e2
     |some a=>
      rw[z] at e2
      have e2:a=some v:=e2;rw[e2]
    obtain⟨n1,n2,n3⟩:=hfr.mem p (List.mem_of_getElem? q);obtain⟨m,hn,hl⟩:=I3.loc;have vis:Vis X.env.scope p.1:=.inr (Zjn n2);obtain⟨u,r,l⟩:=hl p.2 p.1 v n1 e4 vis;refine⟨u,r, ?_⟩;rcases l with ⟨k,_⟩|⟨_,c,e,z⟩
    ·have k:X.env.scope.names.lookup p.1=some .local:=k;rw[k] at n2;cases n2
    ·obtain⟨c',e'⟩:=ok4 p.1 (Zjn n3);have e'':=hcl.get _ _ e';rw[e] at e''
     cases e'';obtain⟨o,ho,hd⟩:=z;exact .inr ⟨Zjn n3,c,e',o,by rw[es4];exact k34 c o ho,hd⟩
  ·obtain⟨v,o,ho,hd⟩:=I3.cell x c (hcl.get x c e);exact⟨v,o,by rw[es4];exact k34 c o ho,hd⟩
  ·simp[frY,nmY,Jc]
 have fY:∀{H':Hp} {s':Shared},(∀b∈fp,H' b=none)->∀b∈fp,Zia (Jc X (nmY own fr) scope cl s3.heap.objs.size s3 (upd H2 s2.heap.objs.size (.lst [])) fp) [] H' b:=fun{H' _} hn b hb=>
  ⟨hn b hb,Nat.ne_of_lt (lt3 b hb),fun z=>by
   rcases List.mem_cons.mp (I3.stkSub b z) with q|q
   ·exact(f3 b hb).2.1 q
   ·exact(f3 b hb).2.2.1 q,.inl hb,fun x c e=>(f3 b hb).2.2.2.2.1 x c (hcl.get x c e),fun p hp=>absurd hp (by simp[Jc])⟩
 have loop:codeAny (model X.prog X.w) X.A (.compLoop (.ListComp elt [⟨tg,iter,ifs,0⟩] scope pos) 0 (.ref it) (.ref s2.heap.objs.size) (compEnvC scope cl s3.heap.objs.size X.env))
   (compPost (model X.prog X.w) X.A X.xe use PQ (.ref s2.heap.objs.size) s3.heap.objs.size) s4:=by
  refine ZpM (fun n s'=>∃i ys H',Inv (Jc X (nmY own fr) scope cl s3.heap.objs.size s3 (upd H2 s2.heap.objs.size (.lst [])) fp) [] (frY own fr σ) H' s'/\tn i s'.heap/\(∀b∈fp,H' b=none)/\W i n ys H') ?_ m0
   ⟨0,[],_,IY,st4,fun b hb=>(f3 b hb).1,w0⟩
  rintro n s5 ⟨i,ys,H5,I5,st5,fr5,w5⟩ E;obtain⟨d5,way⟩:=turn i n ys H5 w5;rcases way with ⟨stop,q⟩|⟨go,N,hN,step⟩
  ·refine thn (T.done (Jc X (nmY own fr) scope cl s3.heap.objs.size s3 (upd H2 s2.heap.objs.size (.lst [])) fp) rfl rfl rfl hc i [] s5 _ H5 E I5 (fY (s':=s5) fr5) st5 stop) fun r s6 ⟨hr,I6⟩=> .inl ⟨hr, ?_⟩;obtain⟨m,hn,_⟩:=I6.loc;have I7:Inv X pins σ H5 s6:=I3.call' (s':=s6) (ch:=fp) I6.os I6.base I6.hok I6.bare (fun b hb=>⟨(f3 b hb).2.2.2.1,(f3 b hb).2.1,(f3 b hb).2.2.2.2.1,(f3 b hb).2.2.2.2.2⟩);exact hend s6 H5 _ _ m I7 hn (I3.fpOk (Nat.le_refl _) I6.free) q
  ·refine thn (T.item (Jc X (nmY own fr) scope cl s3.heap.objs.size s3 (upd H2 s2.heap.objs.size (.lst [])) fp) rfl rfl rfl hc i [] s5 _ H5 E I5 (fY (s':=s5) fr5) st5 go) fun r s6 ⟨u,hr,h6⟩=> .inr ⟨u,hr, ?_⟩;refine thn h6 fun _ s7 ⟨x,H7,I7,r7,y7,st7,fr7⟩=> ?_;have I7':=I7.pinned (fY (s':=s7) fr7) (T.obj _ _ st7);refine up (thn (hg _ _ _ _ _ s7 _ H7 x u _ I7' r7 (step x H7 y7)) fun _ s8 ⟨σ8,H8,I8,x8,q8⟩=> ?_)
   refine up (thn (ht _ _ _ _ _ s8 σ8 H8 _ I8 q8) fun ok s9 ⟨H9,I9,q9⟩=> ?_);have again:∀{σ':L2.St} {H':Hp} {s':Shared} {zs:List V},Inv (Jc X (nmY own fr) scope cl s3.heap.objs.size s3 (upd H2 s2.heap.objs.size (.lst [])) fp) ([]++Zh0 fp s7.heap) σ' H' s'->Ext (frY own fr σ) σ'->N zs H'->
     ∃m,m<n/\∃i ys H',Inv (Jc X (nmY own fr) scope cl s3.heap.objs.size s3 (upd H2 s2.heap.objs.size (.lst [])) fp) [] (frY own fr σ) H' s'/\tn i s'.heap/\(∀b∈fp,H' b=none)/\W i m ys H':=fun{σ' H' s' zs} I' x' n'=>by
    obtain⟨m',hm,w'⟩:=hN zs H' n';refine⟨m',hm,i+1,zs,H',I'.unpinned.weak x'.len fun j v e=>x'.get j v e,T.keep _ _ _ st7 fun b hb o e=>(I'.pin (b,o) (List.mem_append_right _ (List.mem_append_right _ (ZcH hb e)))).1,fun b hb=> ?_,w'⟩;obtain⟨o,e,_⟩:=T.obj _ _ st7 b hb;exact(I'.pin (b,o) (List.mem_append_right _ (List.mem_append_right _ (ZcH hb e)))).2.1
   cases ok with
   |false=>
    rw[if_neg Bool.false_ne_true] at q9
    exact .inr ⟨rfl,again I9 x8 q9⟩
   |true=>
    rw[if_pos rfl] at q9
    refine .inl ⟨rfl,up (thn (he _ _ _ _ _ s9 σ8 H9 _ I9 q9) fun y s10 ⟨v10,H10,I10,r10,d10,z10,n10⟩=> ?_)⟩;refine up (thn (Yz _ s10 σ8 H10 (.ref s2.heap.objs.size) [v10] _ [y] (fun _ H'=>N (ys++[v10]) H') I10 rfl (.cons r10 .nil) ⟨s2.heap.objs.size,ys,v10,rfl,rfl,d10,z10,n10⟩) fun _ s11 ⟨v11,H11,I11,_,n11⟩=> ?_);exact again I11 x8 n11
 have Zei:codeAny (model X.prog X.w) X.A (.compStart (.ListComp elt [⟨tg,iter,ifs,0⟩] scope pos) 0 (.ref it) (.ref s2.heap.objs.size) (compEnvC scope cl s3.heap.objs.size X.env))
   (compPost (model X.prog X.w) X.A X.xe use PQ (.ref s2.heap.objs.size) s3.heap.objs.size) s4:=codeAny_compStart_list loop (T.self _ _ _ _ _ st4 loop)
 exact Zei
theorem Je{X:Cx}{elt tg iter:Expr}{ifs:List Expr}{scope:Scope}{pos:Pos}{wi:TI}{g:TG}{tc:TT}{te:TE}{cl:List (Str×Addr)}(own:List Str)(fr:List (Str×Nat))(hc:X.calm=true)(hi:PI X tg iter wi)
  (hclos:closureFor scope X.env=pure cl)(hcl:Zly X cl)(hok:Zeo scope X.env cl=true)(hfr:Zlx X scope fr)
  (hg:∀C s H fp,PG (Jc X (nmY own fr) scope cl C s H fp) tg g)(ht:∀C s H fp,PTs (Jc X (nmY own fr) scope cl C s H fp) ifs tc)(he:∀C s H fp,PE (Jc X (nmY own fr) scope cl C s H fp) elt te)
  (hs:∀x,foldedSetIterable iter X.env x=pure x:=by intro _;rfl):PE X (.ListComp elt [⟨tg,iter,ifs,0⟩] scope pos) (Zo6 wi own fr g tc te):=by
 intro pins s σ H Q I h;rw[eval_ListComp];refine ZiK (use:=none) own fr hc hi hclos hcl hok hfr hg ht he hs I h fun s6 H5 C D m I6 hn f q=>⟨m,hn,fun h' hs'=> ?_⟩
 exact⟨.ref D,H5,I6.turned (t':=s6.toks) (fun b o hb e=>(hs'.2 b hb).trans e) f.1 f.2.1 f.2.2.2.1 f.2.2.2.2.1 f.2.2.2.2.2,rfl,q⟩
theorem Zjo{X:Cx}{elt tg iter:Expr}{ifs:List Expr}{scope:Scope}{pos py spos:Pos}{y:Str}{i:Nat}{wi:TI}{g:TG}{tc:TT}{te:TE}{cl:List (Str×Addr)}(own:List Str)(fr:List (Str×Nat))(hN:X.N.Nodup)(hy:X.N[i]? =some y)(hx:Loc X.env.scope y)(hc:X.calm=true)(hi:PI X tg iter wi)
  (hclos:closureFor scope X.env=pure cl)(hcl:Zly X cl)(hok:Zeo scope X.env cl=true)(hfr:Zlx X scope fr)
  (hg:∀C s H fp,PG (Jc X (nmY own fr) scope cl C s H fp) tg g)(ht:∀C s H fp,PTs (Jc X (nmY own fr) scope cl C s H fp) ifs tc)(he:∀C s H fp,PE (Jc X (nmY own fr) scope cl C s H fp) elt te)
  (hs:∀x,foldedSetIterable iter X.env x=pure x:=by intro _;rfl)(hsw:swapsWith (.ListComp elt [⟨tg,iter,ifs,0⟩] scope pos) (some (.Name y py)) spos.line X.env=pure true:=by rfl)
  (hf:X.fn y=true\/X.env.scope.names.lookup y=some .local:=by first|exact .inl rfl|exact .inr rfl|assumption):
  PS X (.Assign [.Name y py] (.ListComp elt [⟨tg,iter,ifs,0⟩] scope pos) spos) (ZrG (Zo6 wi own fr g tc te) (ZnL i)):=by
 intro pins s σ H D' I h;rw[exec_Assign_Name_used y py _ spos hsw];refine wpAny_bind (wpAny_standAt (wpAny_bind (wpAny_bind ?_)));refine(thn (ZiK (use:=some (assign (.Name y py) X.env)) (PQ:=fun _ s'=>SP X pins D' .next s') own fr hc hi hclos hcl hok hfr hg ht he hs I h fun s6 H5 C D m I6 hn f q=> ?_) fun _ s' hq=>wpAny_pure (wpAny_pure hq));obtain⟨o,es,ep,ho,hrest⟩:=id hn;have I7:Inv X (pins++[(C,o)]) σ H5 s6:=I6.pins_of fun p hp=>by
  rcases List.mem_append.mp hp with old|z
  ·exact I6.pin p (List.mem_append_right _ old)
  ·have e:p=(C,o):=by simpa using z
   subst e;exact⟨ho,f.1,f.2.1,f.2.2.1,fun v z=>by rw[hrest.1] at z;cases z⟩
 refine thn (ZK (pos:=py) hN hy hx hf (pins++[(C,o)]) s6 σ H5 (.ref D) (.ref D) D'.nx I7 rfl q) fun _ s8 ⟨σ8,H8,I8,q8⟩=> ?_;have hC:=I8.pin (C,o) (List.mem_append_right _ (List.mem_append_right _ (by simp)));refine⟨m,hn.at' fun o' e=>by rw[ho] at e;cases e;exact hC.1,fun h' hs'=>⟨σ8,H8,I8.unpinned.turned (t':=s8.toks) (fun b o hb e=>(hs'.2 b hb).trans e) hC.2.1 f.2.1 f.2.2.2.1 f.2.2.2.2.1 f.2.2.2.2.2,q8⟩⟩
end L3
namespace L3
open PySem PySem.Spec PyProof.Rows L2
theorem Jk:bootBuiltins "len"=some (.builtin "len"):=by decide+kernel
theorem Zlz:bootBuiltins "abs"=some (.builtin "abs"):=by decide+kernel
theorem ZlA:bootBuiltins "max"=some (.builtin "max"):=by decide+kernel
theorem Zo7:bootBuiltins "min"=some (.builtin "min"):=by decide+kernel
theorem Zjp:bootBuiltins "int"=some (.type "int"):=by decide+kernel
theorem Zjq:bootBuiltins "list"=some (.type "list"):=by decide+kernel
theorem ZpN:bootBuiltins "dict"=some (.type "dict"):=by decide+kernel
theorem Zgg:bootBuiltins "reversed"=some (.type "reversed"):=by decide+kernel
structure Cal (P:Program) (w:World) (K:PySem.W.Frag) (mg:Str->Option Value) (base:Heap) (CX:CXT) (k:Nat) (x:Str) (ps:List Str) (sp:Sp):Prop where
 ex:∃(f:Addr) (fd:FuncData),mg x=some (.ref f)/\PySem.W.keepIn K (.ref f)=true/\Zdi K fd ps []/\Yr P w K mg base CX k f fd ps sp
section
variable {X:Cx} {CX:CXT} {k:Nat} {x:Str} {ps:List Str} {sp:Sp} {E:XK} {e:PySem.Expr} {es:List PySem.Expr} {t:TA} {p pos:Pos}
theorem ZX(c:Cal X.prog X.w X.K X.mg X.base CX k x ps sp)(hr:Za1 k X.A)(hg:Gl X x)(hx:Zbp CX X E)(ha:PA X (e::es) t)(hdb:(x==("__debug__":Str))=false:=by decide)
  (he:starEach (e::es) X.env=(false,eval e X.env)::starEach es X.env:=by rfl)(hpl:(backTo pos (starEach es X.env)).any (·.1)=false:=by rfl):PE X (.Call (.Name x p) (e::es) [] pos) (Zmn sp [] E t):=by
 obtain⟨f,fd,hm,hk,hb,F⟩:=c.ex;exact ZpC F hr hg hm hk hb .nil hx ha hdb he hpl
theorem Zr2(c:Cal X.prog X.w X.K X.mg X.base CX k x ps sp)(hr:Za1 k X.A)(hg:Gl X x)(hx:Zbp CX X E)(hdb:(x==("__debug__":Str))=false:=by decide):PE X (.Call (.Name x p) [] [] pos) (Zmn sp [] E ZnU):=by
 obtain⟨f,fd,hm,hk,hb,F⟩:=c.ex;exact ZnV F hr hg hm hk hb .nil hx hdb
end
theorem Zdk:∀{ns:List Int} {B:Nat},PySem.W.WData.weightAll (ns.map PySem.W.WData.int)<=B->∀i∈ns,Builtin.Int.intBits i<=B
 |[],_,_,i,hi=>by simp at hi
 |n::ns,B,h,i,hi=>by
  have h:PySem.W.WData.weight (.int n)+1+PySem.W.WData.weightAll (ns.map PySem.W.WData.int)<=B:=h;have e:PySem.W.WData.weight (.int n)=Builtin.Int.intBits n:=rfl;rw[e] at h
  rcases List.mem_cons.mp hi with rfl|hi
  ·omega
  ·exact Zdk (by omega) i hi
theorem ZpO{l:PySem.W.OpenLaw}{n:Nat}{q:Program}{loose:List Str}{XP:(Str->Option Value)->Heap->Prop}{YP:World->Heap->Prop}{d:DefRec}
  (hn:l.most=some n)(hdf:d.params.defaults=[])
  (call:∀(w:World) (s₀ s₁:Shared) (mg mb:Str->Option Value) (fa:Addr) (a:Addr) (vs:List Value) (ns:List Int),
   PySem.W.Ground q loose [] XP w s₀ mg mb s₁.heap->YP w s₁.heap->mg d.name=some (.ref fa)->
   s₁.heap.get? a=some {cls:=.type "list",data:=.seq vs.toArray}->IntsAre vs ns->ns.length<=n->(∀i∈ns,Builtin.Int.intBits i<=1048576)->s₁.gens= #[]->
   codeAny (model l.prog w) callerA (.call (.ref fa) ⟨[.ref a],[]⟩) (fun r s'=>r=.ok (.ret (.bool true))/\OldK s₁.heap s'.heap/\s'.os=s₁.os/\AllBare s'.gens) s₁):
  PySem.W.WalkO q loose XP YP l.row.toRowW d [] (fun f vs=>PySem.call f vs):=by
 intro w s₀ s₁ mg mb G Y fa o pm cd doc dV kV ho hdata hcode hD hmg hg args vals as hpre hlay hread hwl hlow;obtain rfl:dV=.none:=PySem.W.Dflts.none hD hdf;obtain rfl:kV=.none:=PySem.W.Dflts.noKw hD;obtain⟨a,vs,ns,rfl,rfl,hobj,hints,hlen⟩:=Att.script_of hn hpre hwl;have hb:∀i∈ns,Builtin.Int.intBits i<=1048576:=by
  have h1:PySem.W.WData.layableAll [PySem.W.WData.list (ns.map PySem.W.WData.int)]=true:=hlay;have h2:PySem.W.WData.layable (PySem.W.WData.list (ns.map PySem.W.WData.int))=true:=by simpa [PySem.W.WData.layableAll] using h1
  have h3:PySem.W.WData.weight (PySem.W.WData.list (ns.map PySem.W.WData.int))<=2^20:=by
   unfold PySem.W.WData.layable at h2
   rw[Bool.and_eq_true] at h2
   exact of_decide_eq_true h2.2
  exact Zdk (show PySem.W.WData.weightAll (ns.map PySem.W.WData.int)<=1048576 from h3)
 refine PySem.W.enter_call (codeAny_mono (call w s₀ s₁ mg mb fa a vs ns G Y hmg hobj hints hlen hb hg) fun r s' hq=> ?_);obtain⟨rfl,h2,h3,h4⟩:=hq;exact⟨.inl ⟨.bool true,.bool true,[],rfl,fun _=>rfl,.bool true,Att.post_true l _,fun _=>⟨List.Pairwise.nil,fun _ hm=>(nomatch hm)⟩⟩,h2,h3,h4⟩
def Zo8(K:PySem.W.Frag):Sp:=fun vs H Q _=>∃(a:Addr) (ns:List Int),vs=[.ref a]/\SqL K H a (ns.map V.int)/\ns.length<=63/\(∀i∈ns,Builtin.Int.intBits i<=1048576)/\∀H',Q (.bl true) H'
theorem Zs0{l:PySem.W.OpenLaw}{k:Nat}{q:Program}{loose:List Str}{XP:(Str->Option Value)->Heap->Prop}{YP:World->Heap->Prop}{d:DefRec}{K:Params->PySem.W.Frag}{x:Str}
  (hn:l.most=some 63)(hdf:d.params.defaults=[])(hr:Za1 k callerA)(hY:∀(w:World) (h:Heap),YP w h->(K w.params).In h)
  (F:∀(w:World) (mg:Str->Option Value) (fa:Addr) (h:Heap),(K w.params).In h->h.Ns mainGlobals mg->mg d.name=some (.ref fa)->
   ∃fd:FuncData,(∀(s:Shared) (u:Value),BindsTo s fd ⟨[u],[]⟩ [(x,u)])/\∀base:Heap,(K w.params).In base->base.Ns mainGlobals mg->Yr l.prog w (K w.params) mg base CX0 k fa fd [x] (Zo8 (K w.params))):
  PySem.W.WalkO q loose XP YP l.row.toRowW d [] (fun f vs=>PySem.call f vs):=by
 refine ZpO hn hdf fun w s₀ s₁ mg mb fa a vs ns G Y hmg hobj hints hlen hb hg=> ?_;have KX:=hY w _ Y;obtain⟨fd,hbd,hF⟩:=F w mg fa _ KX G.T.g hmg;exact Zo4 KX G.T.g G.T.b G.T.builtins G.T.nolimit hg hobj hints (Nat.le_trans hlen (by decide)) hr hF hbd (fun H hO hS=>⟨a,ns,rfl,hS,hlen,hb,fun _=>rfl⟩) fun H e s' z=>z
end L3
namespace L3
open PySem PySem.Spec PyProof.Rows L2 PySem.Builtin PySem.Builtin.Str
section
variable {X:Cx}
theorem Zf1:∀{ys:List Str} {us:List Value},Yb (ys.map V.str) us->StrsAre us ys
 |[],us,r=>by
  rw[List.map_nil] at r
  cases r;exact .nil
 |y::ys,us,r=>by
  rw[List.map_cons] at r
  cases r with
  |cons r1 r2=>
   obtain⟨t,e⟩:=r1;subst e;exact .cons y t (Zf1 r2)
theorem Zn2:MtR X "str.join" (fun x vs H Q=>∃z p ys,x=.str z/\vs=[.ref p]/\SqL X.K H p (ys.map V.str)/\(ys.map (·.length)).sum+ys.length*z.length<=16777216/\Q (.str (Txt.join z ys)) H):=by
 intro pins s σ H x xs v us Q I rx r h;obtain⟨z,p,ys,rfl,rfl,hS,hk,q⟩:=h;obtain⟨t,rfl⟩:=rx;obtain⟨u,rfl,r2⟩:=Zcm r;cases r2;obtain⟨its,rv,pl,_⟩:=I.list hS;exact join_list pl.isList (by simpa using Zf1 rv) hk fun t' k=>⟨.str _,H,I.tok _,⟨_,rfl⟩,q⟩
end
end L3
namespace M1
open PySem.Builtin PySem.Builtin.Str PySem
def cs(x:Str):List Nat:=x.cps.toList
theorem ext{x y:Str}(h:cs x=cs y):x=y:=Str.ext' (Array.toList_inj.mp h)
theorem ZlB(x y:Str):cs (x++y)=cs x++cs y:=by
 show(x.cps++y.cps).toList=_;rw[Array.toList_append]
 rfl
theorem Zo9(c:Nat):cs ⟨#[c]⟩=[c]:=rfl
theorem ZlC(x:Str):x.length=(cs x).length:=by
 show x.cps.size=x.cps.toList.length;rw[Array.length_toList]
end M1
namespace M2
open PySem M1
end M2
namespace L3
open PySem PySem.Spec PyProof.Rows L2
theorem Zoa{k:Key}{u:Value}(h:ZgW k u=true):ZV (kV k) u:=by
 rcases Xj h with ⟨i,t,rfl,rfl⟩|⟨x,t,rfl,rfl⟩
 ·exact⟨t,rfl⟩
 ·exact⟨t,rfl⟩
theorem ZqB{kvs:List (Key×V)}{vs:List (Key×Value)}(r:KV kvs vs):∀{i:Nat} {p:Key×V},kvs[i]? =some p->∃u,vs[i]? =some (p.1,u)/\ZV p.2 u:=by
 induction r with
 |nil=>intro i p e;simp at e
 |cons h _ ih=>
  intro i p e;cases i with
  |zero=>
   obtain rfl:=Option.some.inj ((List.getElem?_cons_zero ..).symm.trans e);refine⟨_, ?_,h.2⟩;rw[List.getElem?_cons_zero,h.1]
  |succ i=>
   rw[List.getElem?_cons_succ] at e
   obtain⟨u,e1,e2⟩:=ih e;exact⟨u,by rw[List.getElem?_cons_succ];exact e1,e2⟩
section
variable {X:Cx} {pins:List (Addr×Obj)} {σ:L2.St} {H:Hp} {s:Shared} {a n:Addr} {p q:HO}
theorem Zkr(I:L2.Inv X pins σ H s)(h:H a=some p)(h1:∀xs,p≠.tup xs)(h2:∀x,p≠.own x)(h3:∀t,p≠.tbl t)(hf:∀o u,X.H₀ a≠some (.frz o u))(ok:XM X.prog X.w H s.heap a q):L2.Inv X pins σ (upd H a q) s:=by
 have nn:∀b,H b=none->b≠a:=fun b e z=>by subst z;rw[h] at e;cases e
 refine⟨I.ok,I.os,I.bare,⟨I.base.keep,I.base.slot,fun b o e n hx=> ?_,I.base.there,fun b xs e=> ?_,fun b o u e=> ?_,fun b ps e=> ?_⟩,I.loc,I.cell, ?_,fun x c e=> ?_,fun z hz=> ?_,fun b u e=> ?_,I.len⟩
 ·rw[Zm (nn b (I.base.free b o e n hx))];exact I.base.free b o e n hx
 ·have e2:=I.base.tups b xs e;rw[Zm (fun z=>by subst z;rw[h] at e2;exact h1 xs (Option.some.inj e2))]
  exact e2
 ·rw[Zm (fun z=>by subst z;exact hf o u e)]
  exact I.base.frzs b o u e
 ·obtain⟨m,e2⟩:=I.base.tbls b ps e;exact⟨m,by rw[Zm (fun z=>by subst z;rw[h] at e2;exact h3 _ (Option.some.inj e2))];exact e2⟩
 ·rw[Zm (nn _ I.free)];exact I.free
 ·rw[Zm (nn _ (I.freeC x c e))];exact I.freeC x c e
 ·obtain⟨z1,z2,z3⟩:=I.pin z hz;exact⟨z1,by rw[Zm (nn _ z2)];exact z2,z3⟩
 ·have ho:∀c x,H c=some (.own x)->upd H a q c=some (.own x):=fun c x ec=>by
   rw[Zm (fun z=>by subst z;rw[h] at ec;exact h2 x (Option.some.inj ec))]
   exact ec
  have ht:∀c xs,H c=some (.tup xs)->upd H a q c=some (.tup xs):=fun c xs ec=>by
   rw[Zm (fun z=>by subst z;rw[h] at ec;exact h1 xs (Option.some.inj ec))]
   exact ec
  by_cases hb:b=a
  ·subst hb;rw[Zc] at e
   cases e;exact ok.stay (fun _ _ _ z=>z) (fun c z=>ho c _ z) ht
  ·rw[Zm hb] at e
   exact(I.hok b u e).stay (fun _ _ _ z=>z) (fun c z=>ho c _ z) ht
theorem Zha{kvs:List (Key×V)}(I:L2.Inv X pins σ H s)(h:H a=some (.dK kvs)):∃o,s.heap.get? a=some o/\L2.Inv X pins σ (upd H a (.frz o (.dK kvs))) s:=by
 obtain⟨z1,z2,vs,z3,o,es,ep,z4,z5⟩:=I.hok a _ h;refine⟨o,z4,Zkr I h (fun _ e=>nomatch e) (fun _ e=>nomatch e) (fun _ e=>nomatch e) (fun o' u e=> ?_) ⟨z4,I.hok a _ h⟩⟩;have:=I.base.frzs a o' u e;rw[h] at this
 cases this
theorem Zob{o:Obj}{u:HO}(I:L2.Inv X pins σ H s)(h:H a=some (.frz o u))(hf:∀o u,X.H₀ a≠some (.frz o u)):L2.Inv X pins σ (upd H a u) s:=
 Zkr I h (fun _ e=>nomatch e) (fun _ e=>nomatch e) (fun _ e=>nomatch e) hf (I.hok a _ h).2
theorem Zn3(I:L2.Inv X pins σ H s)(f:Zia X pins H n)(ok:XM X.prog X.w (upd H n q) s.heap n q):L2.Inv X pins σ (upd H n q) s:=by
 obtain⟨f0,f1,f2,f3,f4,f5⟩:=f;have ns:∀b u,H b=some u->b≠n:=fun b u e z=>by subst z;rw[f0] at e;cases e
 refine⟨I.ok,I.os,I.bare,⟨I.base.keep,I.base.slot,fun b o e m hx=> ?_,I.base.there,fun b xs e=> ?_,fun b o u e=> ?_,fun b ps e=> ?_⟩,I.loc,I.cell, ?_,fun x c e=> ?_,fun z hz=> ?_,fun b u e=> ?_,I.len⟩
 ·refine(Zm ?_).trans (I.base.free b o e m hx);rintro rfl;rcases f3 with z|z
  ·exact hx z
  ·exact absurd (Nat.lt_of_lt_of_le (Heap.lt_size e) z) (Nat.lt_irrefl _)
 ·have e2:=I.base.tups b xs e;rw[Zm (ns b _ e2)];exact e2
 ·have e2:=I.base.frzs b o u e;rw[Zm (ns b _ e2)];exact e2
 ·obtain⟨m,e2⟩:=I.base.tbls b ps e;exact⟨m,by rw[Zm (ns b _ e2)];exact e2⟩
 ·rw[Zm (Ne.symm f1)];exact I.free
 ·rw[Zm (f4 x c e)];exact I.freeC x c e
 ·obtain⟨z1,z2,z3⟩:=I.pin z hz;exact⟨z1,by rw[Zm (f5 z hz)];exact z2,z3⟩
 ·by_cases hb:b=n
  ·subst hb;rw[Zc] at e
   cases e;exact ok
  ·rw[Zm hb] at e
   exact(I.hok b u e).stay (fun _ _ _ z=>z) (fun c z=>by rw[Zm (ns c _ z)];exact z) fun c xs z=>by rw[Zm (ns c _ z)];exact z
end
theorem ZiL{P:Program}{w:World}{H:Hp}{h:Heap}{a:Addr}{o:Obj}{kvs:List (Key×V)}(ok:HOk P w H h)(e:H a=some (.frz o (.dK kvs))){es:Array DictEntry}{ep:Nat}(hd:o.data=.dict es ep):
  (a==sysModules)=false/\∃vs,KV kvs vs/\h.DictAt (Xe P w) a vs ep:=by
 obtain⟨ho,z1,z2,vs,z3,o',es',ep',z4,z5,z6,z7⟩:=ok a _ e;rw[ho] at z4
 cases z4;rw[hd] at z6
 cases z6;exact⟨z2,vs,z3,o,es,ho,z5,hd,z7⟩
def Itk(a:Addr)(o:Obj)(kvs:List (Key×V)):It:=
 ⟨fun i H=>H a=some (.frz o (.dK kvs))/\i<kvs.length,fun i H x H'=>H'=H/\∃kv,kvs[i]? =some kv/\x=kV kv.1,fun i H=>H a=some (.frz o (.dK kvs))/\kvs.length<=i⟩
def Iti(a:Addr)(o:Obj)(kvs:List (Key×V)):It:=
 ⟨fun i H=>H a=some (.frz o (.dK kvs))/\i<kvs.length,fun i H x H'=>∃kv p,kvs[i]? =some kv/\H p=none/\x=.ref p/\H'=upd H p (.tup [kV kv.1,kv.2]),fun i H=>H a=some (.frz o (.dK kvs))/\kvs.length<=i⟩
theorem Zn4{P:Program}{w:World}{K:PySem.W.Frag}{tg:PySem.Expr}(a it:Addr){o:Obj}{kvs:List (Key×V)}{es:Array DictEntry}{ep:Nat}(hd:o.data=.dict es ep)(n:Nat)(hn:n=kvs.length):
  ZmS P w K tg (Itk a o kvs) [it] it (fun i h=>h.IsKeyIter it a i n ep) where
 mem:=by simp
 obj:=fun i h st b hb=>by
  have e:b=it:=by simpa using hb
  subst e;obtain⟨o,e,c,d⟩:=st;exact⟨o,e,fun v z=>by rw[d] at z;cases z⟩
 keep:=fun i h h' st k=>st.at fun o e=>k it (by simp) o e
 item:=by
  intro X hP hw hK hc i pins s σ H E I hf st hg;subst hP hw hK;obtain⟨hz,hlt⟩:=hg;obtain⟨_,vs,rv,hm⟩:=ZiL I.hok hz hd;obtain⟨kv,hx⟩:∃kv,kvs[i]? =some kv:=⟨kvs[i],by simp[hlt]⟩
  obtain⟨u,hu,ru⟩:=ZqB rv hx;obtain⟨f0,f1,f2,f3,f4,f5⟩:=hf it (by simp);have el:n=vs.length:=by rw[hn];exact Paired.length rv
  rw[el] at st
  refine wpAny_pyNext_dict_item st hm hu fun key h' hk st' sb=> ?_;have I1:L2.Inv X pins σ H {s with heap:=h'}:=I.turned (t':=s.toks) (fun b o hb e=>(sb.2 b hb).trans e) f0 f1 f3 f4 f5;obtain⟨ob,e,c,d⟩:=id st';refine⟨key,rfl,Zmi (s:={s with heap:=h'}) e c d (by decide) ⟨kV kv.1,H,I1,Zoa hk,⟨rfl,kv,hx,rfl⟩, ?_,fun b hb=>(hf b hb).1⟩⟩;show h'.IsKeyIter it a (i+1) n ep;rw[el];exact st'
 done:=by
  intro X hP hw hK hc i pins s σ H E I hf st hg;subst hP hw hK;obtain⟨hz,hle⟩:=hg;obtain⟨_,vs,rv,hm⟩:=ZiL I.hok hz hd;have el:n=vs.length:=by rw[hn];exact Paired.length rv
  rw[el] at st
  obtain⟨f0,f1,f2,f3,f4,f5⟩:=hf it (by simp);exact wpAny_pyNext_dict_end (I.ok.hd hc) st hm (List.getElem?_eq_none (by omega)) fun h' eb=>⟨rfl,I.turned (t':=s.toks) (fun b o hb e=>eb b o hb e) f0 f1 f3 f4 f5⟩
 self:=fun _ _ _ _ _ st h=>wpAny_pyIter_keyiter st h
theorem ZlD{P:Program}{w:World}{K:PySem.W.Frag}{elts:List PySem.Expr}{x1:Nat}{pos:Pos}(a it:Addr){o:Obj}{kvs:List (Key×V)}{es:Array DictEntry}{ep:Nat}(hd:o.data=.dict es ep)(n:Nat)(hn:n=kvs.length):
  ZmS P w K (.Tuple elts x1 pos) (Iti a o kvs) [it] it (fun i h=>∃ok ov,IsItemIter h it a i n ep ok ov) where
 mem:=by simp
 obj:=fun i h st b hb=>by
  have e:b=it:=by simpa using hb
  subst e;obtain⟨ok,ov,e⟩:=st;exact⟨_,e,fun v z=>by cases z⟩
 keep:=fun i h h' ⟨ok,ov,e⟩ k=>⟨ok,ov,k it (by simp) _ e⟩
 item:=by
  intro X hP hw hK hc i pins s σ H E I hf st hg;subst hP hw hK;obtain⟨hz,hlt⟩:=hg;obtain⟨_,vs,rv,hm⟩:=ZiL I.hok hz hd;obtain⟨kv,hx⟩:∃kv,kvs[i]? =some kv:=⟨kvs[i],by simp[hlt]⟩
  obtain⟨u,hu,ru⟩:=ZqB rv hx;obtain⟨f0,f1,f2,f3,f4,f5⟩:=hf it (by simp);have el:n=vs.length:=by rw[hn];exact Paired.length rv
  rw[el] at st
  obtain⟨ok,ov,st⟩:=st;refine wpAny_pyNext_items_item st hm hu fun key h' hk st' nt sz kp=> ?_;refine⟨_,rfl,wpAny_letOwnedTupleGo_items (s:={s with heap:=h'}) st' fun h2 st2 sb2=> ?_⟩;have nit:s.heap.objs.size≠it:=fun z=>by
   exact absurd (Heap.lt_size st) (by rw[<-z];exact Nat.lt_irrefl _)
  have I1:L2.Inv X pins σ H {s with heap:=h2,toks:=s.toks}:=I.turned (t':=s.toks) (fun b o hb e=>(sb2.2 b hb).trans (kp b o hb e)) f0 f1 f3 f4 f5;have fn:=I.fpOk (H':=H) (Nat.le_refl _) (I.hok.fresh (Nat.le_refl _));have I2:=Zn3 (q:=.tup [kV kv.1,kv.2]) I1 fn ⟨by show 2<=sizeLine;rw[sizeLine_eq];decide,[key,u],.cons (Zoa hk) (.cons ru .nil),{cls:=.type "tuple",data:=.seq #[key,u]},(sb2.2 _ nit).trans nt,rfl,_,rfl⟩
  refine⟨.ref s.heap.objs.size,_,I2,rfl,⟨kv,_,hx,fn.1,rfl,rfl⟩,⟨key,u, ?_⟩,fun b hb=> ?_⟩
  ·show IsItemIter h2 it a (i+1) n ep key u;rw[el];exact st2
  ·have e:b=it:=by simpa using hb
   subst e;rw[Zm (Ne.symm nit)];exact f0
 done:=by
  intro X hP hw hK hc i pins s σ H E I hf st hg;subst hP hw hK;obtain⟨hz,hle⟩:=hg;obtain⟨_,vs,rv,hm⟩:=ZiL I.hok hz hd;have el:n=vs.length:=by rw[hn];exact Paired.length rv
  rw[el] at st
  obtain⟨ok,ov,st⟩:=st;obtain⟨f0,f1,f2,f3,f4,f5⟩:=hf it (by simp);exact wpAny_pyNext_items_end (I.ok.hd hc) st hm (List.getElem?_eq_none (by omega)) fun h' eb=>⟨rfl,I.turned (t':=s.toks) (fun b o hb e=>eb b o hb e) f0 f1 f3 f4 f5⟩
 self:=fun _ _ _ _ _ ⟨_,_,st⟩ h=>PySem.W.kcp_self st h
section
variable {X:Cx} {tg:PySem.Expr}
def Zs1(tl:TE):TI:=fun σ H R=>tl σ H fun x H1=>∃a kvs,x=.ref a/\H1 a=some (.dK kvs)/\∀o,R (Itk a o kvs) (upd H1 a (.frz o (.dK kvs)))
theorem ZpP{l:PySem.Expr}{tl:TE}(hl:PE X l tl):PI X tg l (Zs1 tl):=by
 intro pins s σ H R I h;refine thn (hl pins s σ H _ I h) fun v s1 ⟨x,H1,I1,r1,q1⟩=> ?_;obtain⟨a,kvs,e,hq,q⟩:=q1;subst e;cases r1;obtain⟨o,ho,I2⟩:=Zha I1 hq;obtain⟨z1,z2,vs0,z3,o',es,ep,z4,z5,z6,z7⟩:=I1.hok a _ hq;rw[ho] at z4
 cases z4;obtain⟨hs,vs,rv,hm⟩:=ZiL I2.hok Zc z6;have el:kvs.length=vs.length:=Paired.length rv;refine wpAny_pyIter_dict hs hm ?_;refine⟨s1.heap.objs.size,[s1.heap.objs.size],_,_,_,rfl,I2.kept (t':=s1.toks) fun b o e=>Heap.get?_push_of_some _ e,Zn4 a _ z6 vs.length el.symm,⟨_,Heap.get?_push_size _ rfl,rfl,rfl⟩,fun b hb=> ?_,q o⟩;have e:b=s1.heap.objs.size:=by simpa using hb
 subst e;exact I2.fpOk (Nat.le_refl _) (I2.hok.fresh (Nat.le_refl _))
def Xw(v a:Addr):HO:=.ext fun h=>h.IsItemsView v a
def Zr3(tl:TE):TE:=fun σ H Q=>tl σ H fun x H1=>∃a kvs,x=.ref a/\H1 a=some (.dK kvs)/\∀v,H1 v=none->Q (.ref v) (upd H1 v (Xw v a))
theorem Zhb{o:PySem.Expr}{to:TE}{apos cpos:Pos}(ho:PE X o to)
  (hbase:attributeBase o "items" X.env (eval o X.env)=eval o X.env:=by rfl)(hline:(apos.endLine==cpos.line)=true:=by rfl):PE X (.Call (.Attribute o "items" apos) [] [] cpos) (Zr3 to):=by
 intro pins s σ H Q I h;refine wpAny_Call_method0_late hbase hline (thn (ho pins s σ H _ I h) fun v s1 ⟨x,H1,I1,r1,a,kvs,e,ha,q1⟩=> ?_);subst e;cases r1;obtain⟨h1,h2⟩:=Zlr (T:="dict") (x:=.ref a) I1 rfl (.inr (.inr (.inl ⟨rfl,.inl ⟨kvs,ha⟩⟩)));obtain⟨z1,z2,vs,z3,z4⟩:=I1.hok a _ ha;refine⟨"dict","dict.items",F.plainAttrs_dict,F.slot_dict_items,F.type_dict_items,h1,h2,Calls.callWith_builtin rfl (PySem.evalArgs_none ?_)⟩
 refine call_meetsIn F.slot_dict_items h1 F.entry_dict_items (F.args_dict_items_1 _) (meets_dict_items (Xe X.prog X.w) a z2) ⟨⟨vs,z4⟩, ?_⟩;refine⟨.ref _,_,I1.laid (a:=s1.heap.objs.size) (o:=Xw s1.heap.objs.size a) (t':=s1.toks) (fun b q hq=>Heap.get?_push_of_some _ hq) (Nat.le_refl _) ?_,rfl,q1 _ I1.fresh⟩;refine⟨⟨_,Heap.get?_push_size _ rfl,rfl,rfl⟩,⟨_,Heap.get?_push_size _ rfl⟩,fun g1 g2 z k=> ?_⟩
 obtain⟨ob,e1,e2⟩:=z;exact⟨ob,k _ e1,e2⟩
def Zr4(tl:TE):TI:=fun σ H R=>tl σ H fun x H1=>∃v a kvs,x=.ref v/\H1 v=some (Xw v a)/\H1 a=some (.dK kvs)/\∀o,R (Iti a o kvs) (upd H1 a (.frz o (.dK kvs)))
theorem Zhc{l:PySem.Expr}{tl:TE}{elts:List PySem.Expr}{x1:Nat}{pos:Pos}(hl:PE X l tl):PI X (.Tuple elts x1 pos) l (Zr4 tl):=by
 intro pins s σ H R I h;refine thn (hl pins s σ H _ I h) fun v s1 ⟨x,H1,I1,r1,q1⟩=> ?_;obtain⟨v,a,kvs,e,hv,hq,q⟩:=q1;subst e;cases r1;have vw:s1.heap.IsItemsView v a:=(I1.hok v _ hv).1;obtain⟨o,ho,I2⟩:=Zha I1 hq;obtain⟨z1,z2,vs0,z3,o',es,ep,z4,z5,z6,z7⟩:=I1.hok a _ hq;rw[ho] at z4
 cases z4;obtain⟨hs,vs,rv,hm⟩:=ZiL I2.hok Zc z6;have el:kvs.length=vs.length:=Paired.length rv;refine wpAny_pyIter_items vw hm ?_;refine⟨s1.heap.objs.size,[s1.heap.objs.size],_,_,_,rfl,I2.kept (t':=s1.toks) fun b o e=>Heap.get?_push_of_some _ e,ZlD a _ z6 vs.length el.symm,⟨_,_,Heap.get?_push_size _ rfl⟩,fun b hb=> ?_,q o⟩;have e:b=s1.heap.objs.size:=by simpa using hb
 subst e;exact I2.fpOk (Nat.le_refl _) (I2.hok.fresh (Nat.le_refl _))
def Zr5(H₀:Hp)(a:Addr)(H H':Hp):Prop:=(∀o u,H₀ a≠some (.frz o u))/\∃o u,H a=some (.frz o u)/\H'=upd H a u
end
end L3
namespace L3
open PySem PySem.Spec PyProof.Rows L2
theorem Zmp{A B:Hp->Prop}{σ:L2.St}{H:Hp}(h:A H):Zkq σ H (fun b H5=>if b=true then A H5 else B H5):=by
 unfold Zkq;exact Zbb h
structure Zs2 (n:Nat) (Pv:Nat->List V->Hp->Prop) (D:Addr) (J:It) (own:List Str) (fr:List (Str×Nat)) (g:TG) (tc:TT) (te:TE) (σ:L2.St) (H:Hp) (Q:VK):Prop where
 hn:n<=sizeLine
 h0:Pv 0 [] (upd H D (.lst []))
 hlen:∀i ys H2,Pv i ys H2->ys.length<=i
 st:∀i ys zs H2 H3,H2 D=some (.lst zs)->(∀b u,b≠D->H2 b=some u->H3 b=some u)->Pv i ys H2->Pv i ys H3
 hgo:∀i ys H2,Pv i ys H2->i<n->J.go i H2
 hstop:∀ys H2,Pv n ys H2->H2 D=some (.lst ys)->J.stop n H2/\Q (.ref D) H2
 hstep:∀i x ys H2 H3,Pv i ys H2->H2 D=some (.lst ys)->i<n->J.yld i H2 x H3->∀(RT:V->Hp->Prop) (RF:Hp->Prop),(∀v H6,H6 D=some (.lst ys)->Pv (i+1) (ys++[v]) H6->RT v H6)->(∀H5,H5 D=some (.lst ys)->Pv (i+1) ys H5->RF H5)->
   g x (frY own fr σ) H3 fun σ3 H4=>Ext (frY own fr σ) σ3/\tc σ3 H4 fun b H5=>if b=true then te σ3 H5 RT else RF H5
theorem Zf2{J:It}{own:List Str}{fr:List (Str×Nat)}{g:TG}{tc:TT}{te:TE}{σ:L2.St}{H:Hp}{Q:VK}(h:∀D,H D=none->∃n Pv,Zs2 n Pv D J own fr g tc te σ H Q):Zo5 J own fr g tc te σ H Q:=by
 intro D hD;obtain⟨n,Pv,hn,h0,hlen,st,hgo,hstop,hstep⟩:=h D hD;refine⟨fun i m ys H2=>m=n-i/\i<=n/\H2 D=some (.lst ys)/\Pv i ys H2,⟨n,by simp,Nat.zero_le _,Zc,h0⟩, ?_⟩;rintro i m ys H2 ⟨rfl,hi,d2,p2⟩;refine⟨d2, ?_⟩
 by_cases hlt:i<n
 ·refine .inr ⟨hgo i ys H2 p2 hlt,fun zs H'=>H' D=some (.lst zs)/\Pv (i+1) zs H',fun zs H' ⟨e1,e2⟩=>⟨n-(i+1),by omega,rfl,hlt,e1,e2⟩,fun x H' y=> ?_⟩;have l2:=hlen i ys H2 p2;exact hstep i x ys H2 H' p2 d2 hlt y _ _ (fun v H6 e6 p6=>⟨e6,by omega,Zc,st _ _ _ _ _ e6 (fun b u nb e=>by rw[Zm nb];exact e) p6⟩) fun H5 e5 p5=>⟨e5,p5⟩
 ·have e:i=n:=by omega
  subst e;exact .inl (hstop ys H2 p2 d2)
theorem XC{J:It}{own:List Str}{fr:List (Str×Nat)}{g:TG}{tc:TT}{te:TE}{σ:L2.St}{H:Hp}{Q:VK}(n:Nat)(out:Nat->List V)(hn:n<=sizeLine)(ho:∀i,(out i).length<=1)
  (hgo:∀i H2,Zx H H2->i<n->J.go i H2)(hstop:∀H2,Zx H H2->J.stop n H2)
  (hstep:∀i x H2 H3,Zx H H2->i<n->J.yld i H2 x H3->∀(RT:V->Hp->Prop) (RF:Hp->Prop),(∀v H6,out i=[v]->Zx H2 H6->RT v H6)->(∀H5,out i=[]->Zx H2 H5->RF H5)->
   g x (frY own fr σ) H3 fun σ3 H4=>Ext (frY own fr σ) σ3/\tc σ3 H4 fun b H5=>if b=true then te σ3 H5 RT else RF H5)
  (q:∀D H2,H D=none->Zx H H2->H2 D=some (.lst ((List.range n).flatMap out))->Q (.ref D) H2):Zo5 J own fr g tc te σ H Q:=by
 have len:∀i,((List.range i).flatMap out).length<=i:=by
  intro i
  induction i with
  |zero=>simp
  |succ i ih=>
   have h1:=ho i;rw[List.range_succ,List.flatMap_append,List.length_append];simp only [List.flatMap_cons,List.flatMap_nil,List.append_nil];omega
 have nxt:∀i,(List.range (i+1)).flatMap out=(List.range i).flatMap out++out i:=fun i=>by
  rw[List.range_succ,List.flatMap_append];simp
 refine Zf2 fun D hD=>⟨n,fun i ys H2=>ys=(List.range i).flatMap out/\Zx H H2,hn,⟨rfl,fun b u e=>by rw[Zm (Zf e hD)];exact e⟩,fun i ys H2 p=>by rw[p.1];exact len i,fun i ys zs H2 H3 _ k p=>⟨p.1,fun b u e=>k b u (Zf e hD) (p.2 b u e)⟩,
  fun i ys H2 p lt=>hgo i H2 p.2 lt,fun ys H2 p d=>⟨hstop H2 p.2,q D H2 hD p.2 (by rw[<-p.1];exact d)⟩,fun i x ys H2 H3 p d lt y RT RF rt rf=> ?_⟩
 exact hstep i x H2 H3 p.2 lt y RT RF (fun v H6 e s=>rt v H6 (s _ _ d) ⟨by rw[nxt,e,p.1],p.2.trans s⟩) fun H5 e s=>rf H5 (s _ _ d) ⟨by rw[nxt,e,List.append_nil,p.1],p.2.trans s⟩
theorem JW{α β:Type}(f:α->β):∀l:List α,l.flatMap (fun a=>[f a])=l.map f
 |[]=>rfl
 |a::l=>by rw[List.flatMap_cons,List.map_cons,JW f l];rfl
theorem ZfG{α β:Type}(xs:List α)(f:α->β)(d:β):(List.range xs.length).map (fun i=>((xs[i]?).map f).getD d)=xs.map f:=by
 apply List.ext_getElem
 ·simp
 ·intro i h1 h2;have h3:i<xs.length:=by simpa using h1
  simp[h3]
theorem Jp{α β:Type}(f:α->List β):∀xs:List α,(List.range xs.length).flatMap (fun i=>((xs[i]?).map f).getD [])=xs.flatMap f
 |[]=>rfl
 |x::xs=>by
  rw[List.length_cons,List.range_succ_eq_map,List.flatMap_cons,List.flatMap_map,List.flatMap_cons,<-Jp f xs]
  rfl
theorem Zoc{J:It}{n:Nat}{g:TG}{tb:TS}{D:Zje}{σ:L2.St}{H:Hp}(Pv:Nat->L2.St->Hp->Prop)(h0:Pv 0 σ H)(hgo:∀i σ H,i<n->Pv i σ H->J.go i H)(hstop:∀σ H,Pv n σ H->J.stop n H/\D.nx σ H)
  (hs:∀i x σ H H',i<n->Pv i σ H->J.yld i H x H'->g x σ H' fun σ2 H2=>tb {D with nx:=Pv (i+1),ct:=Pv (i+1),bk:=D.nx} σ2 H2):
  ∃W:Nat->Nat->L2.St->Hp->Prop,(∃m,W 0 m σ H)/\∀i m σ H,W i m σ H->
   (J.stop i H/\D.nx σ H)\/(J.go i H/\∃N:L2.St->Hp->Prop,(∀σ' H',N σ' H'->∃m',m'<m/\W (i+1) m' σ' H')/\∀x H',J.yld i H x H'->g x σ H' fun σ2 H2=>tb {D with nx:=N,ct:=N,bk:=D.nx} σ2 H2):=by
 refine⟨fun i m σ H=>m=n-i/\i<=n/\Pv i σ H,⟨n,by simp,Nat.zero_le _,h0⟩, ?_⟩;rintro i m σ H ⟨rfl,hi,p⟩
 by_cases hlt:i<n
 ·exact .inr ⟨hgo i σ H hlt p,Pv (i+1),fun σ' H' p'=>⟨n-(i+1),by omega,rfl,hlt,p'⟩,fun x H' y=>hs i x σ H H' hlt p y⟩
 ·have e:i=n:=by omega
  subst e;exact .inl (hstop σ H p)
theorem Zod:bootBuiltins "any"=some (.builtin "any"):=by decide+kernel
theorem Zbh:bootBuiltins "sorted"=some (.builtin "sorted"):=by decide+kernel
theorem Zoe:bootBuiltins "tuple"=some (.type "tuple"):=by decide+kernel
section
variable {X:Cx} {pins:List (Addr×Obj)} {σ:L2.St} {H:Hp} {s:Shared}
theorem Zr6{h:Heap}{L:Addr}{m m':Str->Option Value}(a:h.Ns L m)(b:h.Ns L m'):m=m':=by
 obtain⟨o,es,ep,e1,e2,_,e3⟩:=a;obtain⟨o',es',ep',f1,f2,_,f3⟩:=b;rw[e1] at f1
 cases f1;rw[e2] at f2
 cases f2;exact funext fun x=>(e3 x).symm.trans (f3 x)
theorem ZlE{m:Str->Option Value}{g:Heap}{tk:Nat}{more:List (Addr×Obj)}(I:L2.Inv X pins σ H s)(hm:s.heap.Ns X.env.locals m)(F:Fr X.base X.env.locals g m)(N:News X.base X.env.locals g (more++ZgF X.base s.heap X.env.locals)):L2.Inv X pins σ H {s with heap:=g,toks:=tk}:=by
 have kp:∀b o,b≠X.env.locals->s.heap.get? b=some o->g.get? b=some o:=fun b o nb e=>by
  cases hb:X.base.get? b with
  |some o'=>
   have e2:=I.bk b o' hb;rw[e] at e2
   cases e2;exact F.keep b o hb
  |none=>exact(N (b,o) (List.mem_append_right _ (Zgc nb hb e))).1
 have nt:∀b u,H b=some u->b≠X.env.locals:=fun b u e z=>by rw[z,I.free] at e;cases e
 refine I.step (g':=s.gens) (d':=s.drawn) (ch:=[]) (fun _ z=>nomatch z) (fun b o nb _ _ e _=>kp b o nb e) (fun b o nb _ _ e _=>⟨o.slots,kp b o nb e⟩) (fun _ _ _ _ n=>n) (fun b o _ e=> ?_) (fun _ _ e=>e) (fun _ _ _ e=>e) (fun _ ps e=>⟨#[],by rw[e];simp⟩)
  (fun m' hm'=>by rw[Zr6 hm' hm];exact F.ns) (fun b u e=>(I.hok b u e).stay (fun c v hc z=>kp c v ?_ z) (fun _ z=>z) fun _ _ z=>z) I.bare
 ·by_cases nb:b=X.env.locals
  ·obtain⟨o',_,_,e',_⟩:=F.ns;exact⟨o',by rw[nb];exact e'⟩
  ·exact⟨o,kp b o nb e⟩
 ·rcases hc with rfl|hc
  ·exact nt _ _ e
  ·exact nt _ _ hc
end
section
variable {X:Cx}
theorem Zhd(hc:X.calm=true):Zbn X (.builtin "any") (fun xs H Q=>∃(p:Addr) (bs:List Bool),xs=[.ref p]/\SqL X.K H p (bs.map V.bl)/\Q (.bl (bs.any id)) H):=by
 intro pins s σ H xs us Q I r h;obtain⟨p,bs,rfl,hq,q⟩:=h;obtain⟨u,rfl,rx⟩:=Zcm r;cases rx;obtain⟨its,r',pl,hz⟩:=I.list hq;have hb:=Zh9 r';have hlt:p<s.heap.objs.size:=pl.lt;refine call_any_walk (wpAny_pyIter_list pl.isList ?_);refine⟨s.heap.objs.size,[s.heap.objs.size,p],[s.heap.objs.size],its.toArray.size,_,_,fun i=>(bs[i]?).getD false,rfl,Walks.list (A:=X.A.in1) (I.ok.hd hc) _ p (Nat.ne_of_lt hlt) its.toArray,
  ⟨⟨_,Heap.get?_push_size _ rfl,rfl,rfl⟩,pl.isList.push _⟩,fun i v s' Q' E' hP hQ=> ?_,fun h' tk hk=> ?_⟩
 ·obtain⟨bit,ebit,rfl⟩:=hb.get i v (by simpa using hP);simp only [ebit,Option.getD_some] at hQ
  exact wpAny_truthy_bool hQ
 ·have e:((List.range its.toArray.size).any fun i=>(bs[i]?).getD false)=bs.any id:=by
   rw[List.size_toArray,hb.length];exact LSm.range_any bs
  rw[e];exact⟨.bl (bs.any id),H,I.kept (LSm.kept_iter hk),rfl,q⟩
def Zof(ns:List Int)(M:Int):Prop:=M∈ns/\∀a∈ns,a<=M
theorem Zjr:Zbn X (.type "dict") (fun xs H Q=>∃a kvs,xs=[.ref a]/\Rd H a (.dK kvs)/\∀p,H p=none->Q (.ref p) (upd H p (.dK kvs))):=by
 intro pins s σ H xs us Q I r h;obtain⟨a,kvs,rfl,hq,q⟩:=h;obtain⟨u,rfl,rx⟩:=Zcm r;cases rx;exact Zo3 I hq fun p s' hp I'=>⟨.ref p,_,I',rfl,q p hp⟩
theorem Zjs{prog:Program}{w:World}{A:Around}{E:Value->Shared->Prop}{s:Shared}{a:Addr}{vs:List Value}{ss:List Str}{n:Nat}{Q:Value->Shared->Prop}(ho:s.heap.get? a=some (seqObj "list" vs.toArray n))(hS:StrsAre vs ss)(h64:vs.length<64)
  (h:∀(out:Array Value) (ss':List Str),StrsAre out.toList ss'->ss'.Perm ss->sortedS ss'=true->Q .none {s with heap:=sortedHeap s.heap a vs out}):
  wpAny (model prog w) A (call (.builtin "list.sort") [.ref a]) Q E s:=by
 refine wpAny_call_entry slot_list_sort ⟨_,ho,rfl⟩ entry_list_sort (list_sort_treeK strKind_oneLt ho hS.keysOf (fun v₁ v₂ rest e=>keyKind_strs (by rw[<-e];exact hS)) h64 fun st' hp hs=>⟨_,rfl, ?_⟩) (args_list_sort _)
 obtain⟨to,z⟩:=sorted_out_str hS hp hs;exact h _ to z.1 z.2.1 z.2.2
theorem Zf3:∀{us:List Value} {ys:List Str},StrsAre us ys->Yb (ys.map V.str) us
 |_,_,.nil=> .nil
 |_,_,.cons y t r=> .cons ⟨t,rfl⟩ (Zf3 r)
end
def Zhe(a:Addr)(kvs:List (Key×V))(H H2:Hp):Prop:=(∀b u,b≠a->H b=some u->H2 b=some u)/\∃o,H2 a=some (.frz o (.dK kvs))
theorem Zhe.of{a:Addr}{kvs:List (Key×V)}{H H2:Hp}{o:Obj}(s:Zx (upd H a (.frz o (.dK kvs))) H2):Zhe a kvs H H2:=⟨fun b u n e=>s b u (by rw[Zm n];exact e),o,s _ _ Zc⟩
theorem Zhe.thaw{H₀:Hp}{a:Addr}{kvs:List (Key×V)}{H H2:Hp}(f:Zhe a kvs H H2)(ha:H a=some (.dK kvs))(hf:∀o u,H₀ a≠some (.frz o u)):Zr5 H₀ a H2 (upd H2 a (.dK kvs))/\Zx H (upd H2 a (.dK kvs)):=by
 obtain⟨o,e⟩:=f.2;refine⟨⟨hf,o,_,e,rfl⟩,fun b u h=> ?_⟩
 by_cases hb:b=a
 ·subst hb;rw[ha] at h
  cases h;exact Zc
 ·rw[Zm hb];exact f.1 b u hb h
end L3
namespace L3
open PySem PySem.Spec PyProof.Rows L2
def EqP(P:Program)(w:World)(A:Around)(s:Shared)(y x:Value)(k:Bool):Prop:=∀(E:Value->Shared->Prop) (Q:Bool->Shared->Prop),Q k s->wpAny (model P w) A (eqBool y x) Q E s
def RcP(P:Program)(w:World)(A:Around)(s:Shared)(op:CmpOp)(y x:Value)(k:Bool):Prop:=∀(E:Value->Shared->Prop) (Q:Value->Shared->Prop),Q (.bool k) s->wpAny (model P w) A (richCompare op y x) Q E s
theorem EqP.refs{P:Program}{w:World}{A:Around}{s:Shared}{l b:Addr}{k:Bool}(n:l≠b)(h:RcP P w A s .Eq (.ref l) (.ref b) k):EqP P w A s (.ref l) (.ref b) k:=by
 intro E Q q;unfold eqBool;refine wpAny_holding (wpAny_ite_split (fun z=>absurd (Value.ref.inj (eq_of_beq z)) n) fun _=>wpAny_bind ?_);exact h E _ (wpAny_truthy_bool q)
abbrev Zks(d:Option Addr)(t:Array Value)(n:Nat)(sl:Array (Option Value)):Obj:={cls:=.type "list",dict:=d,data:=.seq t n,slots:=sl}
abbrev Zkt(d:Option Addr)(t:Array Value)(n:Nat)(sl:Array (Option Value)):Obj:={cls:=.type "tuple",dict:=d,data:=.seq t n,slots:=sl}
section
variable {P:Program} {w:World} (l b:Addr) (xs ys:Array Value) (n m:Nat) (d1 d2:Option Addr) (s1 s2:Array (Option Value)) (e:Nat->Bool)
theorem Zog(hz:xs.size=ys.size)(c:Int)(hc:c=2\/c=3)(k:Nat):∀i:Nat,xs.size-i=k->MeetsIn P w (Builtin.«list.__eq__.loop» ⟨[.ref l,.ref b,rawInt i,rawInt c],[]⟩)
  (fun A R s=>s.heap.get? l=some (Zks d1 xs n s1)/\s.heap.get? b=some (Zks d2 ys m s2)/\(∀j (h1:j<xs.size) (h2:j<ys.size),EqP P w A.in1 s xs[j] ys[j] (e j))/\
   R (.ok (.ret (.bool (if c=2 then((List.range xs.size).drop i).all e else !((List.range xs.size).drop i).all e)))) s):=by
 induction k with
 |zero=>
  intro i hk A R s h;obtain⟨hq,gs,dr,tk,oss⟩:=s;obtain⟨u1,u2,ue,q⟩:=h;have v1:xs[((i:Nat):Int).toNat]? =none:=by simp;omega
  have v2:ys[((i:Nat):Int).toNat]? =none:=by simp;omega
  have v3:(List.range xs.size).drop i=[]:=by simp;omega
  rw[v3] at q
  rcases hc with rfl|rfl
  ·wp_walk using AutoSeq1.wpAny_loadPart' u1,AutoSeq1.wpAny_loadPart' u2
   rw[v1,v2]
   wp_walk using AutoSeq1.wpAny_loadPart' u1,AutoSeq1.wpAny_loadPart' u2
   show R (.ok (.ret (.bool (xs.size==ys.size)))) _;rw[hz,beq_self_eq_true];exact q
  ·wp_walk using AutoSeq1.wpAny_loadPart' u1,AutoSeq1.wpAny_loadPart' u2
   rw[v1,v2]
   wp_walk using AutoSeq1.wpAny_loadPart' u1,AutoSeq1.wpAny_loadPart' u2
   show R (.ok (.ret (.bool (xs.size !=ys.size)))) _;rw[hz,bne_self_eq_false];exact q
 |succ k ih=>
  intro i hk A R s h;obtain⟨hq,gs,dr,tk,oss⟩:=s;obtain⟨u1,u2,ue,q⟩:=h;have t1:i<xs.size:=by omega
  have t2:i<ys.size:=by omega
  have v1:xs[((i:Nat):Int).toNat]? =some xs[i]:=by simp[t1]
  have v2:ys[((i:Nat):Int).toNat]? =some ys[i]:=by simp[t2]
  have v3:(List.range xs.size).drop i=i::(List.range xs.size).drop (i+1):=by simp[List.drop_eq_getElem_cons,t1]
  have v4:((i:Int)+1)=((i+1:Nat):Int):=by push_cast;rfl
  rw[v3,List.all_cons] at q
  rcases hc with rfl|rfl
  ·wp_walk using AutoSeq1.wpAny_loadPart' u1,AutoSeq1.wpAny_loadPart' u2
   rw[v1,v2];refine wpAny_bind (ue i t1 t2 _ _ ?_);cases ei:e i with
   |true=>
    rw[ei,Bool.true_and] at q
    wp_walk
    rw[v4];refine⟨plainId_quiet MeetsSeq3.plain_eq_loop _,codeAny_builtin MeetsSeq3.entry_eq_loop ?_⟩;rw[Around.under_plainId MeetsSeq3.plain_eq_loop _];exact ih (i+1) (by omega) A R _ ⟨u1,u2,ue,q⟩
   |false=>
    rw[ei,Bool.false_and] at q
    wp_walk using AutoSeq1.wpAny_loadPart' u1,AutoSeq1.wpAny_loadPart' u2
    rw[v1,v2]
    wp_walk
    exact q
  ·wp_walk using AutoSeq1.wpAny_loadPart' u1,AutoSeq1.wpAny_loadPart' u2
   rw[v1,v2];refine wpAny_bind (ue i t1 t2 _ _ ?_);cases ei:e i with
   |true=>
    rw[ei,Bool.true_and] at q
    wp_walk
    rw[v4];refine⟨plainId_quiet MeetsSeq3.plain_eq_loop _,codeAny_builtin MeetsSeq3.entry_eq_loop ?_⟩;rw[Around.under_plainId MeetsSeq3.plain_eq_loop _];exact ih (i+1) (by omega) A R _ ⟨u1,u2,ue,q⟩
   |false=>
    rw[ei,Bool.false_and] at q
    wp_walk using AutoSeq1.wpAny_loadPart' u1,AutoSeq1.wpAny_loadPart' u2
    rw[v1,v2]
    wp_walk
    exact q
theorem Zr7(hz:xs.size=ys.size):MeetsIn P w (Builtin.«list.__eq__» ⟨[.ref l,.ref b],[]⟩) (fun A R s=>s.heap.get? l=some (Zks d1 xs n s1)/\s.heap.get? b=some (Zks d2 ys m s2)/\
  (∀j (h1:j<xs.size) (h2:j<ys.size),EqP P w A.in1 s xs[j] ys[j] (e j))/\R (.ok (.ret (.bool ((List.range xs.size).all e)))) s):=by
 intro A R s h;obtain⟨hq,gs,dr,tk,oss⟩:=s;obtain⟨u1,u2,ue,q⟩:=h;have sub:=AutoSeq1.sub_list_list;have v0:¬(xs.size !=ys.size)=true:=by simp[hz]
 wp_walk using AutoSeq1.wpAny_loadPart' u1,AutoSeq1.wpAny_loadPart' u2
 refine⟨plainId_quiet MeetsSeq3.plain_eq_loop _,codeAny_builtin MeetsSeq3.entry_eq_loop ?_⟩;rw[Around.under_plainId MeetsSeq3.plain_eq_loop _];exact Zog l b xs ys n m d1 d2 s1 s2 e hz 2 (.inl rfl) _ 0 rfl A R _ ⟨u1,u2,ue,by simpa using q⟩
theorem Zr8(hz:xs.size=ys.size):MeetsIn P w (Builtin.«list.__ne__» ⟨[.ref l,.ref b],[]⟩) (fun A R s=>s.heap.get? l=some (Zks d1 xs n s1)/\s.heap.get? b=some (Zks d2 ys m s2)/\
  (∀j (h1:j<xs.size) (h2:j<ys.size),EqP P w A.in1 s xs[j] ys[j] (e j))/\R (.ok (.ret (.bool (!(List.range xs.size).all e)))) s):=by
 intro A R s h;obtain⟨hq,gs,dr,tk,oss⟩:=s;obtain⟨u1,u2,ue,q⟩:=h;have sub:=AutoSeq1.sub_list_list;have v0:¬(xs.size !=ys.size)=true:=by simp[hz]
 wp_walk using AutoSeq1.wpAny_loadPart' u1,AutoSeq1.wpAny_loadPart' u2
 refine⟨plainId_quiet MeetsSeq3.plain_eq_loop _,codeAny_builtin MeetsSeq3.entry_eq_loop ?_⟩;rw[Around.under_plainId MeetsSeq3.plain_eq_loop _];exact Zog l b xs ys n m d1 d2 s1 s2 e hz 3 (.inr rfl) _ 0 rfl A R _ ⟨u1,u2,ue,by simpa using q⟩
end
end L3
namespace L3
open PySem PySem.Spec PyProof.Rows L2
section
variable {P:Program} {w:World} (l b:Addr) (xs ys:Array Value) (n m:Nat) (d1 d2:Option Addr) (s1 s2:Array (Option Value)) (e:Nat->Bool)
abbrev Za6(xs ys:Array Value)(e:Nat->Bool)(i:Nat):Bool:=((List.range (min xs.size ys.size)).drop i).all e&&xs.size==ys.size
theorem Zs3:MeetsIn P w (Builtin.«tuple.__eq__» ⟨[.ref l,.ref b],[]⟩) (fun A R s=>s.heap.get? l=some (Zkt d1 xs n s1)/\s.heap.get? b=some (Zkt d2 ys m s2)/\
  (∀j (h1:j<xs.size) (h2:j<ys.size),EqP P w A.in1 s xs[j] ys[j] (e j))/\R (.ok (.ret (.bool (Za6 xs ys e 0)))) s):=
 .of_wp fun A R s h=>by
  obtain⟨hq,gs,dr,tk,oss⟩:=s;obtain⟨u1,u2,ue,q⟩:=h;have sub:=AutoSeq1.sub_tuple_tuple;have zl:(xs.toList.zip ys.toList).length=min xs.size ys.size:=by simp
  wp_walk using AutoSeq1.wpAny_loadPart' u1,AutoSeq1.wpAny_loadPart' u2,wpAny_forIn_list _ (fun rest a s'=>a.1=none/\s'=⟨hq,gs,dr,tk,oss⟩/\∃i,rest=(xs.toList.zip ys.toList).drop i/\
   R (.ok (.ret (.bool (Za6 xs ys e i)))) ⟨hq,gs,dr,tk,oss⟩) _
  case turn=>
   rintro⟨y,x⟩ rest a s' ⟨ha,rfl,i,zr,zq⟩;have lt:i<(xs.toList.zip ys.toList).length:=Nat.lt_of_not_le fun z=>by rw[List.drop_of_length_le z] at zr;cases zr
   have lm:i<min xs.size ys.size:=zl▸lt;have l1:i<xs.size:=by omega
   have l2:i<ys.size:=by omega
   rw[List.drop_eq_getElem_cons lt] at zr
   injection zr with zyx zrest
   obtain rfl:y=xs[i]:=by simpa using congrArg Prod.fst zyx
   obtain rfl:x=ys[i]:=by simpa using congrArg Prod.snd zyx
   have zd:(List.range (min xs.size ys.size)).drop i=i::(List.range (min xs.size ys.size)).drop (i+1):=by simp[List.drop_eq_getElem_cons,lm]
   unfold Za6 at zq
   rw[zd,List.all_cons] at zq
   refine wpAny_bind (ue i l1 l2 _ _ ?_);cases ei:e i with
   |true=>
    rw[ei,Bool.true_and] at zq
    wp_walk
    exact⟨rfl,rfl,i+1,zrest,zq⟩
   |false=>
    rw[ei,Bool.false_and,Bool.false_and] at zq
    wp_walk
    exact⟨_,rfl,zq⟩
  case fin=>
   rintro⟨a1,a2⟩ s' ⟨ha,rfl,i,zr,zq⟩;simp only at ha
   subst ha;have ge:min xs.size ys.size<=i:=Nat.le_of_not_lt fun z=>by rw[List.drop_eq_getElem_cons (zl▸z:i<(xs.toList.zip ys.toList).length)] at zr;cases zr
   unfold Za6 at zq
   rw[List.drop_of_length_le (by simpa using ge)] at zq
   wp_walk
   exact⟨_,rfl,by simpa [Builtin.Tuple.tupleCompareSizes] using zq⟩
  case h=>exact⟨rfl,rfl,0,rfl,q⟩
theorem Zs4:MeetsIn P w (Builtin.«tuple.__ne__» ⟨[.ref l,.ref b],[]⟩) (fun A R s=>s.heap.get? l=some (Zkt d1 xs n s1)/\s.heap.get? b=some (Zkt d2 ys m s2)/\
  (∀j (h1:j<xs.size) (h2:j<ys.size),EqP P w A.in1 s xs[j] ys[j] (e j))/\R (.ok (.ret (.bool (!Za6 xs ys e 0)))) s):=
 .of_wp fun A R s h=>by
  obtain⟨hq,gs,dr,tk,oss⟩:=s;obtain⟨u1,u2,ue,q⟩:=h;have sub:=AutoSeq1.sub_tuple_tuple;have zl:(xs.toList.zip ys.toList).length=min xs.size ys.size:=by simp
  wp_walk using AutoSeq1.wpAny_loadPart' u1,AutoSeq1.wpAny_loadPart' u2,wpAny_forIn_list _ (fun rest a s'=>a.1=none/\s'=⟨hq,gs,dr,tk,oss⟩/\∃i,rest=(xs.toList.zip ys.toList).drop i/\
   R (.ok (.ret (.bool (!Za6 xs ys e i)))) ⟨hq,gs,dr,tk,oss⟩) _
  case turn=>
   rintro⟨y,x⟩ rest a s' ⟨ha,rfl,i,zr,zq⟩;have lt:i<(xs.toList.zip ys.toList).length:=Nat.lt_of_not_le fun z=>by rw[List.drop_of_length_le z] at zr;cases zr
   have lm:i<min xs.size ys.size:=zl▸lt;have l1:i<xs.size:=by omega
   have l2:i<ys.size:=by omega
   rw[List.drop_eq_getElem_cons lt] at zr
   injection zr with zyx zrest
   obtain rfl:y=xs[i]:=by simpa using congrArg Prod.fst zyx
   obtain rfl:x=ys[i]:=by simpa using congrArg Prod.snd zyx
   have zd:(List.range (min xs.size ys.size)).drop i=i::(List.range (min xs.size ys.size)).drop (i+1):=by simp[List.drop_eq_getElem_cons,lm]
   unfold Za6 at zq
   rw[zd,List.all_cons] at zq
   refine wpAny_bind (ue i l1 l2 _ _ ?_);cases ei:e i with
   |true=>
    rw[ei,Bool.true_and] at zq
    wp_walk
    exact⟨rfl,rfl,i+1,zrest,zq⟩
   |false=>
    rw[ei,Bool.false_and,Bool.false_and] at zq
    wp_walk
    exact⟨_,rfl,zq⟩
  case fin=>
   rintro⟨a1,a2⟩ s' ⟨ha,rfl,i,zr,zq⟩;simp only at ha
   subst ha;have ge:min xs.size ys.size<=i:=Nat.le_of_not_lt fun z=>by rw[List.drop_eq_getElem_cons (zl▸z:i<(xs.toList.zip ys.toList).length)] at zr;cases zr
   unfold Za6 at zq
   rw[List.drop_of_length_le (by simpa using ge)] at zq
   wp_walk
   exact⟨_,rfl,by simpa [Builtin.Tuple.tupleCompareSizes,bne] using zq⟩
  case h=>exact⟨rfl,rfl,0,rfl,q⟩
end
theorem Zbi{c:Bool}{Q E:Value->Shared->Prop}{s:Shared}(q:Q (.bool c) s):wants (fun v s'=>v≠.notImplemented/\Q v s') E (.ok (.ret (.bool c))) s:=⟨(fun z=>nomatch z),q⟩
section
variable {P:Program} {w:World} {A:Around} {s:Shared} {l b:Addr} {xs ys:Array Value} {e:Nat->Bool}
theorem Zoh(hl:s.heap.IsList l xs)(hb:s.heap.IsList b ys)(hz:xs.size=ys.size)(hu:A.units<cLine)(he:∀j (h1:j<xs.size) (h2:j<ys.size),EqP P w A.in1 s xs[j] ys[j] (e j)):RcP P w A s .Eq (.ref l) (.ref b) ((List.range xs.size).all e)/\RcP P w A s .NotEq (.ref l) (.ref b) (!(List.range xs.size).all e):=by
 obtain⟨⟨c1,d1,t1,s1⟩,o1,k1,n,e1⟩:=id hl;obtain⟨⟨c2,d2,t2,s2⟩,o2,k2,m,e2⟩:=id hb;simp only at k1 e1 k2 e2
 subst k1 e1 k2 e2;exact⟨fun E Q q=>wpAny_richCompare_same_room hl.typeIs hb.typeIs F.slot_list_eq (call_meetsIn F.slot_list_eq hl.typeIs F.entry_list_eq (F.args_list_eq_2 _ _) (Zr7 l b xs ys n m d1 d2 s1 s2 e hz) ⟨o1,o2,he,Zbi q⟩) hu,
  fun E Q q=>wpAny_richCompare_same_room hl.typeIs hb.typeIs F.slot_list_ne (call_meetsIn F.slot_list_ne hl.typeIs F.entry_list_ne (F.args_list_ne_2 _ _) (Zr8 l b xs ys n m d1 d2 s1 s2 e hz) ⟨o1,o2,he,Zbi q⟩) hu⟩
theorem ZiM(hl:s.heap.IsList l xs)(hb:s.heap.IsList b ys)(hz:xs.size≠ys.size)(hu:A.units<cLine):RcP P w A s .Eq (.ref l) (.ref b) false/\RcP P w A s .NotEq (.ref l) (.ref b) true:=
 ⟨fun E Q q=>SeqAt.RcAt.lists_lengths hl hb (by simpa using hz) hu P w E Q q,fun E Q q=>SeqAt.RcNeAt.lists_lengths hl hb (by simpa using hz) hu P w E Q q⟩
theorem ZqC(hl:s.heap.IsTuple l xs)(hb:s.heap.IsTuple b ys)(hu:A.units<cLine)(he:∀j (h1:j<xs.size) (h2:j<ys.size),EqP P w A.in1 s xs[j] ys[j] (e j)):RcP P w A s .Eq (.ref l) (.ref b) (Za6 xs ys e 0)/\RcP P w A s .NotEq (.ref l) (.ref b) (!Za6 xs ys e 0):=by
 obtain⟨⟨c1,d1,t1,s1⟩,o1,k1,n,e1⟩:=id hl;obtain⟨⟨c2,d2,t2,s2⟩,o2,k2,m,e2⟩:=id hb;simp only at k1 e1 k2 e2
 subst k1 e1 k2 e2;exact⟨fun E Q q=>wpAny_richCompare_same_room hl.typeIs hb.typeIs F.slot_tuple_eq (call_meetsIn F.slot_tuple_eq hl.typeIs F.entry_tuple_eq (F.args_tuple_eq_2 _ _) (Zs3 l b xs ys n m d1 d2 s1 s2 e) ⟨o1,o2,he,Zbi q⟩) hu,
  fun E Q q=>wpAny_richCompare_same_room hl.typeIs hb.typeIs F.slot_tuple_ne (call_meetsIn F.slot_tuple_ne hl.typeIs F.entry_tuple_ne (F.args_tuple_ne_2 _ _) (Zs4 l b xs ys n m d1 d2 s1 s2 e) ⟨o1,o2,he,Zbi q⟩) hu⟩
def dEq(a b:List (Key×V)):Bool:=a.length==b.length&&a.all fun kv=>match YB b kv.1 with|some u=>eqV kv.2 u|none=>false
theorem Zmq{kb:List (Key×V)}{vb:List (Key×Value)}(rb:KV kb vb)(fb:∀kv∈kb,Xk kv.2=true){ka:List (Key×V)}{va:List (Key×Value)}(ra:KV ka va)(fa:∀kv∈ka,Xk kv.2=true):
  PySem.W.KeqHits A s vb va (ka.all fun kv=>match YB kb kv.1 with|some u=>eqV kv.2 u|none=>false):=by
 induction ra with
 |nil=>exact .nil
 | @cons p q ps qs h t ih=>
  obtain⟨k,v⟩:=p;obtain⟨k',u⟩:=q;obtain⟨e1,e2⟩:=h;have e1:k=k':=e1;subst e1;have e2:ZV v u:=e2;have fr:=ih fun kv hm=>fa kv (List.mem_cons_of_mem _ hm);have fv:Xk v=true:=fa (k,v) (List.mem_cons_self ..);have rv:=KV.val rb k;rw[List.all_cons];cases hv:YB kb k with
  |none=>
   rw[hv] at rv
   exact .miss (ZcG.none_of rv)
  |some y=>
   rw[hv] at rv
   cases hw:valueAt vb k with
   |none=>rw[hw] at rv;exact rv.elim
   |some u'=>
    rw[hw] at rv
    have fy:Xk y=true:=by
     unfold YB at hv
     cases hf:kb.find? (fun kv=>decide (kv.1=k)) with
     |none=>rw[hf] at hv;exact nomatch hv
     |some p=>rw[hf] at hv;cases hv;exact fb p (List.mem_of_find?_eq_some hf)
    exact .hit hw (Zh5 e2 rv fv fy) fr
theorem Zr9{ka kb:List (Key×V)}{va vb:List (Key×Value)}(ha:(l==sysModules)=false)(hb:(b==sysModules)=false)(da:s.heap.DictOf (Xe P w) l va)(db:s.heap.DictOf (Xe P w) b vb)(ra:KV ka va)(rb:KV kb vb)
  (fa:∀kv∈ka,Xk kv.2=true)(fb:∀kv∈kb,Xk kv.2=true)(hu:A.units<cLine):RcP P w A s .Eq (.ref l) (.ref b) (dEq ka kb)/\RcP P w A s .NotEq (.ref l) (.ref b) (!dEq ka kb):=by
 have e1:ka.length=va.length:=Paired.length ra;have e2:kb.length=vb.length:=Paired.length rb;unfold dEq;rw[e1,e2];exact⟨fun E Q q=>PySem.W.keq_eq ha hb da db hu (fun _=>Zmq rb fb ra fa) q,fun E Q q=>PySem.W.keq_ne ha hb da db hu (fun _=>Zmq rb fb ra fa) q⟩
end
end L3
namespace L3
open PySem PySem.Spec PyProof.Rows L2
inductive Dt where
 |v (x:V)|lst (ds:List Dt)|tup (ds:List Dt)|dct (kvs:List (Key×V))
inductive Rep (K:PySem.W.Frag) (H:Hp):Dt->V->Prop where
 |flat {x:V} (f:Xk x=true):Rep K H (.v x) x
 |lst {a:Addr} {ds:List Dt} {xs:List V} (h:SqL K H a xs) (r:Paired (Rep K H) ds xs):Rep K H (.lst ds) (.ref a)
 |tup {a:Addr} {ds:List Dt} {xs:List V} (h:SqT K H a xs) (r:Paired (Rep K H) ds xs):Rep K H (.tup ds) (.ref a)
 |dct {a:Addr} {kvs:List (Key×V)} (h:Rd H a (.dK kvs)) (f:∀kv∈kvs,Xk kv.2=true):Rep K H (.dct kvs) (.ref a)
abbrev Zf4(K:PySem.W.Frag)(H:Hp)(ds:List Dt)(xs:List V):Prop:=Paired (Rep K H) ds xs
def Xu:Nat->Dt->Dt->Bool
 |_,.v x,.v y=>eqV x y
 |n+1,.lst a,.lst b=>a.length==b.length&&(a.zip b).all fun p=>Xu n p.1 p.2
 |n+1,.tup a,.tup b=>(a.zip b).all (fun p=>Xu n p.1 p.2)&&a.length==b.length
 |_+1,.dct a,.dct b=>dEq a b
 |_,_,_=>false
def Zb6:Nat->Dt->Dt->Bool
 |_,.v _,.v _=>true
 |n+1,.lst a,.lst b=>(a.zip b).all fun p=>Zb6 n p.1 p.2
 |n+1,.tup a,.tup b=>(a.zip b).all fun p=>Zb6 n p.1 p.2
 |_+1,.dct _,.dct _=>true
 |_,_,_=>false
theorem Ji{x:V}(f:Xk x=true):eqV x x=true:=by
 cases x with
 |non=>rfl
 |bl b=>exact beq_self_eq_true b
 |int i=>exact beq_self_eq_true i
 |str z=>exact beq_self_eq_true z
 |_=>exact absurd (show false=true from f) Bool.false_ne_true
theorem Zoi{kvs:List (Key×V)}(nd:(kvs.map (·.1)).Nodup)(f:∀kv∈kvs,Xk kv.2=true):dEq kvs kvs=true:=by
 unfold dEq;rw[beq_self_eq_true,Bool.true_and,List.all_eq_true];intro kv hm;have e:YB kvs kv.1=some kv.2:=by
  clear f
  induction kvs with
  |nil=>cases hm
  |cons p r ih=>
   rw[List.map_cons,List.nodup_cons] at nd
   rcases List.mem_cons.mp hm with rfl|more
   ·exact Yv rfl
   ·rw[Ys (fun z=>nd.1 (by rw[z];exact List.mem_map.mpr ⟨kv,more,rfl⟩))]
    exact ih nd.2 more
 rw[e];exact Ji (f kv hm)
theorem Zra{H:Hp}{a:Addr}{k1 k2:List (Key×V)}(h1:Rd H a (.dK k1))(h2:Rd H a (.dK k2)):k1=k2:=by
 rcases h1 with h1|⟨o1,h1⟩<;>rcases h2 with h2|⟨o2,h2⟩<;>(rw[h1] at h2;cases h2;try rfl)
section
variable {X:Cx} {pins:List (Addr×Obj)} {σ:L2.St} {H:Hp} {s:Shared}
theorem Zoj{a:Addr}{kvs:List (Key×V)}(I:L2.Inv X pins σ H s)(h:Rd H a (.dK kvs)):(kvs.map (·.1)).Nodup:=by
 obtain⟨_,_,vs,rel,dd⟩:=Zco I.hok h;rw[KV.keys rel];obtain⟨ep,hat⟩:=dd.dictAt;exact hat.nodup
theorem Zok(I:L2.Inv X pins σ H s):∀(n:Nat) (d e:Dt) (x:V),Rep X.K H d x->Rep X.K H e x->Zb6 n d e=true->Xu n d e=true:=by
 have Xv:∀n,(∀(d e:Dt) (x:V),Rep X.K H d x->Rep X.K H e x->Zb6 n d e=true->Xu n d e=true)->∀{ds es:List Dt} {xs:List V},Zf4 X.K H ds xs->Zf4 X.K H es xs->((ds.zip es).all fun p=>Zb6 n p.1 p.2)=true->
   ds.length=es.length/\((ds.zip es).all fun p=>Xu n p.1 p.2)=true:=by
  intro n ih ds es xs r1
  induction r1 generalizing es with
  |nil=>intro r2 _;cases r2;exact⟨rfl,rfl⟩
  |cons h1 t1 ih2=>
   intro r2 lk;cases r2 with
   |cons h2 t2=>
    rw[List.zip_cons_cons,List.all_cons,Bool.and_eq_true] at lk
    obtain⟨z1,z2⟩:=ih2 t2 lk.2;refine⟨by simp[z1], ?_⟩;rw[List.zip_cons_cons,List.all_cons,Bool.and_eq_true];exact⟨ih _ _ _ h1 h2 lk.1,z2⟩
 intro n
 induction n with
 |zero=>
  intro d e x h1 h2 lk;cases h1 with
  |flat f=>
   cases h2 with
   |flat f2=>exact Ji f
   |_=>cases f
  |_=>cases h2<;>cases lk
 |succ n ih=>
  intro d e x h1 h2 lk;cases h1 with
  |flat f=>
   cases h2 with
   |flat f2=>exact Ji f
   |_=>cases f
  |lst q1 r1=>
   cases h2 with
   |lst q2 r2=>
    cases I.list_inj q1 q2;obtain⟨z1,z2⟩:=Xv n ih r1 r2 lk;show(_==_&&_)=true;rw[z1,beq_self_eq_true,Bool.true_and];exact z2
   |_=>cases lk
  |tup q1 r1=>
   cases h2 with
   |tup q2 r2=>
    cases I.tuple_inj q1 q2;obtain⟨z1,z2⟩:=Xv n ih r1 r2 lk;show(_&&_==_)=true;rw[z1,beq_self_eq_true,Bool.and_true];exact z2
   |_=>cases lk
  |dct q1 f1=>
   cases h2 with
   |dct q2 f2=>
    cases Zra q1 q2;exact Zoi (Zoj I q1) f1
   |_=>cases lk
theorem ZgK{n:Nat}{f:Nat->Dt->Dt->Bool}:∀(ds es:List Dt),((ds.zip es).all fun p=>f n p.1 p.2)=(List.range (min ds.length es.length)).all fun j=>f n (ds.getD j (.v .non)) (es.getD j (.v .non))
 |[],es=>by simp
 |_::_,[]=>by simp
 |d::ds,e::es=>by
  rw[List.zip_cons_cons,List.all_cons,ZgK ds es,List.length_cons,List.length_cons,Nat.succ_min_succ,List.range_succ_eq_map,List.all_cons,List.all_map]
  rfl
theorem Ze4{K:PySem.W.Frag}:∀{ds:List Dt} {xs:List V} {us:List Value} (_:Zf4 K H ds xs) (_:Yb xs us) (j:Nat) (h:j<us.length),∃x,Rep K H (ds.getD j (.v .non)) x/\ZV x us[j]
 |_,_,_,.nil,.nil,j,h=>absurd h (Nat.not_lt_zero _)
 |_,_,_,.cons r _,.cons v _,0,_=>⟨_,r,v⟩
 |_,_,_,.cons _ t,.cons _ vt,j+1,h=>by
  obtain⟨x,a,b⟩:=Ze4 t vt j (by simpa using h);exact⟨x,a,b⟩
theorem Zmr(I:L2.Inv X pins σ H s):∀(n:Nat) (d e:Dt) (x y:V) (u v:Value) (A:Around),Rep X.K H d x->Rep X.K H e y->ZV x u->ZV y v->Zb6 n d e=true->A.units+n<cLine->
  EqP X.prog X.w A s u v (Xu n d e)/\(Xk x=false->RcP X.prog X.w A s .Eq u v (Xu n d e)/\RcP X.prog X.w A s .NotEq u v (!Xu n d e)):=by
 have flatEq:∀{x y:V} {u v:Value} {A:Around},Xk x=true->Xk y=true->ZV x u->ZV y v->EqP X.prog X.w A s u v (eqV x y):=fun fx fy rx ry E Q q=>Zh5 rx ry fx fy X.prog X.w E Q q;have refl:∀{n:Nat} {d e:Dt} {a b:Addr} {A:Around},Rep X.K H d (.ref a)->Rep X.K H e (.ref b)->Zb6 n d e=true->(RcP X.prog X.w A s .Eq (.ref a) (.ref b) (Xu n d e)/\RcP X.prog X.w A s .NotEq (.ref a) (.ref b) (!Xu n d e))->
   EqP X.prog X.w A s (.ref a) (.ref b) (Xu n d e)/\(Xk (.ref a)=false->RcP X.prog X.w A s .Eq (.ref a) (.ref b) (Xu n d e)/\RcP X.prog X.w A s .NotEq (.ref a) (.ref b) (!Xu n d e)):=fun{n d e a b A} h1 h2 lk rc=>by
  refine⟨?_,fun _=>rc⟩
  by_cases hab:a=b
  ·subst hab;rw[Zok I n d e _ h1 h2 lk];exact fun E Q q=>SeqAt.EqAt.same _ X.prog X.w E Q q
  ·exact EqP.refs hab rc.1
 have item:∀n,(∀(d e:Dt) (x y:V) (u v:Value) (A:Around),Rep X.K H d x->Rep X.K H e y->ZV x u->ZV y v->Zb6 n d e=true->A.units+n<cLine->
   EqP X.prog X.w A s u v (Xu n d e)/\(Xk x=false->RcP X.prog X.w A s .Eq u v (Xu n d e)/\RcP X.prog X.w A s .NotEq u v (!Xu n d e)))->∀{A:Around} {ds es:List Dt} {xs ys:List V} {us vs:List Value},Zf4 X.K H ds xs->Zf4 X.K H es ys->Yb xs us->Yb ys vs->
   ((ds.zip es).all fun p=>Zb6 n p.1 p.2)=true->A.units+(n+1)<cLine->∀j (h1:j<us.toArray.size) (h2:j<vs.toArray.size),EqP X.prog X.w A.in1 s us.toArray[j] vs.toArray[j] (Xu n (ds.getD j (.v .non)) (es.getD j (.v .non))):=by
  intro n ih A ds es xs ys us vs r1 r2 v1 v2 lk hu j h1 h2;have l1:j<us.length:=by simpa using h1
  have l2:j<vs.length:=by simpa using h2
  obtain⟨x,a1,b1⟩:=Ze4 r1 v1 j l1;obtain⟨y,a2,b2⟩:=Ze4 r2 v2 j l2;have e1:=Paired.length r1;have e2:=Paired.length r2;have e3:=v1.length;have e4:=v2.length;rw[ZgK (f:=Zb6),List.all_eq_true] at lk
  have lkj:=lk j (List.mem_range.mpr (by omega));have:=(ih _ _ x y us[j] vs[j] A.in1 a1 a2 b1 b2 lkj (by show A.units+1+n<cLine;omega)).1
  simpa using this
 intro n
 induction n with
 |zero=>
  intro d e x y u v A h1 h2 rx ry lk hu;cases h1 with
  |flat f=>
   cases h2 with
   |flat f2=>exact⟨flatEq f f2 rx ry,fun z=>by rw[f] at z;cases z⟩
   |_=>cases lk
  |_=>cases h2<;>cases lk
 |succ n ih=>
  intro d e x y u v A h1 h2 rx ry lk hu;have hu0:A.units<cLine:=by omega
  cases h1 with
  |flat f=>
   cases h2 with
   |flat f2=>exact⟨flatEq f f2 rx ry,fun z=>by rw[f] at z;cases z⟩
   |_=>cases lk
  | @lst a ds xs q1 r1=>
   cases h2 with
   | @lst b es ys q2 r2=>
    cases rx;cases ry;refine refl (.lst q1 r1) (.lst q2 r2) lk ?_;obtain⟨us,v1,p1,_⟩:=I.list q1;obtain⟨vs,v2,p2,_⟩:=I.list q2;have e1:=Paired.length r1;have e2:=Paired.length r2;have e3:=v1.length;have e4:=v2.length
    by_cases hz:us.length=vs.length
    ·have rc:=Zoh (P:=X.prog) (w:=X.w) (A:=A) (e:=fun j=>Xu n (ds.getD j (.v .non)) (es.getD j (.v .non))) p1.isList p2.isList (by simpa using hz) hu0 (item n ih r1 r2 v1 v2 lk hu);have ee:Xu (n+1) (.lst ds) (.lst es)=(List.range us.toArray.size).all fun j=>Xu n (ds.getD j (.v .non)) (es.getD j (.v .non)):=by
      show(ds.length==es.length&&((ds.zip es).all fun p=>Xu n p.1 p.2))=_;have el:ds.length=es.length:=by omega
      have eu:us.toArray.size=es.length:=by rw[List.size_toArray];omega
      rw[ZgK (f:=Xu),el,beq_self_eq_true,Bool.true_and,Nat.min_self,eu]
     rw[ee];exact rc
    ·have ee:Xu (n+1) (.lst ds) (.lst es)=false:=by
      show(ds.length==es.length&&((ds.zip es).all fun p=>Xu n p.1 p.2))=false;have el:(ds.length==es.length)=false:=beq_eq_false_iff_ne.mpr (by omega);rw[el,Bool.false_and]
     rw[ee];exact ZiM p1.isList p2.isList (by simpa using hz) hu0
   |_=>cases lk
  | @tup a ds xs q1 r1=>
   cases h2 with
   | @tup b es ys q2 r2=>
    cases rx;cases ry;refine refl (.tup q1 r1) (.tup q2 r2) lk ?_;obtain⟨us,v1,p1,_⟩:=I.tuple q1;obtain⟨vs,v2,p2,_⟩:=I.tuple q2;have e1:=Paired.length r1;have e2:=Paired.length r2;have e3:=v1.length;have e4:=v2.length;have rc:=ZqC (P:=X.prog) (w:=X.w) (A:=A) (e:=fun j=>Xu n (ds.getD j (.v .non)) (es.getD j (.v .non))) (show s.heap.IsTuple a us.toArray from p1) (show s.heap.IsTuple b vs.toArray from p2) hu0 (item n ih r1 r2 v1 v2 lk hu)
    have ee:Xu (n+1) (.tup ds) (.tup es)=Za6 us.toArray vs.toArray (fun j=>Xu n (ds.getD j (.v .non)) (es.getD j (.v .non))) 0:=by
     show(((ds.zip es).all fun p=>Xu n p.1 p.2)&&ds.length==es.length)=_;unfold Za6;rw[ZgK (f:=Xu),List.drop_zero,List.size_toArray,List.size_toArray,show us.length=ds.length by omega,show vs.length=es.length by omega]
    rw[ee];exact rc
   |_=>cases lk
  | @dct a ka q1 f1=>
   cases h2 with
   | @dct b kb q2 f2=>
    cases rx;cases ry;refine refl (.dct q1 f1) (.dct q2 f2) lk ?_;obtain⟨_,z1,va,r1,dd1⟩:=Zco I.hok q1;obtain⟨_,z2,vb,r2,dd2⟩:=Zco I.hok q2;exact Zr9 z1 z2 dd1 dd2 r1 r2 f1 f2 hu0
   |_=>cases lk
end
section
variable {X:Cx}
def ZsO(K:PySem.W.Frag)(neg:Bool):R2:=fun x y H Q=>∃n d e,n<=30/\Xk x=false/\Rep K H d x/\Rep K H e y/\Zb6 n d e=true/\Q (.bl (if neg then !Xu n d e else Xu n d e)) H
theorem Zol(hu:X.A.units+30<cLine):OpR X (compareOp .NotEq) (ZsO X.K true):=by
 intro pins s σ H x y v u Q I rx ry h;obtain⟨n,d,e,hn,fx,r1,r2,lk,q⟩:=h;exact((Zmr I n d e x y v u X.A r1 r2 rx ry lk (by omega)).2 fx).2 _ _ ⟨.bl _,H,I,rfl,q⟩
theorem ZlF{A:Around}{k:Nat}(hr:Za1 k A):A.units+30<cLine:=Nat.lt_of_le_of_lt (Nat.add_le_add_left (by decide:30<=64) _) hr.units
end
end L3
namespace M3
open PySem PySem.Spec PyProof.Rows L2 L3
abbrev Tb:=List (Str×Int)
def kk(c:Tb):List (Key×V):=c.map fun p=>(Sum.inr p.1,V.int p.2)
def lk(c:Tb)(k:Str):Option Int:=(c.find? fun p=>decide (p.1=k)).map (·.2)
def ZfH(c:Tb)(k:Str)(v:Int):Tb:=if(c.any fun p=>decide (p.1=k))=true then c.map (fun p=>if p.1=k then(p.1,v) else p) else c++[(k,v)]
theorem Zn5(c:Tb):(kk c).length=c.length:=by unfold kk;rw[List.length_map]
theorem ZpQ(c:Tb)(k:Str):YB (kk c) (Sum.inr k)=(lk c k).map V.int:=by
 induction c with
 |nil=>rfl
 |cons p r ih=>
  by_cases e:p.1=k
  ·have h1:lk (p::r) k=some p.2:=by simp[lk,List.find?_cons,e]
   rw[h1];exact Yv (p:=(Sum.inr p.1,V.int p.2)) (by rw[e])
  ·have h1:lk (p::r) k=lk r k:=by simp[lk,List.find?_cons,e]
   rw[h1,<-ih];exact Ys (p:=(Sum.inr p.1,V.int p.2)) (fun h=>e (Sum.inr.inj h))
theorem Zrb(c:Tb)(k:Str):((kk c).any fun kv=>decide (kv.1=Sum.inr k))=c.any fun p=>decide (p.1=k):=by
 unfold kk;rw[List.any_map]
 congr 1
 funext p
 show decide ((Sum.inr p.1:Key)=Sum.inr k)=decide (p.1=k);exact ZnE p.1 k
theorem Zrc(c:Tb)(k:Str)(v:Int):Jo (kk c) (Sum.inr k) (.int v)=kk (ZfH c k v):=by
 unfold Jo ZfH;rw[Zrb];cases c.any fun p=>decide (p.1=k) with
 |true=>
  rw[if_pos rfl,if_pos rfl];unfold kk;rw[List.map_map,List.map_map]
  apply List.map_congr_left
  intro p _;show(if(Sum.inr p.1:Key)=Sum.inr k then((Sum.inr p.1:Key),V.int v) else(Sum.inr p.1,V.int p.2))=(Sum.inr (if p.1=k then(p.1,v) else p).1,V.int (if p.1=k then(p.1,v) else p).2)
  by_cases e:p.1=k
  ·rw[if_pos (by rw[e]),if_pos e]
  ·rw[if_neg (fun h=>e (Sum.inr.inj h)),if_neg e]
 |false=>
  rw[if_neg Bool.false_ne_true,if_neg Bool.false_ne_true];unfold kk;rw[List.map_append]
  rfl
theorem Zhf(c:Tb)(k:Str)(v:Int):(ZfH c k v).length<=c.length+1:=by
 unfold ZfH
 split
 ·rw[List.length_map];omega
 ·rw[List.length_append];exact Nat.le_refl _
theorem Zom(ps:List Str):M1.cs (Txt.join Str.empty ps)=(ps.map M1.cs).flatten:=by
 have e:Txt.join Str.empty ps=Str.join Str.empty ps:=StrLaws.glued_eq_join _ _;rw[e];clear e
 induction ps with
 |nil=>rfl
 |cons p r ih=>
  cases r with
  |nil=>show M1.cs p=_;simp
  |cons q r=>
   show M1.cs (p++Str.empty++Str.join Str.empty (q::r))=_;rw[M1.ZlB,M1.ZlB,ih];simp[show M1.cs Str.empty=[] from rfl]
end M3
namespace M3
open PySem L2 L3
end M3
namespace L3
open PySem PySem.Spec PyProof.Rows L2
theorem Zjt{X:Cx}{K:PySem.W.Frag}{es:List PySem.Expr}{k:Nat}{t:TGs}{pos:Pos}(n:Nat)(hK:X.K=K)(hc:X.calm=true)(h:PGs X es t)(hn:(assignEach es X.env).length=n)(hst:(assignEach es X.env).findIdx? (·.1)=none):PG X (.Tuple es k pos) (ZrF K n t):=by
 subst hK;exact Zlh hc h hn hst
end L3
namespace L3
open PySem PySem.Spec PyProof.Rows L2
structure Zju (P:Program) (w:World) (K:PySem.W.Frag) (mg:Str->Option Value) (base:Heap) (CX:CXT) (k:Nat) (x:Str) (C:Addr) (ps:List Str) (sp:Sp):Prop where
 ex:∃(f:Addr) (fd:FuncData),mg x=some (.ref C)/\Mk K C f/\Zdi K fd ps []/\Yr P w K mg base CX k f fd ps sp
structure Zrd (K:PySem.W.Frag) (mg:Str->Option Value) (x:Str) (C:Addr):Prop where
 at_:mg x=some (.ref C)
 makes:PySem.W.makesIn K C=true
 init:PySem.W.findIn K (.ref C) "__init__"=some (some (.builtin "object.__init__"))
 kp:PySem.W.keepIn K (.ref C)=true
structure Za2 (P:Program) (w:World) (K:PySem.W.Frag) (mg:Str->Option Value) (base:Heap) (CX:CXT) (k:Nat) (m:Str) (ps:List Str) (sp:Addr->Sp) (Fam:Addr->Prop):Prop where
 ex:∀C,Fam C->Cls K C/\∃(f:Addr) (fd:FuncData),ZrM K C m f/\Zdi K fd ps []/\Yr P w K mg base CX k f fd ps (sp C)
theorem Zon{P:Program}{w:World}{H:Hp}{h:Heap}{a:Addr}{o:HO}(x:XM P w H h a o):∃ob,h.get? a=some ob:=by
 cases o with
 |lst xs=>obtain⟨_,_,_,_,e⟩:=x;exact⟨_,e⟩
 |tup xs=>obtain⟨_,_,_,ob,e,_⟩:=x;exact⟨ob,e⟩
 |dK kvs=>obtain⟨_,_,_,_,o,_,_,e,_⟩:=x;exact⟨o,e⟩
 |dT kvs=>obtain⟨_,_,_,_,o,_,_,e,_⟩:=x;exact⟨o,e⟩
 |set S n=>obtain⟨o,_,_,_,e,_⟩:=x;exact⟨o,e⟩
 |ins C dx fs=>obtain⟨_,_,_,e,_⟩:=x;exact⟨_,e⟩
 |own y=>exact x
 |xd fs=>obtain⟨_,⟨o,_,_,e,_⟩,_⟩:=x;exact⟨o,e⟩
 |rng lo hi=>obtain⟨_,_,_,e⟩:=x;exact⟨_,e⟩
 |frz ob u=>exact⟨ob,x.1⟩
 |tbl ps=>exact⟨_,x⟩
 |met f y=>exact⟨_,x⟩
 |ext φ=>exact x.2.1
section
variable {X:Cx} {pins:List (Addr×Obj)} {σ:L2.St} {H:Hp} {s:Shared} {n:Addr} {q:HO}
theorem Zhg{σ₁:L2.St}{H₁:Hp}{s':Shared}(I0:L2.Inv X pins σ₁ H₁ s)(I:L2.Inv X pins σ H s')(f0:H n=none)(hn:s.heap.get? n=none)(ok:XM X.prog X.w (upd H n q) s'.heap n q):L2.Inv X pins σ (upd H n q) s':=by
 have ns:∀b u,H b=some u->b≠n:=fun b u e z=>by subst z;rw[f0] at e;cases e
 have nh:∀b o,s.heap.get? b=some o->b≠n:=fun b o e z=>by subst z;rw[hn] at e;cases e
 have nL:X.env.locals≠n:=by
  obtain⟨m,⟨o,_,_,e,_⟩,_⟩:=I0.loc;exact nh _ o e
 refine⟨I.ok,I.os,I.bare,⟨I.base.keep,I.base.slot,fun b o e m hx=> ?_,I.base.there,fun b xs e=> ?_,fun b o u e=> ?_,fun b ps e=> ?_⟩,I.loc,I.cell, ?_,fun x c e=> ?_,fun z hz=> ?_,fun b u e=> ?_,I.len⟩
 ·refine(Zm ?_).trans (I.base.free b o e m hx);obtain⟨o',z⟩:=I0.base.there b o e hx;exact nh b o' z
 ·rw[Zm (ns b _ (I.base.tups b xs e))];exact I.base.tups b xs e
 ·rw[Zm (ns b _ (I.base.frzs b o u e))];exact I.base.frzs b o u e
 ·obtain⟨m,e2⟩:=I.base.tbls b ps e;exact⟨m,by rw[Zm (ns b _ e2)];exact e2⟩
 ·rw[Zm nL];exact I.free
 ·obtain⟨v,o,z,_⟩:=I0.cell x c e;rw[Zm (nh c o z)];exact I.freeC x c e
 ·obtain⟨z1,z2,z3⟩:=I.pin z hz;exact⟨z1,by rw[Zm (nh z.1 z.2 (I0.pin z hz).1)];exact z2,z3⟩
 ·by_cases hb:b=n
  ·subst hb;rw[Zc] at e
   cases e;exact ok
  ·rw[Zm hb] at e
   exact(I.hok b u e).stay (fun _ _ _ z=>z) (fun c z=>by rw[Zm (ns c _ z)];exact z) fun c xs z=>by rw[Zm (ns c _ z)];exact z
theorem ZlG{s':Shared}(I0:L2.Inv X pins σ H s)(I:L2.Inv X pins σ H s')(hn:s.heap.get? n=none)(ok:XM X.prog X.w (upd H n q) s'.heap n q):L2.Inv X pins σ (upd H n q) s':=by
 refine Zhg I0 I ?_ hn ok;cases e:H n with
 |none=>rfl
 |some u=>
  obtain⟨ob,z⟩:=Zon (I0.hok n u e);rw[hn] at z
  cases z
end
section
variable {X:Cx} {CX:CXT} {k:Nat} {x m:Str} {C:Addr} {ps:List Str} {sp:Sp} {sf:Addr->Sp} {Fam:Addr->Prop} {E:XK} {e o:PySem.Expr} {es:List PySem.Expr} {ta:TE} {t:TA} {p pos apos:Pos}
theorem Zhh(c:Zju X.prog X.w X.K X.mg X.base CX k x C ps sp)(hr:Za1 (k+1) X.A)(hg:Gl X x)(hx:Zbp CX X E)(ha:PA X (e::es) t)(hdb:(x==("__debug__":Str))=false:=by decide)
  (he:starEach (e::es) X.env=(false,eval e X.env)::starEach es X.env:=by rfl)(hpl:(backTo pos (starEach es X.env)).any (·.1)=false:=by rfl):PE X (.Call (.Name x p) (e::es) [] pos) (Zqy C sp [] E t):=by
 obtain⟨f,fd,hm,M,hb,F⟩:=c.ex;exact ZpD M F hr hg hm hb .nil hx ha hdb he hpl
def Zs5(C:Addr):TE:=fun _ H Q=>∀x dx,H x=none->H dx=none->dx≠x->Q (.ref x) (upd (upd H dx (.own x)) x (.ins C dx []))
theorem ZpR(c:Zrd X.K X.mg x C)(hg:Gl X x)(hdb:(x==("__debug__":Str))=false:=by decide):PE X (.Call (.Name x p) [] [] pos) (Zs5 C):=by
 intro pins s σ H Q I h;refine wpAny_Call_Name_kw (ZgG I hg c.at_ ?_ hdb);obtain⟨mm,F⟩:=I.fr;refine PySem.W.callWith_K0 I.kIn c.kp (PySem.W.call_cls0 F I.ok.mod.kin ZnG c.makes c.init fun y dy g F' N' hl hlt=> ?_);have I1:L2.Inv X pins σ H {s with heap:=g,toks:=s.toks}:=ZlE (more:=[(y,PySem.W.instObj C dy),(dy,PySem.W.dictOf [] 0)]) I F.ns F' N';have gy:=N' (y,PySem.W.instObj C dy) (List.mem_cons_self ..)
 have gd:=N' (dy,PySem.W.dictOf [] 0) (List.mem_cons_of_mem _ (List.mem_cons_self ..));have fresh:∀z:Addr,dy<=z->z≠X.env.locals->X.base.get? z=none->s.heap.get? z=none:=fun z hz nl nb=>by
  cases e:s.heap.get? z with
  |none=>rfl
  |some ob=>exact absurd (hl (z,ob) (Zgc nl nb e)) (Nat.not_lt.mpr hz)
 have fd:=fresh dy (Nat.le_refl _) gd.2.1 gd.2.2;have fy:=fresh y (Nat.le_of_lt hlt) gy.2.1 gy.2.2;have I2:=ZlG (q:=.own y) I I1 fd ⟨_,gd.1⟩;have nH:∀z,s.heap.get? z=none->H z=none:=fun z e=>by
  cases q:H z with
  |none=>rfl
  |some u=>obtain⟨ob,w⟩:=Zon (I.hok z u q);rw[e] at w;cases w
 have ne:dy≠y:=Nat.ne_of_lt hlt;have I3:L2.Inv X pins σ (upd (upd H dy (.own y)) y (.ins C dy [])) {s with heap:=g,toks:=s.toks}:=by
  have e3:g.Ns dy (fun _=>none):=⟨_, #[],_,gd.1,rfl,(fun e he=>absurd he (by simp)),fun _=>rfl⟩
  have f0:upd H dy (.own y) y=none:=(Zm (Ne.symm ne)).trans (nH y fy);have ok:XM X.prog X.w (upd (upd H dy (.own y)) y (.ins C dy [])) g y (.ins C dy []):=⟨by rw[Zm ne,Zc],Nat.zero_le _,ne,gy.1,fun _=>none,Heap.Ns1.of_empty e3,fun _=>True.intro,fun z hz=>absurd rfl hz⟩
  have ns:∀b u,upd H dy (.own y) b=some u->b≠y:=fun b u e z=>by subst z;rw[f0] at e;cases e
  have nh:∀b o,s.heap.get? b=some o->b≠y:=fun b o e z=>by subst z;rw[fy] at e;cases e
  refine⟨I2.ok,I2.os,I2.bare,⟨I2.base.keep,I2.base.slot,fun b o e m hx=> ?_,I2.base.there,fun b xs e=> ?_,fun b o u e=> ?_,fun b ps e=> ?_⟩,I2.loc,I2.cell, ?_,fun x c e=> ?_,fun z hz=> ?_,fun b u e=> ?_,I2.len⟩
  ·refine(Zm ?_).trans (I2.base.free b o e m hx);obtain⟨o',z⟩:=I.base.there b o e hx;exact nh b o' z
  ·rw[Zm (ns b _ (I2.base.tups b xs e))];exact I2.base.tups b xs e
  ·rw[Zm (ns b _ (I2.base.frzs b o u e))];exact I2.base.frzs b o u e
  ·obtain⟨m,e2⟩:=I2.base.tbls b ps e;exact⟨m,by rw[Zm (ns b _ e2)];exact e2⟩
  ·rw[Zm (Ne.symm gy.2.1)];exact I2.free
  ·obtain⟨v,o,z,_⟩:=I.cell x c e;rw[Zm (nh c o z)];exact I2.freeC x c e
  ·obtain⟨z1,z2,z3⟩:=I2.pin z hz;exact⟨z1,by rw[Zm (nh z.1 z.2 (I.pin z hz).1)];exact z2,z3⟩
  ·by_cases hb:b=y
   ·subst hb;rw[Zc] at e
    cases e;exact ok
   ·rw[Zm hb] at e
    exact(I2.hok b u e).stay (fun _ _ _ z=>z) (fun c z=>by rw[Zm (ns c _ z)];exact z) fun c xs z=>by rw[Zm (ns c _ z)];exact z
 exact⟨.ref y,_,I3,rfl,h y dy (nH y fy) (nH dy fd) ne⟩
def Zoo(Fam:Addr->Prop)(m:Str)(sf:Addr->Sp)(E:XK)(ta:TE)(t:TA):TE:=fun σ H Q=>ta σ H fun x H1=>∃a C dx fs,x=.ref a/\H1 a=some (.ins C dx fs)/\Fam C/\fs.lookup m=none/\t σ H1 fun vs H2=>sf C (x::vs) H2 Q E
theorem JQ{pl:Sem Bool}(he:PE X o ta)(d:Za2 X.prog X.w X.K X.mg X.base CX k m ps sf Fam)(hr:Za1 k X.A)(hx:Zbp CX X E)(ha:PA X (e::es) t)
  (hst:starEach (e::es) X.env=(false,eval e X.env)::starEach es X.env:=by rfl)(hpl:(backTo pos (starEach es X.env)).any (·.1)=false:=by rfl)
  (ht:eval (.Call (.Attribute o m apos) (e::es) [] pos) X.env=(do
   let ov<-eval o X.env
   standAt apos.atName
   let (f,first)<-holding [ov] (getMethod ov m pl)
   callWith pos f first (backTo pos (starEach (e::es) X.env)) (backToKw pos (keywordEach [] X.env))):=by rfl):PE X (.Call (.Attribute o m apos) (e::es) [] pos) (Zoo Fam m sf E ta t):=by
 intro pins s σ H Q I h;refine PySem.W.methodCall_KW (pl:=pl) (thn (he pins s σ H _ I h) fun u s1 ⟨x,H1,I1,rx,a,C,dx,fs,ex,ea,fam,l,q⟩=> ?_) ht;subst ex;obtain rfl:u=Value.ref a:=rx;obtain⟨c,f,fd,hm,hb,F⟩:=d.ex C fam;refine Zh3 I1 ea c hm l ?_;refine PySem.W.callWith_K (first:=[.ref a]) (h₀:=X.base) I.ok.mod.kin hm.kp (thn (ha pos pins s1 σ H1 _ I1 q) fun us s2 ⟨vs,H2,I2,r,q2⟩=>⟨I2.kIn, ?_⟩) hst hpl
 exact Zjh (us:=.ref a::us) (vs:=.ref a::vs) F hr hb .nil hx I2 (.cons rfl r) (by rw[List.append_nil];exact q2)
theorem JN{pl:Sem Bool}(he:PE X o ta)(d:Za2 X.prog X.w X.K X.mg X.base CX k m ps sf Fam)(hr:Za1 k X.A)(hx:Zbp CX X E)
  (ht:eval (.Call (.Attribute o m apos) [] [] pos) X.env=(do
   let ov<-eval o X.env
   standAt apos.atName
   let (f,first)<-holding [ov] (getMethod ov m pl)
   callWith pos f first (backTo pos (starEach [] X.env)) (backToKw pos (keywordEach [] X.env))):=by rfl):PE X (.Call (.Attribute o m apos) [] [] pos) (Zoo Fam m sf E ta ZnU):=by
 intro pins s σ H Q I h;refine PySem.W.methodCall_KW (pl:=pl) (thn (he pins s σ H _ I h) fun u s1 ⟨x,H1,I1,rx,a,C,dx,fs,ex,ea,fam,l,q⟩=> ?_) ht;subst ex;obtain rfl:u=Value.ref a:=rx;obtain⟨c,f,fd,hm,hb,F⟩:=d.ex C fam;refine Zh3 I1 ea c hm l ?_;exact PySem.W.callWith_K0 (first:=[.ref a]) I1.kIn hm.kp (Zjh (us:=[.ref a]) (vs:=[.ref a]) F hr hb .nil hx I1 (.cons rfl .nil) q)
def Zre(K:PySem.W.Frag):R2:=fun x y H Q=>∃a b xs,x=.ref a/\y=.ref b/\SqL K H a xs/\SqL K H b []/\Q (.bl (decide (xs=[]))) H
theorem Zop(hu:X.A.units+30<cLine):OpR X (compareOp .Eq) (Zre X.K):=by
 intro pins s σ H x y v u Q I rx ry h;obtain⟨a,b,xs,rfl,rfl,h1,h2,q⟩:=h;cases rx;cases ry;obtain⟨us,v1,p1,_⟩:=I.list h1;obtain⟨vs,v2,p2,_⟩:=I.list h2;have e1:=v1.length;have e2:=v2.length;have hu0:X.A.units<cLine:=by omega
 cases xs with
 |nil=>
  have el:us.toArray.size=vs.toArray.size:=by rw[List.size_toArray,List.size_toArray,<-e1,<-e2]
  have z:us.toArray.size=0:=by rw[List.size_toArray,<-e1];rfl
  refine(Zoh (P:=X.prog) (w:=X.w) (e:=fun _=>true) p1.isList p2.isList el hu0 fun j h1 _=>absurd h1 (by omega)).1 _ _ ⟨.bl _,H,I, ?_,q⟩;rw[z]
  rfl
 |cons y r=>exact(ZiM (P:=X.prog) (w:=X.w) p1.isList p2.isList (by rw[List.size_toArray,List.size_toArray,<-e1,<-e2];exact Nat.succ_ne_zero _) hu0).1 _ _ ⟨.bl _,H,I,rfl,q⟩
end
end L3
namespace L3
open PySem PySem.Spec PyProof.Rows L2
theorem Xi{P:Program}{w:World}{K:PySem.W.Frag}{mg:Str->Option Value}{base:Heap}{CX:CXT}{k:Nat}{f:Addr}{fd:FuncData}{ps:List Str}{sp:Sp}(h:∀vs H Q E,¬sp vs H Q E):Yr P w K mg base CX k f fd ps sp:=
 ⟨fun vs H Q E z=>(h vs H Q E z).elim,fun _ _ _ H _ _ vs Q E _ _ _ _ z=>(h vs H Q E z).elim⟩
structure TyC (K:PySem.W.Frag) (C:Addr):Prop where
 cl:Cls K C
 ha:PySem.W.findIn K (.ref C) "__class__"=some (some (.builtin "object.__class__"))
 hn:PySem.W.specialIn K (.builtin "object.__class__") "__get__"=some (some (.builtin "getset_descriptor.__get__"))
 htk:PySem.W.takesIn K (.builtin "object.__class__")=some true
 hm:PySem.W.mroIn K C (.type "object")=some true
theorem JC{c A B:Prop} [Decidable c](hc:¬c)(h:B):if decide c=true then A else B:=by
 rw[decide_eq_false hc];exact Xh h
theorem ZsP{α:Type}{P:List α->Prop}(h:P []):∀us:List α,us.length=0->P us
 |[],_=>h
theorem Zcq{α:Type}{P:List α->Prop}(h:∀a,P [a]):∀us:List α,us.length=1->P us
 |[a],_=>h a
theorem Xv{α:Type}{P:List α->Prop}(h:∀a b,P [a,b]):∀us:List α,us.length=2->P us
 |[a,b],_=>h a b
theorem ZlH{α:Type}{P:List α->Prop}(h:∀a b c,P [a,b,c]):∀us:List α,us.length=3->P us
 |[a,b,c],_=>h a b c
theorem ZpS{α:Type}{P:List α->Prop}(h:∀a b c d,P [a,b,c,d]):∀us:List α,us.length=4->P us
 |[a,b,c,d],_=>h a b c d
end L3
namespace L3
open PySem PySem.Spec PyProof.Rows L2
theorem Zoq:typeLookup (.type "list_reverseiterator") "__len__"=pure none:=by rw[typeLookup_type,builtinLookup_eq_fast];kernel_rfl
theorem ZpT:typeLookup (.type "list_reverseiterator") "__length_hint__"=pure (some (.builtin "list_reverseiterator.__length_hint__")):=by rw[typeLookup_type,builtinLookup_eq_fast];kernel_rfl
theorem ZpU:isSubtype (.type "list_reverseiterator") (.type "list_reverseiterator")=pure true:=by rw[isSubtype_type];kernel_rfl
section
variable {prog:Program} {w:World} {A:Around} {E:Value->Shared->Prop} {s:Shared} {it l S:Addr} {items:Array Value}
theorem ZpV{i:Int}{Q:Bool->Shared->Prop}(x:s.heap.IsRevIter it l i)(q:Q false s):wpAny (model prog w) A (Builtin.List.listLengthHint (.ref it)) Q E s:=by
 have ty:=x.typeIs
 delta Builtin.List.listLengthHint
 refine wpAny_bind (wpAny_specialOf ty Zoq (show wpAny _ A (specialOf _ (Str.ofString "__length_hint__")>>=_) _ _ s from wpAny_bind (wpAny_specialOf ty ZpT ?_)));generalize hid:"list_reverseiterator.__length_hint__"=d
 wp_delta
 rw[show splitId d=some ("list_reverseiterator","__length_hint__") by subst hid;decide+kernel]
 subst hid;exact wpAny_bind (wpAny_isInstance ty ZpU (wpAny_pure q))
theorem ZpW{R:Result->Shared->Prop}{c:Nat}{res:Value}(hh:A.handled=none)(x:s.heap.IsRevIter it l ((items.size:Int)-1))(hl:s.heap.IsList l items)(hn:items.size<=sizeLine)(n1:S≠it)(n2:S≠l)(n3:l≠it)
  (hS:s.heap.get? S=some {cls:=.type "list",data:=.seq #[] c})
  (r:∀h' tk out c',(∀b o,b≠S->b≠it->s.heap.get? b=some o->h'.get? b=some o)->h'.get? S=some {cls:=.type "list",data:=.seq out c'}->ItemsOf (fun i v=>items[items.size-1-i]? =some v) out items.size->R (.ok (.ret res)) {s with heap:=h',toks:=tk}):
  wpAny (model prog w) A.in1 (Builtin.List.listExtendWith (.ref S) (.ref it) res) (fun fin s'=>match fin with| .done f=>R (.ok f) s'| .again c'=>c'.quiet=true/\codeAny (model prog w) A c' R s') (fun e s'=>R (.error e) s') s:=by
 have W:=(Walks.listRev (prog:=prog) (w:=w) (A:=A.in1) hh it l n3 items).toS;have off:Builtin.List.listSameRef (.ref S) (.ref it)=false:=by simp[Builtin.List.listSameRef,n1]
 have st0:0<=items.size/\s.heap.IsRevIter it l ((items.size:Int)-1-((0:Nat):Int))/\s.heap.IsList l items:=⟨Nat.zero_le _,by simpa using x,hl⟩
 delta Builtin.List.listExtendWith
 refine wpAny_bind (wpAny_typeOf x.typeIs ?_);rw[if_neg (by rw[off];decide)]
 refine wpAny_bind (wpAny_pyIter_revIter x (wpAny_bind (wpAny_holding (ZpV x ?_))));rw[if_neg (by decide)];refine wpAny_pure ⟨plainId_quiet F.plain_extend_loop _,codeAny_extend_loopS W hn S (by simp[n1,n2]) res _ 0 s #[] c rfl (Nat.zero_le _) st0 hS (ItemsOf.nil _) fun s' out c' mv e1 e2=> ?_⟩;rw[mv.eq_with];exact r _ _ out c' (fun b o b1 b2 e=>mv.heap b o (by simp[b1,b2]) e) e1 e2
theorem ZpX{Q:Value->Shared->Prop}(hh:A.handled=none)(x:s.heap.IsRevIter it l ((items.size:Int)-1))(hl:s.heap.IsList l items)(hn:items.size<=sizeLine)(n3:l≠it)
  (q:∀h' tk out c',(∀b o,b≠it->s.heap.get? b=some o->h'.get? b=some o)->h'.get? s.heap.objs.size=some {cls:=.type "list",data:=.seq out c'}->ItemsOf (fun i v=>items[items.size-1-i]? =some v) out items.size->Q (.ref s.heap.objs.size) {s with heap:=h',toks:=tk}):wpAny (model prog w) A (call (.type "list") [.ref it]) Q E s:=by
 generalize hD:s.heap.objs.size=D at q
 have off:∀b o,s.heap.get? b=some o->D≠b:=fun b o e z=>by
  have y:=Heap.lt_size e;rw[hD,z] at y
  exact Nat.lt_irrefl b y
 obtain⟨ox,ex,_⟩:=id x;obtain⟨ol,el,_⟩:=id hl;have e0:(s.heap.push {cls:=.type "list",data:=.seq #[]}).get? D=some {cls:=.type "list",data:=.seq #[]}:=by subst hD;exact Heap.get?_push_size _ rfl
 have e1:=Heap.get?_update_self (Obj.mapSeq fun _=>(#[]:Array Value)) e0 rfl;have up:∀b o,s.heap.get? b=some o->((s.heap.push {cls:=.type "list",data:=.seq #[]}).update D (Obj.mapSeq fun _=>(#[]:Array Value))).get? b=some o:=fun b o e=>(Heap.get?_update_other _ _ (off b o e)).trans (Heap.get?_push_of_some _ e);refine callType_codes (Q₁:=fun u s1=>u=.ref D/\s1={s with heap:=s.heap.push {cls:=.type "list",data:=.seq #[]}}) F.called_list (F.typeCall_list_1 _) F.entry_list_init (code_list_new _ ⟨congrArg Value.ref hD,rfl⟩) ?_
 rintro _ _ ⟨rfl,rfl⟩;refine⟨⟨_,e0,rfl⟩,F.args_list_init_2 _ _, ?_⟩;show wpAny _ _ ((seqItems? (.ref D)>>=_)>>=fun(old:Array Value)=>updateSeq D (fun _=> #[])>>=fun _=>letGo old.toList.reverse>>=fun _=>Builtin.List.listExtendWith (.ref D) (.ref it) .none) _ _ _;refine wpAny_bind (wpAny_bind (wpAny_seqItems e0 rfl (wpAny_pure (wpAny_bind (wpAny_updateSeq e0 rfl (wpAny_bind (wpAny_letGo ?_)))))));exact ZpW (A:=A.in1) hh (x.at fun o e=>up _ o e) (hl.at fun o e=>up _ o e) hn (off _ _ ex) (off _ _ el) n3 e1 fun h' tk out c' k z1 z2=>⟨rfl,q h' tk out c' (fun b o b1 e=>k b o (Ne.symm (off b o e)) b1 (up b o e)) z1 z2⟩
end
section
variable {X:Cx} {e:PySem.Expr} {te:TE} {p p2 pos pos2:Pos}
theorem Zor{ys:List V}{us:List Value}{out:Array Value}(r:Yb ys us)(h:ItemsOf (fun i v=>us.toArray[us.toArray.size-1-i]? =some v) out us.toArray.size):Yb ys.reverse out.toList:=by
 have e:out.toList=us.reverse:=by
  refine List.ext_getElem? fun i=> ?_
  by_cases hi:i<us.length
  ·have z:i<out.toList.length:=by rw[Array.length_toList,h.1,List.size_toArray];exact hi
   have y:=h.2 i _ (by rw[<-Array.getElem?_toList,List.getElem?_eq_getElem z]);rw[List.getElem?_eq_getElem z,List.getElem?_reverse hi,<-y];simp
  ·rw[List.getElem?_eq_none (by rw[Array.length_toList,h.1,List.size_toArray];omega),List.getElem?_eq_none (by rw[List.length_reverse];omega)]
 rw[e];exact r.reverse
def Zos(te:TE)(K:PySem.W.Frag):TE:=fun σ H Q=>te σ H fun v H1=>∃a ys,v=.ref a/\SqL K H1 a ys/\∀l,H1 l=none->Q (.ref l) (upd H1 l (.lst ys.reverse))
theorem ZlI(hc:X.calm=true)(g1:Gl X "list")(z1:X.mg "list"=none)(g2:Gl X "reversed")(z2:X.mg "reversed"=none)(ha:PE X e te)
  (s1:starEach [e] X.env=(false,eval e X.env)::starEach [] X.env:=by rfl):PE X (.Call (.Name "list" p) [.Call (.Name "reversed" p2) [e] [] pos2] [] pos) (Zos te X.K):=by
 intro pins s σ H Q I h;refine wpAny_Call_Name_kw (ZfA I g1 z1 Zjq ?_);refine PyProof.Rows.callWith_type1 ?_ rfl rfl;show wpAny _ _ (spliced ((false,eval (.Call (.Name "reversed" p2) [e] [] pos2) X.env)::[])) _ _ s;refine Calls.spliced_cons (wpAny_Call_Name_kw (ZfA I g2 z2 Zgg ?_));refine PyProof.Rows.callWith_type1 ?_ s1 rfl;rw[s1];show wpAny _ _ (spliced ((false,eval e X.env)::[])) _ _ s;refine Calls.spliced_cons (thn (ha pins s σ H _ I h) fun u s' ⟨x,H1,I1,r1,a,ys,ex,hq,q⟩=>Calls.spliced_nil ?_)
 subst ex;cases r1;obtain⟨us,r,pl,hz⟩:=I1.list hq;have hlen:=r.length;have hl:=pl.isList;refine call_reversed_list hl (Calls.spliced_nil ?_);have hl1:=hl.at fun o e=>Heap.get?_push_of_some (revObj a ((us.toArray.size:Int)-1)) e
 have na:a≠s'.heap.objs.size:=by obtain⟨o,e,_⟩:=hl;exact Nat.ne_of_lt (Heap.lt_size e)
 refine ZpX (I1.ok.hd hc) ⟨_,Heap.get?_push_size _ rfl,rfl,rfl⟩ hl1 (by simp only [List.size_toArray];omega) na fun h' tk out c k e1 e2=> ?_
 have kp:∀b o,s'.heap.get? b=some o->h'.get? b=some o:=fun b o e=>k b o (Nat.ne_of_lt (Heap.lt_size e)) (Heap.get?_push_of_some _ e);refine⟨.ref _,_,I1.laid (o:=.lst ys.reverse) (t':=tk) kp (by show s'.heap.objs.size<=(s'.heap.push _).objs.size;rw[size_push'];omega) ⟨by rw[List.length_reverse];exact hz,out.toList,c,Zor r e2,e1⟩,rfl,q _ (I1.hok.fresh (by rw[size_push'];omega))⟩
end
end L3
namespace L3
open PySem PySem.Spec PyProof.Rows L2 PySem.W PySem.Calls
section
variable {X:Cx}
end
section
variable {P:Program} {w:World} {K:Frag} {mg:Str->Option Value} {base:Heap} {N:List Str} {qual:Str} {scope:Scope} {f:Addr} {cdv:Value} {A:Around} {outer:List Env} {s₀:Shared} {H₀:Hp} {E:XK}
end
end L3
namespace L3
open PySem PySem.Spec PyProof.Rows L2 PySem.W PySem.Calls
section
variable {P:Program} {w:World} {K:Frag} {mg:Str->Option Value} {base:Heap} {N:List Str} {qual:Str} {scope:Scope} {f:Addr} {cdv:Value} {A:Around} {outer:List Env} {s₀:Shared} {H₀:Hp} {E:XK} {CX:CXT}
end
section
variable {X:Cx} {pins:List (Addr×Obj)} {σ:L2.St} {H:Hp} {s:Shared}
end
end L3
namespace L3
open PySem PySem.W PyProof.Rows
structure Ord (ans:Nat->Nat->Bool):Prop where
 asym:∀i j,ans i j=true->ans j i=false
 tr:∀i j k,ans j i=false->ans k j=false->ans k i=false
theorem Ord.irr{ans:Nat->Nat->Bool}(o:Ord ans)(i:Nat):ans i i=false:=by
 cases e:ans i i with
 |false=>rfl
 |true=>exact e.symm.trans (o.asym i i e)
def ZpY(n:Nat)(ans:Nat->Nat->Bool)(i j:Nat)(C:Bool->Shared->Prop)(s:Shared):Prop:=i<n/\j<n/\C (ans i j) s
abbrev Zbr(n:Nat)(ans:Nat->Nat->Bool){α:Type}(s:Shared)(t:KasT α)(P:α->Prop):Prop:=t.kasWp (ZpY n ans) (fun a _=>P a) s
def at_(p:Array Nat)(i:Nat):Nat:=p.getD i 0
def Zam(ans:Nat->Nat->Bool)(p:Array Nat)(k:Nat):Prop:=∀i j,i<=j->j<k->ans (at_ p j) (at_ p i)=false
def Zdl(ans:Nat->Nat->Bool)(p:Array Nat)(k:Nat):Prop:=∀i j,i<=j->j<k->ans (at_ p i) (at_ p j)=false
structure Pl (n:Nat) (p:Array Nat):Prop where
 size:p.size=n
 perm:p.Perm (List.toArray (List.range n))
theorem Pl.lt{n:Nat}{p:Array Nat}(h:Pl n p){i:Nat}(hi:i<n):at_ p i<n:=by
 have hi':i<p.size:=by rw[h.size];exact hi
 have e:at_ p i=p[i]:=by simp[at_,Array.getD,hi']
 have m:p[i]∈List.range n:=by
  have:=(Array.perm_iff_toList_perm.mp h.perm).mem_iff (a:=p[i])
  simpa using this.mp (by simp)
 rw[e];exact List.mem_range.mp m
theorem Zep(x:Array Nat)(k:Nat):at_ x k=(x[k]?).getD 0:=by
 by_cases hk:k<x.size<;>simp[at_,Array.getD,hk]
theorem Zdm{p:Array Nat}{i j:Nat}(hj:j<=p.size)(k:Nat):at_ (kas_rev p i j) k=if i<=k/\k<j then at_ p (i+j-1-k) else at_ p k:=by
 rw[Zep,kas_rev,getElem?_mirror_all hj k,Zep,Zep]
 split<;>rfl
theorem Zot{p:Array Nat}{src d:Nat}(hs:src<p.size)(hd:d<=src)(k:Nat):at_ (bubble p src d) k=if k=src-d then at_ p src else if src-d<k/\k<=src then at_ p (k-1) else at_ p k:=by
 rw[Zep,getElem?_bubble hs d hd k,Zep,Zep,Zep]
 split
 ·rfl
 ·split<;>rfl
theorem Pl.rev{n:Nat}{p:Array Nat}(h:Pl n p)(i j:Nat):Pl n (kas_rev p i j):=⟨(mirror_size _ _ _ _).trans h.size,(mirror_perm _ _ _ _).trans h.perm⟩
theorem Pl.bub{n:Nat}{p:Array Nat}(h:Pl n p)(i j:Nat):Pl n (bubble p i j):=⟨(bubble_size _ _ _).trans h.size,(bubble_perm _ _ _).trans h.perm⟩
section
variable {n:Nat} {ans:Nat->Nat->Bool} {s:Shared}
theorem Zbs{α β:Type}{t:KasT α}{f:α->KasT β}{P:β->Prop}(h:Zbr n ans s t fun a=>Zbr n ans s (f a) P):Zbr n ans s (t.bind f) P:=by
 have st:∀(t:KasT α) (s0:Shared),t.kasWp (ZpY n ans) (fun a _=>Zbr n ans s (f a) P) s0->s0=s->t.kasWp (ZpY n ans) (fun a s'=>(f a).kasWp (ZpY n ans) (fun a _=>P a) s') s0:=by
  intro t
  induction t with
  |ret a=>intro s0 h e;subst e;exact h
  |ask i j k ih=>intro s0 ⟨a,b,h⟩ e;exact⟨a,b,ih _ s0 h e⟩
 show(t.bind f).kasWp _ _ _;rw[KasT.kasWp_bind];exact st t s h rfl
theorem XJ{α:Type}{P P':α->Prop}(hp:∀a,P a->P' a):∀{t:KasT α},Zbr n ans s t P->Zbr n ans s t P'
 | .ret a,h=>hp a h
 | .ask i j k,⟨a,b,h⟩=>⟨a,b,XJ hp (t:=k _) h⟩
theorem Zku{α:Type}{cmp:Nat->Nat->(Bool->Shared->Prop)->Shared->Prop}{P:α->Prop}{Q:α->Shared->Prop}(I:Shared->Prop)(hc:∀i j (C:Bool->Shared->Prop) s,i<n->j<n->I s->(∀s',I s'->C (ans i j) s')->cmp i j C s)(hq:∀a s',P a->I s'->Q a s'):
  ∀(t:KasT α) (s0 s1:Shared),Zbr n ans s0 t P->I s1->t.kasWp cmp Q s1
 | .ret a,s0,s1,h,i1=>hq a s1 h i1
 | .ask i j k,s0,s1,⟨a,b,h⟩,i1=>hc i j _ s1 a b i1 fun s' i'=>Zku I hc hq (k _) s0 s' h i'
theorem Zdn(o:Ord ans){p:Array Nat}(hp:Pl n p){k:Nat}(hk:k<n)(hs:Zam ans p k):∀(f l r:Nat),l<=r->r<=k->r-l<=f->(∀i,i<l->ans (at_ p k) (at_ p i)=false)->(∀i,r<=i->i<k->ans (at_ p k) (at_ p i)=true)->
  Zbr n ans s (kas_place p k f l r) fun x=>x<=k/\(∀i,i<x->ans (at_ p k) (at_ p i)=false)/\∀i,x<=i->i<k->ans (at_ p k) (at_ p i)=true
 |0,l,r,h1,h2,h3,lo,hi=>by
  have e:l=r:=by omega
  subst e;exact⟨h2,lo,hi⟩
 |f+1,l,r,h1,h2,h3,lo,hi=>by
  unfold kas_place
  by_cases g:l≥r
  ·rw[if_pos g];have e:l=r:=by omega
   subst e;exact⟨h2,lo,hi⟩
  ·rw[if_neg g];refine⟨hp.lt hk,hp.lt (by omega), ?_⟩;cases e:ans (p.getD k 0) (p.getD ((l+r)/2) 0) with
   |true=>
    (dsimp only;rw[if_pos rfl])
    refine Zdn o hp hk hs f l ((l+r)/2) (by omega) (by omega) (by omega) lo fun i a b=> ?_;cases e2:ans (at_ p k) (at_ p i) with
    |true=>rfl
    |false=>
     have:=o.tr (at_ p ((l+r)/2)) (at_ p i) (at_ p k) (hs _ _ a b) e2;rw[show ans (at_ p k) (at_ p ((l+r)/2))=true from e] at this
     exact this.symm
   |false=>
    (dsimp only;rw[if_neg (by simp)])
    exact Zdn o hp hk hs f ((l+r)/2+1) r (by omega) h2 (by omega) (fun i a=>o.tr (at_ p i) (at_ p ((l+r)/2)) (at_ p k) (hs _ _ (by omega) (by omega)) e) hi
theorem ZiN(o:Ord ans):∀(f:Nat) (p:Array Nat) (k:Nat),Pl n p->k+f=n->Zam ans p k->Zbr n ans s (kas_bin f p k) fun q=>Pl n q/\Zam ans q n
 |0,p,k,hp,e,hs=>by
  have e:k=n:=by omega
  subst e;exact⟨hp,hs⟩
 |f+1,p,k,hp,e,hs=>by
  have hk:k<n:=by omega
  unfold kas_bin;refine Zbs (XJ (fun l ⟨a,lo,hi⟩=> ?_) (Zdn o hp hk hs k 0 k (by omega) (by omega) (by omega) (fun i z=>by omega) fun i z1 z2=>by omega));refine ZiN o f _ (k+1) (hp.bub _ _) (by omega) fun i j hij hj=> ?_;have hks:k<p.size:=by rw[hp.size];exact hk
  rw[Zot hks (by omega),Zot hks (by omega),show k-(k-l)=l by omega]
  repeat' split
  all_goals first
   |(exfalso;omega)
   |exact o.irr _
   |exact lo _ (by omega)
   |exact o.asym _ _ (hi _ (by omega) (by omega))
   |exact hs _ _ (by omega) (by omega)
theorem ZfI(o:Ord ans){p:Array Nat}(hp:Pl n p):∀(f m:Nat),1<=m->m+f<=n->Zam ans p m->Zbr n ans s (kas_asc p f m) fun x=>m<=x/\x<=m+f/\Zam ans p x/\(x<m+f->ans (at_ p x) (at_ p (x-1))=true)
 |0,m,h1,h2,hs=>⟨Nat.le_refl _,Nat.le_refl _,hs,fun z=>absurd z (Nat.lt_irrefl _)⟩
 |f+1,m,h1,h2,hs=>by
  unfold kas_asc;refine⟨hp.lt (by omega),hp.lt (by omega), ?_⟩;cases e:ans (p.getD m 0) (p.getD (m-1) 0) with
  |true=>(dsimp only;rw[if_pos rfl]);exact⟨Nat.le_refl _,by omega,hs,fun _=>e⟩
  |false=>
   (dsimp only;rw[if_neg (by simp)])
   refine XJ (fun x ⟨a,b,c,d⟩=>⟨by omega,by omega,c,fun z=>d (by omega)⟩) (ZfI o hp f (m+1) (by omega) (by omega) fun i j hij hj=> ?_)
   by_cases q:j<m
   ·exact hs i j hij q
   ·have ej:j=m:=by omega
    subst ej
    by_cases q2:i=j
    ·subst q2;exact o.irr _
    ·exact o.tr (at_ p i) (at_ p (j-1)) (at_ p j) (hs _ _ (by omega) (by omega)) e
theorem Zhi(o:Ord ans){p q:Array Nat}{m:Nat}(h:Zdl ans p m)(e:∀k,k<m->ans (at_ p k) (at_ q k)=false/\ans (at_ q k) (at_ p k)=false):Zdl ans q m:=fun i j hij hj=>
 o.tr (at_ q j) (at_ p i) (at_ q i) (o.tr (at_ q j) (at_ p j) (at_ p i) (e j hj).1 (h i j hij hj)) (e i (by omega)).2
def ZpZ(ans:Nat->Nat->Bool)(p:Array Nat)(m q:Nat):Prop:=∀k,m-(q+1)<=k->k<m->ans (at_ p k) (at_ p (m-1))=false/\ans (at_ p (m-1)) (at_ p k)=false
theorem Zkv(o:Ord ans){p:Array Nat}{m q:Nat}(hm:m<=p.size)(hq:q+1<=m)(t:ZpZ ans p m q):∀k,k<m->ans (at_ p k) (at_ (kas_rev p (m-(q+1)) m) k)=false/\ans (at_ (kas_rev p (m-(q+1)) m) k) (at_ p k)=false:=fun k hk=>by
 rw[Zdm hm]
 split
 ·rename_i h
  have a:=t k h.1 h.2;have b:=t (m-(q+1)+m-1-k) (by omega) (by omega);exact⟨o.tr _ _ _ b.2 a.1,o.tr _ _ _ a.2 b.1⟩
 ·exact⟨o.irr _,o.irr _⟩
theorem ZcL(o:Ord ans):∀(f:Nat) (p:Array Nat) (m q:Nat),Pl n p->1<=m->m+f<=n->q+1<=m->Zdl ans p m->ZpZ ans p m q->Zbr n ans s (kas_desc f p m q) fun r=>Pl n r.1/\1<=r.2.1/\r.2.1<=m+f/\r.2.2+1<=r.2.1/\Zdl ans r.1 r.2.1/\ZpZ ans r.1 r.2.1 r.2.2
 |0,p,m,q,hp,h1,h2,hq,hf,ht=>⟨hp,h1,Nat.le_refl _,hq,hf,ht⟩
 |f+1,p,m,q,hp,h1,h2,hq,hf,ht=>by
  unfold kas_desc;refine⟨hp.lt (by omega),hp.lt (by omega), ?_⟩;have more:∀(p':Array Nat),Zdl ans p' m->ans (at_ p' (m-1)) (at_ p' m)=false->Zdl ans p' (m+1):=fun p' hf' l i j hij hj=>by
   by_cases z:j<m
   ·exact hf' i j hij z
   ·have ej:j=m:=by omega
    subst ej
    by_cases z2:i=j
    ·subst z2;exact o.irr _
    ·exact o.tr (at_ p' j) (at_ p' (j-1)) (at_ p' i) l (hf' _ _ (by omega) (by omega))
  cases e:ans (p.getD m 0) (p.getD (m-1) 0) with
  |true=>
   (dsimp only;rw[if_pos rfl])
   have one:∀p':Array Nat,ZpZ ans p' (m+1) 0:=fun p' k a b=>by
    have ek:k=m:=by omega
    subst ek;exact⟨o.irr _,o.irr _⟩
   by_cases z:q>0
   ·rw[if_pos z];have al:=Zkv o (by rw[hp.size];omega) hq ht
    have f':=Zhi o hf al;refine XJ (fun r ⟨a,b,c,d⟩=>⟨a,b,by omega,d⟩) (ZcL o f _ (m+1) 0 (hp.rev _ _) (by omega) (by omega) (by omega) (more _ f' ?_) (one _));have em:at_ (kas_rev p (m-(q+1)) m) m=at_ p m:=by rw[Zdm (by rw[hp.size];omega),if_neg (by omega)]
    rw[em];exact o.tr (at_ p m) (at_ p (m-1)) _ (o.asym _ _ e) (al (m-1) (by omega)).2
   ·rw[if_neg z];exact XJ (fun r ⟨a,b,c,d⟩=>⟨a,b,by omega,d⟩) (ZcL o f p (m+1) 0 hp (by omega) (by omega) (by omega) (more _ hf (o.asym _ _ e)) (one _))
  |false=>
   (dsimp only;rw[if_neg (by simp)])
   refine⟨hp.lt (by omega),hp.lt (by omega), ?_⟩;cases e2:ans (p.getD (m-1) 0) (p.getD m 0) with
   |true=>(dsimp only;rw[if_pos rfl]);exact⟨hp,h1,(show m<=m+(f+1) by omega),hq,hf,ht⟩
   |false=>
    (dsimp only;rw[if_neg (by simp)])
    refine XJ (fun r ⟨a,b,c,d⟩=>⟨a,b,by omega,d⟩) (ZcL o f p (m+1) (q+1) hp (by omega) (by omega) (by omega) (more _ hf e2) fun k a b=> ?_);show ans (at_ p k) (at_ p m)=false/\ans (at_ p m) (at_ p k)=false
    by_cases z:k=m
    ·subst z;exact⟨o.irr _,o.irr _⟩
    ·have t:=ht k (by omega) (by omega);exact⟨o.tr (at_ p m) (at_ p (m-1)) (at_ p k) e2 t.1,o.tr (at_ p k) (at_ p (m-1)) (at_ p m) t.2 e⟩
theorem Zgh(o:Ord ans){p:Array Nat}(hp:Pl n p){m:Nat}(h1:1<=m)(h2:m<=n)(hf:Zdl ans p m):Zbr n ans s (kas_tail3 m n p) fun r=>1<=r.1/\r.1<=n/\Pl n r.2/\Zam ans r.2 r.1:=by
 unfold kas_tail3;refine Zbs (XJ (fun x ⟨a,b,c,d⟩=>⟨by omega,by omega,hp.rev _ _,c⟩) (ZfI o (hp.rev 0 m) (n-m) m h1 (by omega) fun i j hij hj=> ?_));rw[Zdm (by rw[hp.size];exact h2),Zdm (by rw[hp.size];exact h2),if_pos (by omega),if_pos (by omega)]
 exact hf _ _ (by omega) (by omega)
theorem Zdo(o:Ord ans){p:Array Nat}(hp:Pl n p){m:Nat}(h1:1<=m)(h2:m<n)(hf:Zdl ans p m)(hl:ans (at_ p m) (at_ p (m-1))=true):Zbr n ans s (kas_descPart m n p) fun r=>1<=r.1/\r.1<=n/\Pl n r.2/\Zam ans r.2 r.1:=by
 unfold kas_descPart;refine Zbs (XJ (fun r ⟨a,b,c,d,e,t⟩=> ?g) (ZcL o (n-(m+1)) p (m+1) 0 hp (by omega) (by omega) (by omega) (fun i j hij hj=> ?f) fun k a b=> ?t))
 case g=>
  split
  ·have al:=Zkv o (by rw[a.size];omega) d t
   exact Zgh o (a.rev _ _) b (by omega) (Zhi o e al)
  ·exact Zgh o a b (by omega) e
 case f=>
  by_cases z:j<m
  ·exact hf i j hij z
  ·have ej:j=m:=by omega
   subst ej
   by_cases z2:i=j
   ·subst z2;exact o.irr _
   ·exact o.tr (at_ p j) (at_ p (j-1)) (at_ p i) (o.asym _ _ hl) (hf _ _ (by omega) (by omega))
 case t=>
  have ek:k=m:=by omega
  subst ek;exact⟨o.irr _,o.irr _⟩
theorem Zkw(o:Ord ans){p:Array Nat}(hp:Pl n p)(h1:1<=n):Zbr n ans s (kas_count n p) fun r=>1<=r.1/\r.1<=n/\Pl n r.2/\Zam ans r.2 r.1:=by
 unfold kas_count;refine Zbs (XJ (fun x ⟨a,b,c,d⟩=> ?g) (ZfI o hp (n-1) 1 (Nat.le_refl _) (by omega) fun i j hij hj=> ?f))
 case g=>
  by_cases z:x=n
  ·rw[if_pos (by simpa using z)];exact⟨a,by omega,hp,c⟩
  ·rw[if_neg (by simpa using z)];have l:=d (by omega)
   by_cases z2:x>1
   ·rw[if_pos z2];refine⟨hp.lt (by omega),hp.lt (by omega), ?_⟩;cases e:ans (p.getD 0 0) (p.getD (x-1) 0) with
    |true=>(dsimp only;rw[if_pos rfl]);exact⟨a,by omega,hp,c⟩
    |false=>
     (dsimp only;rw[if_neg (by simp)])
     have al:∀i j,i<x->j<x->ans (at_ p i) (at_ p j)=false:=fun i j hi hj=>o.tr (at_ p j) (at_ p 0) (at_ p i) (o.tr (at_ p j) (at_ p (x-1)) (at_ p 0) (c _ _ (by omega) (by omega)) e) (c _ _ (by omega) hi);have hx:x<=p.size:=by rw[hp.size];omega
     refine Zdo o (hp.rev 0 x) a (by omega) (fun i j hij hj=> ?_) ?_
     ·rw[Zdm hx,Zdm hx,if_pos (by omega),if_pos (by omega)];exact al _ _ (by omega) (by omega)
     ·rw[Zdm hx,Zdm hx,if_neg (by omega),if_pos (by omega),show 0+x-1-(x-1)=0 by omega];cases e3:ans (at_ p x) (at_ p 0) with
      |true=>rfl
      |false=>
       have:=o.tr (at_ p (x-1)) (at_ p 0) (at_ p x) e e3;rw[l] at this
       exact this.symm
   ·rw[if_neg z2];have ex:x=1:=by omega
    subst ex;exact Zdo o hp (Nat.le_refl _) (by omega) (fun i j hij hj=>by
     have:i=j:=by omega
     subst this;exact o.irr _) l
 case f=>
  have:i=j:=by omega
  subst this;exact o.irr _
theorem ZlJ(o:Ord ans)(h1:1<=n):Zbr n ans s (kas_sort n) fun q=>Pl n q/\Zam ans q n:=by
 unfold kas_sort;have p0:Pl n (List.toArray (List.range n)):=⟨by simp,Array.Perm.refl _⟩
 refine Zbs (XJ (fun r ⟨a,b,c,d⟩=> ?_) (Zkw o p0 h1))
 split
 ·have e:max r.1 1=r.1:=by omega
  rw[e];exact ZiN o _ _ _ c (by omega) d
 ·have e:r.1=n:=by omega
  rw[e] at d
  exact⟨c,d⟩
end
end L3
namespace L3
open PySem
structure STO {α:Type} (lt:α->α->Bool):Prop where
 irr:∀a,lt a a=false
 tr:∀a b c,lt a b=true->lt b c=true->lt a c=true
 tri:∀a b,lt a b=true\/a=b\/lt b a=true
theorem STO.asym{α:Type}{lt:α->α->Bool}(o:STO lt){a b:α}(h:lt a b=true):lt b a=false:=by
 cases e:lt b a with
 |false=>rfl
 |true=>exact(o.tr a b a h e).symm.trans (o.irr a)
theorem STO.ord{α:Type}{lt:α->α->Bool}(o:STO lt)(f:Nat->α):Ord fun i j=>lt (f i) (f j) where
 asym:=fun i j h=>o.asym h
 tr:=fun i j k h1 h2=>by
  cases e:lt (f k) (f i) with
  |false=>rfl
  |true=>
   rcases o.tri (f i) (f j) with z|z|z
   ·exact(o.tr _ _ _ e z).symm.trans h2
   ·rw[z] at e;exact e.symm.trans h2
   ·exact z.symm.trans h1
def ZaE(a b:Int):Bool:=decide (a<b)
theorem Zcr:STO ZaE:=⟨fun a=>decide_eq_false (by omega),fun a b c h1 h2=>decide_eq_true (by have:=of_decide_eq_true h1;have:=of_decide_eq_true h2;omega),fun a b=>by
 rcases Int.lt_trichotomy a b with h|h|h
 ·exact .inl (decide_eq_true h)
 ·exact .inr (.inl h)
 ·exact .inr (.inr (decide_eq_true h))⟩
def Zhj{α:Type} [DecidableEq α](lt:α->α->Bool):List α->List α->Bool
 |[],[]=>false
 |[],_::_=>true
 |_::_,[]=>false
 |a::r,b::t=>if a=b then Zhj lt r t else lt a b
theorem Zou{α:Type} [DecidableEq α]{lt:α->α->Bool}(o:STO lt):STO (Zhj lt) where
 irr:=fun l=>by
  induction l with
  |nil=>rfl
  |cons a r ih=>unfold Zhj;rw[if_pos rfl];exact ih
 tr:=fun x=>by
  induction x with
  |nil=>intro y z h1 h2;cases y with
   |nil=>exact h2
   |cons b t=>cases z with
    |nil=>exact absurd h2 (by simp[Zhj])
    |cons c u=>rfl
  |cons a r ih=>intro y z h1 h2;cases y with
   |nil=>exact absurd h1 (by simp[Zhj])
   |cons b t=>cases z with
    |nil=>exact absurd h2 (by simp[Zhj])
    |cons c u=>
     unfold Zhj at h1 h2⊢
     by_cases e1:a=b
     ·subst e1;rw[if_pos rfl] at h1
      by_cases e2:a=c
      ·rw[if_pos e2] at h2⊢;exact ih t u h1 h2
      ·rw[if_neg e2] at h2⊢;exact h2
     ·rw[if_neg e1] at h1
      by_cases e2:b=c
      ·subst e2;rw[if_neg e1];exact h1
      ·rw[if_neg e2] at h2
       have h3:=o.tr _ _ _ h1 h2
       by_cases e3:a=c
       ·subst e3;rw[o.irr] at h3;cases h3
       ·rw[if_neg e3];exact h3
 tri:=fun x=>by
  induction x with
  |nil=>intro y;cases y with
   |nil=>exact .inr (.inl rfl)
   |cons b t=>exact .inl rfl
  |cons a r ih=>intro y;cases y with
   |nil=>exact .inr (.inr rfl)
   |cons b t=>
    unfold Zhj
    by_cases e:a=b
    ·subst e;rw[if_pos rfl,if_pos rfl];rcases ih t with h|h|h
     ·exact .inl h
     ·exact .inr (.inl (by rw[h]))
     ·exact .inr (.inr h)
    ·rw[if_neg e,if_neg (Ne.symm e)];rcases o.tri a b with h|h|h
     ·exact .inl h
     ·exact absurd h e
     ·exact .inr (.inr h)
def Zie{α β:Type} [DecidableEq α](la:α->α->Bool)(lb:β->β->Bool)(x y:α×β):Bool:=if x.1=y.1 then lb x.2 y.2 else la x.1 y.1
theorem Zf5{α β:Type} [DecidableEq α]{la:α->α->Bool}{lb:β->β->Bool}(oa:STO la)(ob:STO lb):STO (Zie la lb) where
 irr:=fun x=>by unfold Zie;rw[if_pos rfl];exact ob.irr _
 tr:=fun⟨a,x⟩ ⟨b,y⟩ ⟨c,z⟩ h1 h2=>by
  unfold Zie at h1 h2⊢
  dsimp only at h1 h2⊢
  by_cases e1:a=b
  ·subst e1;rw[if_pos rfl] at h1
   by_cases e2:a=c
   ·rw[if_pos e2] at h2⊢;exact ob.tr _ _ _ h1 h2
   ·rw[if_neg e2] at h2⊢;exact h2
  ·rw[if_neg e1] at h1
   by_cases e2:b=c
   ·subst e2;rw[if_neg e1];exact h1
   ·rw[if_neg e2] at h2
    have h3:=oa.tr _ _ _ h1 h2
    by_cases e3:a=c
    ·subst e3;rw[oa.irr] at h3;cases h3
    ·rw[if_neg e3];exact h3
 tri:=fun⟨a,x⟩ ⟨b,y⟩=>by
  unfold Zie
  dsimp only
  by_cases e:a=b
  ·subst e;rw[if_pos rfl,if_pos rfl];rcases ob.tri x y with h|h|h
   ·exact .inl h
   ·exact .inr (.inl (by rw[h]))
   ·exact .inr (.inr h)
  ·rw[if_neg e,if_neg (Ne.symm e)];rcases oa.tri a b with h|h|h
   ·exact .inl h
   ·exact absurd h e
   ·exact .inr (.inr h)
def ZlK(a b:List Nat):Bool:=decide (a<b)
theorem Zhk:∀a b:List Nat,ZlK a b=Zhj (fun x y=>decide (x<y)) a b
 |[],[]=>rfl
 |[],_::_=>rfl
 |_::_,[]=>rfl
 |a::r,b::t=>by
  unfold Zhj;have e:ZlK (a::r) (b::t)=(decide (a<b)||(a==b&&ZlK r t)):=StrLaws.lt_cons_cons a b r t;rw[e,Zhk r t]
  by_cases q:a=b
  ·subst q;rw[if_pos rfl];simp
  ·rw[if_neg q];simp[q]
def Yw(a b:Str):Bool:=decide (a.cps.toList<b.cps.toList)
theorem Yn:STO Yw:=by
 have o:STO fun x y:Nat=>decide (x<y):=⟨fun a=>decide_eq_false (by omega),fun a b c h1 h2=>decide_eq_true (by have:=of_decide_eq_true h1;have:=of_decide_eq_true h2;omega),fun a b=>by
  rcases Nat.lt_trichotomy a b with h|h|h
  ·exact .inl (decide_eq_true h)
  ·exact .inr (.inl h)
  ·exact .inr (.inr (decide_eq_true h))⟩
 have L:=Zou o;have e:∀a b:Str,Yw a b=Zhj (fun x y=>decide (x<y)) a.cps.toList b.cps.toList:=fun a b=>Zhk _ _;refine⟨fun a=>(e a a).trans (L.irr _),fun a b c h1 h2=> ?_,fun a b=> ?_⟩
 ·rw[e] at h1 h2⊢;exact L.tr _ _ _ h1 h2
 ·rw[e,e];rcases L.tri a.cps.toList b.cps.toList with h|h|h
  ·exact .inl h
  ·refine .inr (.inl ?_);obtain⟨⟨x⟩⟩:=a;obtain⟨⟨y⟩⟩:=b;have h:x=y:=h;rw[h]
  ·exact .inr (.inr h)
abbrev Lf:=Str×Int
def Zgt:Lf->Lf->Bool:=Zie Yw ZaE
theorem Zf6:STO Zgt:=Zf5 Yn Zcr
end L3
namespace L3
open PySem PySem.Spec PyProof.Rows L2
def ZlL(e c:Nat->Bool)(fin:Bool):List Nat->Bool
 |[]=>fin
 |i::r=>if e i=true then ZlL e c fin r else c i
section
variable {P:Program} {w:World} (l b:Addr) (xs ys:Array Value) (n m:Nat) (d1 d2:Option Addr) (s1 s2:Array (Option Value)) (e c:Nat->Bool)
abbrev Zn6(xs ys:Array Value)(e c:Nat->Bool)(i:Nat):Bool:=ZlL e c (decide (xs.size<ys.size)) ((List.range (min xs.size ys.size)).drop i)
theorem Zs6:MeetsIn P w (Builtin.«tuple.__lt__» ⟨[.ref l,.ref b],[]⟩) (fun A R s=>s.heap.get? l=some (Zkt d1 xs n s1)/\s.heap.get? b=some (Zkt d2 ys m s2)/\
  (∀j (h1:j<xs.size) (h2:j<ys.size),EqP P w A.in1 s xs[j] ys[j] (e j))/\(∀j (h1:j<xs.size) (h2:j<ys.size),e j=false->RcP P w A.in1 s .Lt xs[j] ys[j] (c j))/\R (.ok (.ret (.bool (Zn6 xs ys e c 0)))) s):=
 .of_wp fun A R s h=>by
  obtain⟨hq,gs,dr,tk,oss⟩:=s;obtain⟨u1,u2,ue,uc,q⟩:=h;have sub:=AutoSeq1.sub_tuple_tuple;have zl:(xs.toList.zip ys.toList).length=min xs.size ys.size:=by simp
  wp_walk using AutoSeq1.wpAny_loadPart' u1,AutoSeq1.wpAny_loadPart' u2,wpAny_forIn_list _ (fun rest a s'=>a.1=none/\s'=⟨hq,gs,dr,tk,oss⟩/\∃i,rest=(xs.toList.zip ys.toList).drop i/\
   R (.ok (.ret (.bool (Zn6 xs ys e c i)))) ⟨hq,gs,dr,tk,oss⟩) _
  case turn=>
   rintro⟨y,x⟩ rest a s' ⟨ha,rfl,i,zr,zq⟩;have lt:i<(xs.toList.zip ys.toList).length:=Nat.lt_of_not_le fun z=>by rw[List.drop_of_length_le z] at zr;cases zr
   have lm:i<min xs.size ys.size:=zl▸lt;have l1:i<xs.size:=by omega
   have l2:i<ys.size:=by omega
   rw[List.drop_eq_getElem_cons lt] at zr
   injection zr with zyx zrest
   obtain rfl:y=xs[i]:=by simpa using congrArg Prod.fst zyx
   obtain rfl:x=ys[i]:=by simpa using congrArg Prod.snd zyx
   have zd:(List.range (min xs.size ys.size)).drop i=i::(List.range (min xs.size ys.size)).drop (i+1):=by simp[List.drop_eq_getElem_cons,lm]
   unfold Zn6 at zq
   rw[zd] at zq
   unfold ZlL at zq
   refine wpAny_bind (ue i l1 l2 _ _ ?_);cases ei:e i with
   |true=>
    rw[ei,if_pos rfl] at zq
    wp_walk
    exact⟨rfl,rfl,i+1,zrest,zq⟩
   |false=>
    rw[ei,if_neg (by simp)] at zq
    have rc:=uc i l1 l2 ei;unfold RcP at rc
    generalize richCompare CmpOp.Lt xs[i] ys[i]=m at rc⊢
    wp_walk
    first|refine wpAny_bind (rc _ _ ?_)|refine rc _ _ ?_
    wp_walk
    exact⟨_,rfl,zq⟩
  case fin=>
   rintro⟨a1,a2⟩ s' ⟨ha,rfl,i,zr,zq⟩;simp only at ha
   subst ha;have ge:min xs.size ys.size<=i:=Nat.le_of_not_lt fun z=>by rw[List.drop_eq_getElem_cons (zl▸z:i<(xs.toList.zip ys.toList).length)] at zr;cases zr
   unfold Zn6 at zq
   rw[List.drop_of_length_le (by simpa using ge)] at zq
   wp_walk
   exact⟨_,rfl,by simpa [Builtin.Tuple.tupleCompareSizes,ZlL] using zq⟩
  case h=>exact⟨rfl,rfl,0,rfl,q⟩
end
section
variable {P:Program} {w:World} {A:Around} {s:Shared} {l b:Addr} {xs ys:Array Value} {e c:Nat->Bool}
theorem Zrf(hl:s.heap.IsTuple l xs)(hb:s.heap.IsTuple b ys)(hu:A.units<cLine)(he:∀j (h1:j<xs.size) (h2:j<ys.size),EqP P w A.in1 s xs[j] ys[j] (e j))(hc:∀j (h1:j<xs.size) (h2:j<ys.size),e j=false->RcP P w A.in1 s .Lt xs[j] ys[j] (c j)):RcP P w A s .Lt (.ref l) (.ref b) (Zn6 xs ys e c 0):=by
 obtain⟨⟨c1,d1,t1,s1⟩,o1,k1,n,e1⟩:=id hl;obtain⟨⟨c2,d2,t2,s2⟩,o2,k2,m,e2⟩:=id hb;simp only at k1 e1 k2 e2
 subst k1 e1 k2 e2;exact fun E Q q=>wpAny_richCompare_same_room hl.typeIs hb.typeIs F.slot_tuple_lt (call_meetsIn F.slot_tuple_lt hl.typeIs F.entry_tuple_lt (F.args_tuple_lt_2 _ _) (Zs6 l b xs ys n m d1 d2 s1 s2 e c) ⟨o1,o2,he,hc,Zbi q⟩) hu
end
end L3
namespace L3
open PySem PySem.Spec PyProof.Rows L2 PySem.W PySem.Calls
section
variable {X:Cx} {pins:List (Addr×Obj)} {σ:L2.St} {H:Hp} {s:Shared} {A:Around}
theorem Zkx(I:L2.Inv X pins σ H s){x:Lf}{p:Addr}(h:SqT X.K H p [.str x.1,.int x.2]):∃t u,s.heap.IsTuple p #[.str x.1 t,.int x.2 u]:=by
 obtain⟨its,r,T,_⟩:=I.tuple h;cases r with
 |cons a r=>
  cases r with
  |cons b r=>
   cases r;obtain⟨t,rfl⟩:=a;obtain⟨u,rfl⟩:=b;exact⟨t,u,T⟩
theorem Zs7(I:L2.Inv X pins σ H s){x y:Lf}{a b:Addr}(ha:SqT X.K H a [.str x.1,.int x.2])(hb:SqT X.K H b [.str y.1,.int y.2])(hu:A.units<cLine):RcP X.prog X.w A s .Lt (.ref a) (.ref b) (Zgt x y):=by
 obtain⟨t,u,T1⟩:=Zkx I ha;obtain⟨t',u',T2⟩:=Zkx I hb;have go:=Zrf (P:=X.prog) (w:=X.w) (A:=A) (e:=fun j=>if j=0 then decide (x.1=y.1) else(x.2==y.2)) (c:=fun j=>if j=0 then Yw x.1 y.1 else ZaE x.2 y.2) T1 T2 hu (fun j h1 h2=> ?_) (fun j h1 h2 z=> ?_)
 ·have e:Zn6 #[Value.str x.1 t,Value.int x.2 u] #[Value.str y.1 t',Value.int y.2 u'] (fun j=>if j=0 then decide (x.1=y.1) else(x.2==y.2)) (fun j=>if j=0 then Yw x.1 y.1 else ZaE x.2 y.2) 0=Zgt x y:=by
   show(if decide (x.1=y.1)=true then(if(x.2==y.2)=true then false else ZaE x.2 y.2) else Yw x.1 y.1)=if x.1=y.1 then ZaE x.2 y.2 else Yw x.1 y.1
   by_cases z:x.1=y.1
   ·rw[if_pos (decide_eq_true z),if_pos z]
    by_cases z2:x.2=y.2
    ·rw[z2,beq_self_eq_true,if_pos rfl,Zcr.irr]
    ·rw[beq_false_of_ne z2,if_neg (by simp)]
   ·rw[if_neg (by rw[decide_eq_false z];simp),if_neg z]
  rw[e] at go
  exact go
 ·match j,h1,h2 with
  |0,_,_=>exact fun E Q q=>wpAny_eqBool_str q
  |1,_,_=>exact fun E Q q=>wpAny_eqBool_int q
 ·match j,h1,h2 with
  |0,_,_=>exact fun E Q q=>PySem.P.lt_str q
  |1,_,_=>exact fun E Q q=>PyProof.Rows.lt_int q
end
end L3
namespace L3
open PySem PySem.Spec PyProof.Rows L2 PySem.W PySem.Calls
section
variable {prog:Program} {w:World} {A:Around} {E:Value->Shared->Prop} {s:Shared} {ks vs:List Value} {ans:Nat->Nat->Bool}
def Zjv(prog:Program)(w:World)(A:Around)(κ:SortKind)(ks:List Value)(n:Nat)(ans:Nat->Nat->Bool)(s:Shared):Prop:=
 ∀i j,i<n->j<n->∀C:Bool->Shared->Prop,C (ans i j) s->wpAny (model prog w) A (keyLt' κ (ks.getD i Value.none) (ks.getD j Value.none)) C (fun _ _=>False) s
structure Zrg (ks vs:List Value) (ans:Nat->Nat->Bool) (st:SortSt):Prop where
 ex:∃p:Array Nat,Pl vs.length p/\Zam ans p vs.length/\(arrOf st).map (·.2)=List.toArray (p.toList.map fun i=>vs.getD i Value.none)
 ok:failedOf st=none
theorem Zn7{Q:SortSt->Shared->Prop}{κ:SortKind}(o:Ord ans)(hl:ks.length=vs.length)(h2:2<=vs.length)(h64:vs.length<64)(hk:Zjv prog w A κ ks vs.length ans s)(q:∀st,Zrg ks vs ans st->Q st s):wpAny (model prog w) A ((sortRuns').run (SortSt.mk' κ (ks.toArray.zip vs.toArray) #[] 7 none)) (fun r s'=>Q r.2 s') E s:=by
 refine kat_run (G:=fun p s'=>Pl vs.length p/\Zam ans p vs.length/\s'=s) hl h2 h64 (fun p st s' _ e f g=> ?_) (Zku (fun s'=>s'=s) (fun i j C s1 hi hj e hC=> ?_) (fun a s' z e=>⟨z.1,z.2,e⟩) _ s s (ZlJ o (by omega)) rfl)
 ·obtain⟨a,b,rfl⟩:=g;exact q st ⟨⟨p,a,b,kat_snds hl e⟩,f⟩
 ·subst e;exact hk i j hi hj _ (hC _ rfl)
theorem Zov(o:Ord ans)(hl:ks.length=vs.length)(h2:vs.length<2)(κ:SortKind):Zrg ks vs ans (SortSt.mk' κ (ks.toArray.zip vs.toArray) #[] 7 none):=by
 refine⟨⟨List.toArray (List.range vs.length),⟨by simp,Array.Perm.refl _⟩,fun i j hij hj=> ?_, ?_⟩,rfl⟩
 ·have:i=j:=by omega
  subst this;exact o.irr _
 ·apply Array.toList_inj.mp
  show((ks.toArray.zip vs.toArray).map (·.2)).toList=_;rw[Array.toList_map,ksk_zip];show List.map (·.2) (ks.toArray.toList.zip vs)=(List.range vs.length).map fun i=>vs.getD i Value.none;have e:List.map (·.2) (ks.toArray.toList.zip vs)=vs:=List.map_snd_zip (by simp[hl]);rw[e]
  apply List.ext_getElem
  ·simp
  ·intro i h1 h3;simp[h1]
end
section
variable {X:Cx} {pins:List (Addr×Obj)} {σ:L2.St} {H:Hp} {s:Shared}
structure Zgu (X:Cx) (a:Addr):Prop where
 new:X.s₀.heap.objs.size<=a
 cells:∀x c,X.env.cells.lookup x=some c->c≠a
 pn:∀p∈X.pn,p.1≠a
theorem ZgL(I:L2.Inv X pins σ H s){a:Addr}(h:s.heap.objs.size<=a):Zgu X a:=by
 refine⟨Nat.le_trans I.sz h,fun x c e z=> ?_,fun p hp z=> ?_⟩
 ·obtain⟨v,o,e1,_⟩:=I.cell x c e;exact absurd (z▸Heap.lt_size e1) (Nat.not_lt.mpr h)
 ·exact absurd (z▸Heap.lt_size (I.pin p (List.mem_append_left _ hp)).1) (Nat.not_lt.mpr h)
theorem Ze5{ps:List (Addr×Obj)}{a:Addr}{o o':Obj}{h':Heap}(I:L2.Inv X ((a,o)::ps) σ H s)(l:Zgu X a)(n:∀p∈ps,p.1≠a)(k:∀b u,b≠a->s.heap.get? b=some u->h'.get? b=some u)(e:h'.get? a=some o')(nc:∀v,o'.data≠.cell v):L2.Inv X ((a,o')::ps) σ H {s with heap:=h'}:=by
 have pa:=I.pin (a,o) (List.mem_append_right _ (.head _));have I1:L2.Inv X ps σ H s:=I.pins_of fun p hp=>I.pin p (List.mem_append_right _ (.tail _ hp));have I2:L2.Inv X ps σ H {s with heap:=h'}:=I1.turned (it:=a) (t':=s.toks) k pa.2.1 pa.2.2.1 (.inr l.new) l.cells fun p hp=>(List.mem_append.mp hp).elim (l.pn p) (n p);refine I2.pins_of fun p hp=> ?_;rcases List.mem_cons.mp hp with rfl|hp
 ·exact⟨e,pa.2.1,pa.2.2.1,pa.2.2.2.1,nc⟩
 ·exact I2.pin p (List.mem_append_right _ hp)
theorem YQ{h:Heap}{a:Addr}{f:Array Value->Array Value}:∀b u,b≠a->h.get? b=some u->(h.update a (Obj.mapSeq f)).get? b=some u:=fun b u n e=>(Heap.get?_update_other _ _ (Ne.symm n)).trans e
theorem Jb{c:String}{xs:Array Value}{n:Nat}:∀v,(seqObj c xs n).data≠.cell v:=fun _ z=>nomatch z
variable {k:Nat} {g:Addr} {fd:FuncData} {p:Str} {sp:Sp}
theorem Zjw:∀{xs:List V} {vs:List Value} (_:Yb xs vs) (i:Nat),i<vs.length->ZV (xs.getD i .non) (vs.getD i Value.none)
 |_,_,.nil,i,h=>absurd h (Nat.not_lt_zero _)
 |_,_,.cons v _,0,_=>v
 |_,_,.cons _ t,i+1,h=>Zjw t i (by simpa using h)
theorem Zq0{xs:List V}{vs:List Value}(r:Yb xs vs){p:Array Nat}(pl:Pl vs.length p):Yb (p.toList.map fun i=>xs.getD i .non) (p.toList.map fun i=>vs.getD i Value.none):=by
 have mem:∀i∈p.toList,i<vs.length:=fun i hi=>by
  have:=(Array.perm_iff_toList_perm.mp pl.perm).mem_iff (a:=i)
  simpa using this.mp hi
 have go:∀l:List Nat,(∀i∈l,i<vs.length)->Yb (l.map fun i=>xs.getD i .non) (l.map fun i=>vs.getD i Value.none):=by
  intro l
  induction l with
  |nil=>exact fun _=> .nil
  |cons i l ih=>exact fun h=> .cons (Zjw r i (h i (.head _))) (ih fun j hj=>h j (.tail _ hj))
 exact go _ mem
theorem Zq1{α β:Type}{xs:List α}{ks:List β}{a:α}{b:β}(hl:xs.length=ks.length){p:Array Nat}(pl:Pl xs.length p):(p.toList.map fun i=>(xs.getD i a,ks.getD i b)).Perm (xs.zip ks):=by
 have e:(List.range xs.length).map (fun i=>(xs.getD i a,ks.getD i b))=xs.zip ks:=by
  apply List.ext_getElem
  ·simp[hl]
  ·intro i h1 h2;have h3:i<xs.length:=by simpa using h1
   have h4:i<ks.length:=by omega
   simp[h3,h4]
 rw[<-e];refine List.Perm.map _ ?_
 simpa using Array.perm_iff_toList_perm.mp pl.perm
theorem Zq2{α β:Type}{lt:β->β->Bool}{f:Nat->α}{kk:Nat->β}{n:Nat}{p:Array Nat}(so:Zam (fun i j=>lt (kk i) (kk j)) p n)(pl:Pl n p):(p.toList.map fun i=>(f i,kk i)).Pairwise (fun a b=>lt b.2 a.2=false):=by
 rw[List.pairwise_map,List.pairwise_iff_getElem];intro i j hi hj hij;have sz:p.toList.length=n:=by rw[Array.length_toList,pl.size]
 have h:=so i j (Nat.le_of_lt hij) (by omega);have e:∀m (hm:m<p.toList.length),at_ p m=p.toList[m]:=fun m hm=>by
  have hm':m<p.size:=by simpa using hm
  simp[at_,Array.getD,hm']
 rw[e i hi,e j hj] at h
 exact h
end
end L3
namespace L3
open PySem PySem.Spec PyProof.Rows L2 PySem.W PySem.Calls
section
variable {prog:Program} {w:World} {A:Around} {E:Value->Shared->Prop} {s:Shared} {vs:List Value} {ans:Nat->Nat->Bool}
abbrev ZbR(h:Heap)(D:Addr)(vs:List Value):Heap:=((h.update D (Obj.mapSeq fun _=>(#[]:Array Value))).push (seqObj "tuple" vs.toArray 0)).push (seqObj "list" #[] 0)
theorem ZlM{D:Addr}{n:Nat}{P:PySem.Fin->Shared->Prop}(ho:s.heap.get? D=some (seqObj "list" vs.toArray n))(h64:vs.length<64)(o:Ord ans)
  (hk:2<=vs.length->wpAny (model prog w) A (keyKind' vs.toArray) (fun κ s'=>s'={s with heap:=ZbR s.heap D vs}/\Zjv prog w A κ vs vs.length ans {s with heap:=ZbR s.heap D vs}) (fun _ _=>False) {s with heap:=ZbR s.heap D vs})
  (q:∀p:Array Nat,Pl vs.length p->Zam ans p vs.length->P (.done (.ret .none)) {s with heap:=sortedHeap s.heap D vs (List.toArray (p.toList.map fun i=>vs.getD i Value.none))}):wpAny (model prog w) A (Builtin.«list.sort» ⟨[.ref D],[]⟩) P E s:=by
 have hz:vs.length<=sizeLine:=by rw[sizeLine_eq];omega
 have za:vs.toArray.size<=sizeLine:=by rw[List.size_toArray];exact hz
 obtain⟨e1,o1⟩:∃e1,(s.heap.update D (Obj.mapSeq fun _=>(#[]:Array Value))).get? D=some (seqObj "list" #[] e1):=⟨_,get?_update_seq ho fun _=> #[]⟩
 have o2:(ZbR s.heap D vs).get? D=some (seqObj "list" #[] e1):=Heap.get?_push_of_some _ (Heap.get?_push_of_some _ o1);rw[list_sort_plain];refine wpAny_bind (listItems_at ho rfl (wpAny_bind (listUpdate_at ho rfl (wpAny_bind (seqEpoch_at o1 rfl (wpAny_bind (wpAny_newTuple (wpAny_bind (wpAny_newList (wpAny_holding ?_) (Nat.zero_le _))) hz)))) za (Nat.zero_le _))));have zp:∀p:Array Nat,Pl vs.length p->(List.toArray (p.toList.map fun i=>vs.getD i Value.none)).size<=sizeLine+1:=fun p pl=>by rw[List.size_toArray,List.length_map,Array.length_toList,pl.size,sizeLine_eq];omega
 dsimp only
 by_cases h2:vs.length<2
 ·have h3:vs.toArray.size<2:=by rw[List.size_toArray];exact h2
  rw[if_pos h3,if_pos h3];refine wpAny_bind (wpAny_pure ?_);refine wpAny_bind (wpAny_pure ?_);obtain⟨⟨p,pl,so,hout⟩,_⟩:=Zov (ks:=vs) o rfl h2 general'
  try dsimp only
  rw[hout];refine wpAny_bind (seqEpoch_at o2 rfl (wpAny_bind (listUpdate_at o2 rfl ?_ (Nat.zero_le _) (zp p pl))));simp only [reduceIte,bne_self_eq_false,Bool.false_eq_true];exact wpAny_pure (q p pl so)
 ·have h3:¬vs.toArray.size<2:=by rw[List.size_toArray];exact h2
  rw[if_neg h3,if_neg h3];refine wpAny_bind (wpAny_mono (hk (by omega)) (fun κ s0 z=> ?_) fun _ _ x=>x.elim);obtain⟨rfl,ak⟩:=z;refine wpAny_bind (wpAny_mono (Zn7 (Q:=fun st s'=>Zrg vs vs ans st/\s'={s with heap:=ZbR s.heap D vs}) o rfl (by omega) h64 ak fun st dn=>⟨dn,rfl⟩) (fun r s' z=> ?_) fun _ _ x=>x);obtain⟨⟨⟩,st⟩:=r;obtain⟨⟨⟨p,pl,so,hout⟩,hf⟩,rfl⟩:=z
  try dsimp only
  rw[hout,hf];refine wpAny_bind (seqEpoch_at o2 rfl (wpAny_bind (listUpdate_at o2 rfl ?_ (Nat.zero_le _) (zp p pl))));simp only [reduceIte,bne_self_eq_false,Bool.false_eq_true];exact wpAny_pure (q p pl so)
end
section
variable {X:Cx} {pins:List (Addr×Obj)} {σ:L2.St} {H:Hp} {s:Shared}
theorem Zow{h:Heap}{D:Addr}{vs:List Value}:∀b u,b≠D->h.get? b=some u->(ZbR h D vs).get? b=some u:=fun b u n e=>Heap.get?_push_of_some _ (Heap.get?_push_of_some _ (YQ b u n e))
end
end L3
namespace L3
open PySem PySem.Spec PyProof.Rows L2 PySem.W PySem.Calls
section
variable {X:Cx}
end
end L3
namespace L3
open PySem PySem.Spec PyProof.Rows L2
section
variable {X:Cx}
def Zrh(H₀:Hp)(t:TE):TE:=fun σ H Q=>t σ H fun v H1=>∃a H2,Zr5 H₀ a H1 H2/\Q v H2
theorem Zf7{e:PySem.Expr}{t:TE}(h:PE X e t):PE X e (Zrh X.H₀ t):=fun pins s σ H Q I q=>
 thn (h pins s σ H _ I q) fun _ _ z=>by
  obtain⟨v,H1,I1,r1,a,H2,⟨hf,o,u,e1,rfl⟩,q1⟩:=z;exact⟨v,_,Zob I1 e1 hf,r1,q1⟩
end
end L3
namespace M4
open PySem L3 M3
section
variable {α:Type} {lt:α->α->Bool}
def Asc(lt:α->α->Bool)(l:List α):Prop:=l.Pairwise fun x y=>lt y x=false
theorem ZgM(o:STO lt):∀{a b:List α},a.Perm b->Asc lt a->Asc lt b->a=b
 |[],b,p,_,_=>(List.nil_perm.mp p).symm
 |x::a,[],p,_,_=>absurd (List.perm_nil.mp p) (by simp)
 |x::a,y::b,p,ha,hb=>by
  have ha:=List.pairwise_cons.mp ha;have hb:=List.pairwise_cons.mp hb;have e:x=y:=by
   have m1:x∈y::b:=p.mem_iff.mp (List.mem_cons_self ..);have m2:y∈x::a:=p.mem_iff.mpr (List.mem_cons_self ..);rcases List.mem_cons.mp m1 with z|z
   ·exact z
   ·rcases List.mem_cons.mp m2 with w|w
    ·exact w.symm
    ·rcases o.tri x y with q|q|q
     ·exact absurd q (by rw[hb.1 x z];simp)
     ·exact q
     ·exact absurd q (by rw[ha.1 y w];simp)
  subst e;rw[ZgM o ((List.perm_cons x).mp p) ha.2 hb.2]
end
theorem Zox{c:Tb}{k:Str}{v:Int}(j:Str):lk (ZfH c k v) j=if j=k then some v else lk c j:=by
 have up:∀c:Tb,(∃p∈c,p.1=k)->lk (c.map fun p=>if p.1=k then(p.1,v) else p) j=if j=k then some v else lk c j:=by
  intro c
  induction c with
  |nil=>intro ⟨p,hp,_⟩;cases hp
  |cons q r ih=>
   intro hm
   by_cases e:q.1=k
   ·by_cases z:j=k
    ·subst z;rw[if_pos rfl];simp[lk,List.find?_cons,e]
    ·rw[if_neg z];have n1:¬q.1=j:=fun w=>z (w.symm.trans e);have h1:lk (q::r) j=lk r j:=by simp[lk,List.find?_cons,n1]
     have h2:lk ((q::r).map fun p=>if p.1=k then(p.1,v) else p) j=lk (r.map fun p=>if p.1=k then(p.1,v) else p) j:=by
      rw[List.map_cons,if_pos e];simp[lk,List.find?_cons,n1]
     rw[h1,h2]
     by_cases more:∃p∈r,p.1=k
     ·rw[ih more,if_neg z]
     ·have e3:(r.map fun p=>if p.1=k then(p.1,v) else p)=r:=by
       refine(List.map_congr_left fun p hp=> ?_).trans (List.map_id' r);rw[if_neg fun w=>more ⟨p,hp,w⟩]
      rw[e3]
   ·have more:∃p∈r,p.1=k:=by
     obtain⟨p,hp,w⟩:=hm;obtain rfl|hp:=List.mem_cons.mp hp
     ·exact absurd w e
     ·exact⟨p,hp,w⟩
    rw[List.map_cons,if_neg e]
    by_cases n1:q.1=j
    ·have z:¬j=k:=fun w=>e (n1.trans w);rw[if_neg z];simp[lk,List.find?_cons,n1]
    ·have h1:lk (q::r) j=lk r j:=by simp[lk,List.find?_cons,n1]
     have h2:∀t:Tb,lk (q::t) j=lk t j:=fun t=>by simp[lk,List.find?_cons,n1]
     rw[h1,h2,ih more]
 unfold ZfH
 by_cases m:(c.any fun p=>decide (p.1=k))=true
 ·rw[if_pos m];obtain⟨p,hp,e⟩:=List.any_eq_true.mp m;exact up c ⟨p,hp,of_decide_eq_true e⟩
 ·rw[if_neg m];have no:∀p∈c,¬p.1=k:=fun p hp e=>m (List.any_eq_true.mpr ⟨p,hp,decide_eq_true e⟩);clear m up
  induction c with
  |nil=>
   by_cases z:j=k
   ·rw[if_pos z];simp[lk,z]
   ·rw[if_neg z];have n1:¬k=j:=fun w=>z w.symm;simp[lk,List.find?_cons,n1]
  |cons q r ih=>
   have ih:=ih fun p hp=>no p (List.mem_cons_of_mem _ hp)
   by_cases n1:q.1=j
   ·have z:¬j=k:=fun w=>no q (List.mem_cons_self ..) (n1.trans w);rw[if_neg z];simp[lk,List.find?_cons,n1]
   ·have h2:∀t:Tb,lk (q::t) j=lk t j:=fun t=>by simp[lk,List.find?_cons,n1]
    rw[List.cons_append,h2,h2,ih]
end M4
namespace L3
open PySem PySem.Spec PyProof.Rows L2 PySem.W PySem.Calls
section
variable {X:Cx} {pins:List (Addr×Obj)} {σ:L2.St} {H:Hp} {s:Shared} {A:Around}
theorem Zoy{ps:List (Addr×Obj)}{a:Addr}{o o':Obj}{h':Heap}{t':Nat}(I:L2.Inv X ((a,o)::ps) σ H s)(l:Zgu X a)(n:∀p∈ps,p.1≠a)(k:∀b u,b≠a->s.heap.get? b=some u->h'.get? b=some u)(e:h'.get? a=some o')(nc:∀v,o'.data≠.cell v):L2.Inv X ((a,o')::ps) σ H {s with heap:=h',toks:=t'}:=by
 have pa:=I.pin (a,o) (List.mem_append_right _ (.head _));have I1:L2.Inv X ps σ H s:=I.pins_of fun p hp=>I.pin p (List.mem_append_right _ (.tail _ hp));have I2:L2.Inv X ps σ H {s with heap:=h',toks:=t'}:=I1.turned (it:=a) (t':=t') k pa.2.1 pa.2.2.1 (.inr l.new) l.cells fun p hp=>(List.mem_append.mp hp).elim (l.pn p) (n p);refine I2.pins_of fun p hp=> ?_;rcases List.mem_cons.mp hp with rfl|hp
 ·exact⟨e,pa.2.1,pa.2.2.1,pa.2.2.2.1,nc⟩
 ·exact I2.pin p (List.mem_append_right _ hp)
theorem ZaF{ps:List (Addr×Obj)}{p q:Addr×Obj}(I:L2.Inv X (p::q::ps) σ H s):L2.Inv X (q::p::ps) σ H s:=
 I.pins_of fun r hr=>I.pin r (List.mem_append_right _ (by
  rcases List.mem_cons.mp hr with rfl|hr
  ·exact .tail _ (.head _)
  ·rcases List.mem_cons.mp hr with rfl|hr
   ·exact .head _
   ·exact .tail _ (.tail _ hr)))
variable {k:Nat} {g:Addr} {fd:FuncData} {p:Str} {sp:Sp}
abbrev Zs8(X:Cx)(pins:List (Addr×Obj))(σ:L2.St)(R:VK)(E:Value->Shared->Prop):Result->Shared->Prop:=fun r s'=>match r with| .ok (.ret v)=>EP X pins σ R v s'| .ok _=>False| .error e=>E e s'
section
variable {prog:Program} {w:World} {B:Around} {R:Result->Shared->Prop} {it S:Addr} {key:Value} {c:Nat} {s:Shared}
theorem Zhl{P:PySem.Fin->Shared->Prop}(hP:∀f s',P f s'->match f with| .done x=>R (.ok x) s'| .again c'=>c'.quiet=true/\codeAny (model prog w) B c' R s')
  (h:wpAny (model prog w) B.in1 (Builtin.«min.loop» ⟨[.ref it,key,.ref S],[]⟩) P (fun e s'=>R (.error e) s') s):codeAny (model prog w) B (.builtin "min.loop" ⟨[.ref it,key,.ref S],[]⟩) R s:=
 codeAny_builtin F.entry_min_loop (by
  have e:=Around.under_plainId (A:=B) F.plain_min_loop ⟨[Value.ref it,key,.ref S],[]⟩;rw[e];exact wpAny_mono h (fun f s' z=>hP f s' z) fun _ _ z=>z)
theorem Zoz:toString "min"++toString ".loop"="min.loop":=rfl
theorem Zq3{Kp:Heap->Prop}{ub uk:Value}(hS:s.heap.get? S=some (seqObj "list" #[ub,uk] c))(hn:∀(Q:Option Value->Shared->Prop) (E:Value->Shared->Prop),(∀h' tk,Kp h'->Q none {s with heap:=h',toks:=tk})->wpAny (model prog w) B.in1 (pyNext (.ref it)) Q E s)
  (kp:∀h',Kp h'->h'.get? S=some (seqObj "list" #[ub,uk] c))(q:∀h' tk,Kp h'->R (.ok (.ret ub)) {s with heap:=h'.update S (Obj.mapSeq fun _=> #[]),toks:=tk}):codeAny (model prog w) B (.builtin "min.loop" ⟨[.ref it,key,.ref S],[]⟩) R s:=by
 refine Zhl (P:=fun f s'=>match f with| .done x=>R (.ok x) s'| .again _=>False) (fun f s' z=>by cases f with|done x=>exact z|again _=>exact z.elim) ?_;show wpAny _ _ (seqItems? (.ref S)>>=_) _ _ s;refine wpAny_bind (wpAny_seqItems hS rfl (show wpAny _ _ (tryCatch (pyNext (.ref it)) _>>=_) _ _ s from ?_));refine wpAny_bind (wpAny_tryCatch (hn _ _ fun h' tk k=> ?_));show wpAny _ _ (updateSeq S (fun _=> #[])>>=_) _ _ _
 exact wpAny_bind (wpAny_updateSeq (kp h' k) rfl (wpAny_bind (wpAny_letGo (wpAny_pure (q h' tk k)))))
end
theorem Ze6{l it:Addr}{oI:Obj}{ps:List (Addr×Obj)}{xs:List V}{j:Nat}{x:V}(hh:X.A.handled=none)(nl:l≠it)(lI:Zgu X it)(n:∀p∈ps,p.1≠it)(hq:SqL X.K H l xs)(hx:xs[j]? =some x)(I:L2.Inv X ((it,oI)::ps) σ H s)(hit:s.heap.IsListIter it l j)(Q:Option Value->Shared->Prop)(E:Value->Shared->Prop)
  (q:∀v h' tk,(ZV x v/\∀tk',∃o,L2.Inv X ((it,o)::ps) σ H {s with heap:=h',toks:=tk'}/\∀h2:Heap,h2.get? it=some o->h2.IsListIter it l (j+1))->Q (some v) {s with heap:=h',toks:=tk}):wpAny (model X.prog X.w) X.A.in1 (pyNext (.ref it)) Q E s:=by
 obtain⟨vs,rx,pl,_⟩:=I.list hq;have lt:j<vs.length:=by rw[<-rx.length];exact(List.getElem?_eq_some_iff.mp hx).1
 refine(Walks.list (prog:=X.prog) (w:=X.w) (A:=X.A.in1) hh it l nl vs.toArray).item j s Q E (by rw[List.size_toArray];exact lt) ⟨hit,pl.isList⟩ fun v h' tk pv st kp=>q v h' tk ⟨?_,fun tk'=> ?_⟩
 ·have e:vs[j]? =some v:=by simpa using pv
  have r:=Zjw rx j lt;rw[List.getD_eq_getElem?_getD,List.getD_eq_getElem?_getD,hx,e] at r
  exact r
 ·obtain⟨⟨o,e1,e2,e3⟩,_⟩:=st;exact⟨o,Zoy I lI n (fun b u nb e=>kp b u (by simpa using nb) e) e1 (fun v z=>by rw[e3] at z;cases z),fun h2 e=>⟨o,e,e2,e3⟩⟩
end
end L3
namespace L3
open PySem PySem.Spec PyProof.Rows L2
section
variable {P:Program} {w:World} (l:Addr) (xs:Array Value) (n:Nat) (d1:Option Addr) (s1:Array (Option Value)) (y:Value) (e:Nat->Bool)
theorem Zri(k:Nat):∀i:Nat,xs.size-i=k->MeetsIn P w (Builtin.«list.__contains__.loop» ⟨[.ref l,y,rawInt i],[]⟩)
  (fun A R s=>s.heap.get? l=some (Zks d1 xs n s1)/\(∀j (h1:j<xs.size),EqP P w A.in1 s xs[j] y (e j))/\R (.ok (.ret (.bool (((List.range xs.size).drop i).any e)))) s):=by
 induction k with
 |zero=>
  intro i hk A R s h;obtain⟨hq,gs,dr,tk,oss⟩:=s;obtain⟨u1,ue,q⟩:=h;have v1:xs[((i:Nat):Int).toNat]? =none:=by simp;omega
  have v3:(List.range xs.size).drop i=[]:=by simp;omega
  rw[v3] at q
  wp_walk using AutoSeq1.wpAny_loadPart' u1
  rw[v1]
  wp_walk
  exact q
 |succ k ih=>
  intro i hk A R s h;obtain⟨hq,gs,dr,tk,oss⟩:=s;obtain⟨u1,ue,q⟩:=h;have t1:i<xs.size:=by omega
  have v1:xs[((i:Nat):Int).toNat]? =some xs[i]:=by simp[t1]
  have v3:(List.range xs.size).drop i=i::(List.range xs.size).drop (i+1):=by simp[List.drop_eq_getElem_cons,t1]
  have v4:((i:Int)+1)=((i+1:Nat):Int):=by push_cast;rfl
  rw[v3,List.any_cons] at q
  wp_walk using AutoSeq1.wpAny_loadPart' u1
  rw[v1];refine wpAny_bind (ue i t1 _ _ ?_);cases ei:e i with
  |true=>
   rw[ei,Bool.true_or] at q
   wp_walk
   exact q
  |false=>
   rw[ei,Bool.false_or] at q
   wp_walk
   rw[v4];refine⟨plainId_quiet MeetsSeq.plain_contains_loop _,codeAny_builtin MeetsSeq.entry_contains_loop ?_⟩;rw[Around.under_plainId MeetsSeq.plain_contains_loop _];exact ih (i+1) (by omega) A R _ ⟨u1,ue,q⟩
theorem Zrj:MeetsIn P w (Builtin.«list.__contains__» ⟨[.ref l,y],[]⟩)
  (fun A R s=>s.heap.get? l=some (Zks d1 xs n s1)/\(∀j (h1:j<xs.size),EqP P w A.in1 s xs[j] y (e j))/\R (.ok (.ret (.bool ((List.range xs.size).any e)))) s):=by
 intro A R s h;obtain⟨hq,gs,dr,tk,oss⟩:=s;obtain⟨u1,ue,q⟩:=h
 wp_walk using AutoSeq1.wpAny_loadPart' u1
 refine⟨plainId_quiet MeetsSeq.plain_contains_loop _,codeAny_builtin MeetsSeq.entry_contains_loop ?_⟩;rw[Around.under_plainId MeetsSeq.plain_contains_loop _];exact Zri l xs n d1 s1 y e _ 0 rfl A R _ ⟨u1,ue,by simpa using q⟩
end
section
variable {X:Cx} {pins:List (Addr×Obj)} {σ:L2.St} {H:Hp} {s:Shared} {A:Around} {E:Value->Shared->Prop}
theorem ZoA{l:Addr}{xs:Array Value}{y:Value}{e:Nat->Bool}{Q:Value->Shared->Prop}(hl:s.heap.IsList l xs)(he:∀j (h1:j<xs.size),EqP X.prog X.w A.in1 s xs[j] y (e j))(q:∀b,b=(List.range xs.size).any e->Q (.bool b) s):
  wpAny (model X.prog X.w) A (call (.builtin "list.__contains__") [.ref l,y]) (fun v s'=>∃b,v=.bool b/\Q (.bool b) s') E s:=by
 obtain⟨⟨c1,d1,t1,s1⟩,o1,k1,n,e1⟩:=id hl;simp only at k1 e1
 subst k1 e1;exact call_meetsIn F.slot_list_contains hl.typeIs F.entry_list_contains (F.args_list_contains_2 _ _) (Zrj l xs n d1 s1 y e) ⟨o1,he,_,rfl,q _ rfl⟩
theorem Zn8{α:Type}(f:α->Bool)(d:α):∀l:List α,((List.range l.length).any fun j=>f (l.getD j d))=l.any f:=by
 intro l;have e:l=(List.range l.length).map fun j=>l.getD j d:=by
  apply List.ext_getElem
  ·simp
  ·intro i h1 h2;simp[h1]
 conv=>rhs;rw[e]
 rw[List.any_map]
 rfl
def ZsQ(K:PySem.W.Frag)(neg:Bool):R2:=fun x y H Q=>∃p n d xs ds,y=.ref p/\n<=20/\SqL K H p xs/\Rep K H d x/\Zf4 K H ds xs/\(∀e∈ds,Zb6 n e d=true)/\Q (.bl (if neg then !(ds.any fun e=>Xu n e d) else ds.any fun e=>Xu n e d)) H
theorem Zq4(I:L2.Inv X pins σ H s){p:Addr}{n:Nat}{d:Dt}{x:V}{v:Value}{xs:List V}{ds:List Dt}(hn:n<=20)(hu:X.A.units+30<cLine)(rx:ZV x v)(r1:Rep X.K H d x)(rs:Zf4 X.K H ds xs)(lk:∀e∈ds,Zb6 n e d=true){us:List Value}(ru:Yb xs us):
  ∀j (h1:j<us.toArray.size),EqP X.prog X.w X.A.in1 s us.toArray[j] v (Xu n (ds.getD j (.v .non)) d):=fun j h1=>by
 have h2:j<us.length:=by simpa using h1
 obtain⟨y,ry,rv⟩:=Ze4 rs ru j h2;have hj:j<ds.length:=by rw[Paired.length rs,ru.length];exact h2
 have m:ds.getD j (.v .non)∈ds:=by rw[List.getD_eq_getElem?_getD,List.getElem?_eq_getElem hj];exact List.getElem_mem hj
 rw[List.getElem_toArray];exact(Zmr I n _ d y x _ v X.A.in1 ry r1 rv rx (lk _ m) (by show X.A.units+1+n<cLine;omega)).1
theorem ZiO(hu:X.A.units+30<cLine):OpR X (compareOp .NotIn) (ZsQ X.K true):=by
 intro pins s σ H x y v u Q I rx ry h;obtain⟨p,n,d,xs,ds,rfl,hn,hq,r1,rs,lk,q⟩:=h;cases ry;obtain⟨us,ru,pl,_⟩:=I.list hq;show wpAny _ X.A (do return Value.bool (!(<-contains (.ref p) v))) _ _ s;refine wpAny_bind (wpAny_contains_slot pl.isList.typeIs F.slot_list_contains (wpAny_mono (ZoA (X:=X) (Q:=fun v s'=>∃b,v=.bool b/\EP X pins σ Q (.bool (!b)) s') pl.isList (Zq4 (p:=p) I hn hu rx r1 rs lk ru) fun b hb=>⟨b,rfl,.bl (!b),H,I,rfl, ?_⟩) (fun v s' hv=> ?_) fun _ _ e=>e))
 ·have le:us.toArray.size=ds.length:=by rw[List.size_toArray,<-ru.length,Paired.length rs]
  rw[hb,le,Zn8 (fun e=>Xu n e d)];exact q
 ·obtain⟨b,rfl,b',e,told⟩:=hv;cases e;exact wpAny_truthy_bool (wpAny_pure told)
end
end L3
namespace L3
open PySem PySem.Spec PyProof.Rows L2 PySem.W PySem.Calls
section
variable {X:Cx}
end
end L3
namespace L3
open PySem PySem.Spec PyProof.Rows L2 PySem.W PySem.Calls
section
variable {X:Cx} {pins:List (Addr×Obj)} {σ:L2.St} {H:Hp} {s:Shared} {a:Addr} {kvs:List (Key×V)} {k:Key} {u:Value} {A:Around} {E:Value->Shared->Prop}
theorem ZoB{v:V}{r:Value}{Q:Value->Shared->Prop}(I:L2.Inv X pins σ H s)(e:H a=some (.dK kvs))(hl:kvs.length<sizeLine)(ry:ZV (kV k) u)(rv:ZV v r)
  (h1:∀w s' x,YB kvs k=some x->L2.Inv X pins σ H s'->ZV x w->Q w s')(h2:∀s',YB kvs k=none->L2.Inv X pins σ (upd H a (.dK (Jo kvs k v))) s'->Q r s'):
  wpAny (model X.prog X.w) A (call (.builtin "dict.setdefault") [.ref a,u,r]) Q E s:=by
 obtain⟨z,hd,vs,rel,dd⟩:=ZqA I.hok e;have hz:vs.length<=sizeLine:=by rw[<-rel.length];exact z
 have hv:=rel.val k;refine call_meetsIn PySem.F.slot_dict_setdefault dd.typeIs PySem.F.entry_dict_setdefault (PySem.F.args_dict_setdefault_3 _ _ _) (kt_meets_setdefault (Xe X.prog X.w) a (Zh7 ry) hd r) ⟨vs,dd,hz,fun w hw=> ?_,fun hn h' dd' hs=> ?_⟩
 ·rw[hw] at hv
  cases ex:YB kvs k with
  |none=>rw[ex] at hv;exact hv.elim
  |some x=>
   rw[ex] at hv
   exact h1 w _ x ex (I.tok _) hv
 ·have ex:YB kvs k=none:=by
   rw[hn] at hv
   cases ex:YB kvs k with
   |none=>rfl
   |some x=>rw[ex] at hv;exact hv.elim
  have he:∃q,h'.get? a=some q:=let ⟨q,_,_,hq,_⟩:=dd';⟨q,hq⟩;have l2:(Jo kvs k v).length<=sizeLine:=by have:=ZaD kvs k v;omega
  exact h2 _ ex (Zjm I (by rw[e];exact True.intro) hs he (Zlt l2 hd (rel.put k rv) dd'))
end
section
variable {X:Cx} {o e f:PySem.Expr} {apos cpos:Pos} {td ty tx:TE}
def Zq5(td ty tx:TE):TE:=fun σ H Q=>td σ H fun x H1=>∃a,x=.ref a/\IsD H1 a/\ty σ H1 fun y H2=>tx σ H2 fun z H3=>∃kvs k,H3 a=some (.dK kvs)/\kvs.length<sizeLine/\y=kV k/\(∀x,YB kvs k=some x->Q x H3)/\(YB kvs k=none->Q z (upd H3 a (.dK (Jo kvs k z))))
theorem Zn9(ho:PE X o td)(he:PE X e ty)(hf:PE X f tx)(m:M2 X o "setdefault" apos e f cpos):PE X (.Call (.Attribute o "setdefault" apos) [e,f] [] cpos) (Zq5 td ty tx):=by
 intro pins s σ H Q I h;refine wpAny_Call_method m.base m.few m.line PySem.F.plainAttrs_dict PySem.F.slot_dict_setdefault PySem.F.type_dict_setdefault (thn (ho pins s σ H _ I h) fun u s1 ⟨x,H1,I1,rx,a,ex,d,q1⟩=> ?_);subst ex;obtain rfl:u=Value.ref a:=rx;obtain⟨t1,t2,_⟩:=Zo2 I1 d;refine⟨t1,t2, ?_⟩;rw[m.trees];refine Calls.callWith_builtin rfl (Calls.evalArgs_plain (Calls.spliced_cons (thn (he pins s1 σ H1 _ I1 q1) fun iv s2 ⟨y,H2,I2,ry,q2⟩=>
  Calls.spliced_cons (thn (hf pins s2 σ H2 _ I2 q2) fun fv s3 ⟨z,H3,I3,rz,kvs,k,e3,l3,ey,qa,qb⟩=>Calls.spliced_nil ?_))))
 subst ey;exact ZoB I3 e3 l3 ry rz (fun w s' x ex I4 rw'=>⟨x,H3,I4,rw',qa x ex⟩) fun s' ex I4=>⟨z,_,I4,rz,qb ex⟩
end
end L3
namespace L3
open PySem PySem.Spec PyProof.Rows L2
section
variable {X:Cx} {K:PySem.W.Frag}
end
end L3
namespace L3
open PySem PySem.Spec PyProof.Rows L2
section
variable {prog:Program} {w:World} {A:Around} {E:Value->Shared->Prop} {s:Shared}
section
variable {prog:Program} {w:World} {A:Around} {E:Value->Shared->Prop} {s:Shared}
end
end
section
variable {X:Cx} {pins:List (Addr×Obj)} {σ:L2.St} {H:Hp} {s:Shared}
end
end L3
namespace L3
open PySem PySem.Spec PyProof.Rows L2
def Itv(K:PySem.W.Frag)(a:Addr)(ys:List V):It:=
 ⟨fun i H=>SqL K H a ys/\i<ys.length,fun i H x H'=>H'=H/\ys[ys.length-1-i]? =some x,fun i H=>SqL K H a ys/\ys.length=i⟩
theorem ZoC{P:Program}{w:World}{K:PySem.W.Frag}{tg:PySem.Expr}(a it:Addr)(ys:List V):
  ZmS P w K tg (Itv K a ys) [it] it (fun i h=>h.IsRevIter it a ((ys.length:Int)-1-(i:Nat))) where
 mem:=by simp
 obj:=fun i h st b hb=>by
  have e:b=it:=by simpa using hb
  subst e;obtain⟨o,e,c,d⟩:=st;exact⟨o,e,fun v z=>by rw[d] at z;cases z⟩
 keep:=fun i h h' st k=>st.at fun o e=>k it (by simp) o e
 item:=by
  intro X hP hw hK hc i pins s σ H E I hf st hg;subst hP hw hK;obtain⟨hq,lt⟩:=hg;obtain⟨its,rv,p,hz⟩:=I.list hq;have hl:=rv.length;obtain⟨x,hx⟩:∃x,ys[ys.length-1-i]? =some x:=⟨_,List.getElem?_eq_getElem (by omega)⟩
  obtain⟨u,hu,ru⟩:=rv.get hx;obtain⟨f0,f1,f2,f3,f4,f5⟩:=hf it (by simp);have e1:(ys.length:Int)-1-(i:Nat)=((ys.length-1-i:Nat):Int):=by omega
  have st:s.heap.IsRevIter it a ((ys.length:Int)-1-(i:Nat)):=st;rw[e1] at st
  refine wpAny_pyNext_rev_item st p.isList (x:=u) (by simpa using hu) fun h' st' sb=> ?_;have I1:L2.Inv X pins σ H {s with heap:=h'}:=I.turned (t':=s.toks) (fun b o hb z=>(sb.2 b hb).trans z) f0 f1 f3 f4 f5;have e2:(ys.length:Int)-1-((i+1:Nat):Int)=((ys.length-1-i:Nat):Int)-1:=by omega
  obtain⟨o,z1,z2,z3⟩:=id st';exact⟨u,rfl,Zmi (s:={s with heap:=h'}) z1 z2 z3 (by decide) ⟨x,H,I1,ru,⟨rfl,hx⟩,by rw[e2];exact st',fun b hb=>(hf b hb).1⟩⟩
 done:=by
  intro X hP hw hK hc i pins s σ H E I hf st hg;subst hP hw hK;obtain⟨hq,le⟩:=hg;obtain⟨f0,f1,f2,f3,f4,f5⟩:=hf it (by simp);have st:s.heap.IsRevIter it a ((ys.length:Int)-1-(i:Nat)):=st;rw[show(ys.length:Int)-1-(i:Nat)= -1 by omega] at st
  exact wpAny_pyNext_rev_end (I.ok.hd hc) st fun h' eb=>⟨rfl,I.turned (t':=s.toks) (fun b o hb z=>eb b o hb z) f0 f1 f3 f4 f5⟩
 self:=fun _ _ _ _ _ st h=>wpAny_pyIter_revIter st h
section
variable {X:Cx}
def ZsR(K:PySem.W.Frag)(te:TE):TI:=fun σ H R=>te σ H fun x H1=>∃a ys,x=.ref a/\SqL K H1 a ys/\R (Itv K a ys) H1
theorem ZoD{K:PySem.W.Frag}{tg e:PySem.Expr}{te:TE}{p pos:Pos}(eK:X.K=K)(hg:Gl X "reversed")(hm:X.mg "reversed"=none)(ha:PE X e te)
  (s1:starEach [e] X.env=(false,eval e X.env)::starEach [] X.env:=by rfl):PI X tg (.Call (.Name "reversed" p) [e] [] pos) (ZsR K te):=by
 subst eK;intro pins s σ H R I h;refine wpAny_Call_Name_kw (ZfA I hg hm Zgg (PyProof.Rows.callWith_type1 ?_ s1 rfl));rw[s1];show wpAny _ _ (spliced ((false,eval e X.env)::[])) _ _ s;refine Calls.spliced_cons (thn (ha pins s σ H _ I h) fun u s' ⟨x,H1,I1,r1,a,ys,ex,hq,q⟩=>Calls.spliced_nil ?_);subst ex;cases r1;obtain⟨us,r,pl,hz⟩:=I1.list hq;have hlen:=r.length;refine call_reversed_list pl.isList ?_
 have st:Heap.IsRevIter (s'.heap.push (revObj a ((us.toArray.size:Int)-1))) s'.heap.objs.size a ((us.toArray.size:Int)-1):=⟨_,Heap.get?_push_size _ rfl,rfl,rfl⟩
 refine wpAny_pyIter_revIter (s:={s' with heap:=s'.heap.push (revObj a ((us.toArray.size:Int)-1))}) st ?_;refine⟨s'.heap.objs.size,[s'.heap.objs.size],_,_,_,rfl,I1.kept (t':=s'.toks) fun b o z=>Heap.get?_push_of_some _ z,ZoC a _ ys, ?_,fun b hb=> ?_,q⟩
 ·have e:((ys.length:Int)-1-((0:Nat):Int))=(us.toArray.size:Int)-1:=by rw[List.size_toArray,<-hlen];omega
  show Heap.IsRevIter _ _ _ _;rw[e];exact st
 ·have e:b=s'.heap.objs.size:=by simpa using hb
  subst e;exact I1.fpOk (Nat.le_refl _) (I1.hok.fresh (Nat.le_refl _))
end
end L3
namespace L3
open PySem PySem.Spec PyProof.Rows L2 PySem.W PySem.Calls
section
variable {X:Cx} {K:PySem.W.Frag}
theorem ZlN(eK:X.K=K):OpR X (compareOp .In) (rIn K false):=by
 subst eK;exact Ze0
theorem XD(eK:X.K=K):IxR X (ZqY K):=by
 subst eK;exact ZJ
end
section
variable {P:Program} {w:World} (l b:Addr) (xs ys:Array Value) (n m:Nat) (d1 d2:Option Addr) (s1 s2:Array (Option Value)) (e c:Nat->Bool)
abbrev Zna(xs ys:Array Value)(e c:Nat->Bool)(i:Nat):Bool:=ZlL e c (decide (ys.size<xs.size)) ((List.range (min xs.size ys.size)).drop i)
theorem Zs9:MeetsIn P w (Builtin.«tuple.__gt__» ⟨[.ref l,.ref b],[]⟩) (fun A R s=>s.heap.get? l=some (Zkt d1 xs n s1)/\s.heap.get? b=some (Zkt d2 ys m s2)/\
  (∀j (h1:j<xs.size) (h2:j<ys.size),EqP P w A.in1 s xs[j] ys[j] (e j))/\(∀j (h1:j<xs.size) (h2:j<ys.size),e j=false->RcP P w A.in1 s .Gt xs[j] ys[j] (c j))/\R (.ok (.ret (.bool (Zna xs ys e c 0)))) s):=
 .of_wp fun A R s h=>by
  obtain⟨hq,gs,dr,tk,oss⟩:=s;obtain⟨u1,u2,ue,uc,q⟩:=h;have sub:=AutoSeq1.sub_tuple_tuple;have zl:(xs.toList.zip ys.toList).length=min xs.size ys.size:=by simp
  wp_walk using AutoSeq1.wpAny_loadPart' u1,AutoSeq1.wpAny_loadPart' u2,wpAny_forIn_list _ (fun rest a s'=>a.1=none/\s'=⟨hq,gs,dr,tk,oss⟩/\∃i,rest=(xs.toList.zip ys.toList).drop i/\
   R (.ok (.ret (.bool (Zna xs ys e c i)))) ⟨hq,gs,dr,tk,oss⟩) _
  case turn=>
   rintro⟨y,x⟩ rest a s' ⟨ha,rfl,i,zr,zq⟩;have lt:i<(xs.toList.zip ys.toList).length:=Nat.lt_of_not_le fun z=>by rw[List.drop_of_length_le z] at zr;cases zr
   have lm:i<min xs.size ys.size:=zl▸lt;have l1:i<xs.size:=by omega
   have l2:i<ys.size:=by omega
   rw[List.drop_eq_getElem_cons lt] at zr
   injection zr with zyx zrest
   obtain rfl:y=xs[i]:=by simpa using congrArg Prod.fst zyx
   obtain rfl:x=ys[i]:=by simpa using congrArg Prod.snd zyx
   have zd:(List.range (min xs.size ys.size)).drop i=i::(List.range (min xs.size ys.size)).drop (i+1):=by simp[List.drop_eq_getElem_cons,lm]
   unfold Zna at zq
   rw[zd] at zq
   unfold ZlL at zq
   refine wpAny_bind (ue i l1 l2 _ _ ?_);cases ei:e i with
   |true=>
    rw[ei,if_pos rfl] at zq
    wp_walk
    exact⟨rfl,rfl,i+1,zrest,zq⟩
   |false=>
    rw[ei,if_neg (by simp)] at zq
    have rc:=uc i l1 l2 ei;unfold RcP at rc
    generalize richCompare CmpOp.Gt xs[i] ys[i]=m at rc⊢
    wp_walk
    first|refine wpAny_bind (rc _ _ ?_)|refine rc _ _ ?_
    wp_walk
    exact⟨_,rfl,zq⟩
  case fin=>
   rintro⟨a1,a2⟩ s' ⟨ha,rfl,i,zr,zq⟩;simp only at ha
   subst ha;have ge:min xs.size ys.size<=i:=Nat.le_of_not_lt fun z=>by rw[List.drop_eq_getElem_cons (zl▸z:i<(xs.toList.zip ys.toList).length)] at zr;cases zr
   unfold Zna at zq
   rw[List.drop_of_length_le (by simpa using ge)] at zq
   wp_walk
   exact⟨_,rfl,by simpa [Builtin.Tuple.tupleCompareSizes,ZlL] using zq⟩
  case h=>exact⟨rfl,rfl,0,rfl,q⟩
end
section
variable {P:Program} {w:World} {A:Around} {s:Shared} {l b:Addr} {xs ys:Array Value} {e c:Nat->Bool}
theorem Zrk(hl:s.heap.IsTuple l xs)(hb:s.heap.IsTuple b ys)(hu:A.units<cLine)(he:∀j (h1:j<xs.size) (h2:j<ys.size),EqP P w A.in1 s xs[j] ys[j] (e j))(hc:∀j (h1:j<xs.size) (h2:j<ys.size),e j=false->RcP P w A.in1 s .Gt xs[j] ys[j] (c j)):RcP P w A s .Gt (.ref l) (.ref b) (Zna xs ys e c 0):=by
 obtain⟨⟨c1,d1,t1,s1⟩,o1,k1,n,e1⟩:=id hl;obtain⟨⟨c2,d2,t2,s2⟩,o2,k2,m,e2⟩:=id hb;simp only at k1 e1 k2 e2
 subst k1 e1 k2 e2;exact fun E Q q=>wpAny_richCompare_same_room hl.typeIs hb.typeIs F.slot_tuple_gt (call_meetsIn F.slot_tuple_gt hl.typeIs F.entry_tuple_gt (F.args_tuple_gt_2 _ _) (Zs9 l b xs ys n m d1 d2 s1 s2 e c) ⟨o1,o2,he,hc,Zbi q⟩) hu
end
abbrev Za3:=Int×Str
def Zif:Za3->Za3->Bool:=Zie ZaE Yw
theorem Zbt:STO Zif:=Zf5 Zcr Yn
section
variable {X:Cx} {pins:List (Addr×Obj)} {σ:L2.St} {H:Hp} {s:Shared} {A:Around}
def Zc0(K:PySem.W.Frag)(H:Hp)(x:Za3)(a:V):Prop:=∃p,a=.ref p/\SqT K H p [.int x.1,.str x.2]
theorem ZoE(I:L2.Inv X pins σ H s){x:Za3}{p:Addr}(h:SqT X.K H p [.int x.1,.str x.2]):∃t t',s.heap.IsTuple p #[.int x.1 t,.str x.2 t']:=by
 obtain⟨its,r,T,_⟩:=I.tuple h;cases r with
 |cons a r=>
  cases r with
  |cons b r=>
   cases r;obtain⟨t,rfl⟩:=a;obtain⟨t',rfl⟩:=b;exact⟨t,t',T⟩
theorem Zsa(I:L2.Inv X pins σ H s){x y:Za3}{a b:V}{u v:Value}(ra:Zc0 X.K H x a)(rb:Zc0 X.K H y b)(ru:ZV a u)(rv:ZV b v)(hu:A.units+10<cLine):RcP X.prog X.w A s .Gt u v (Zif y x):=by
 obtain⟨p,rfl,hp⟩:=ra;obtain⟨p',rfl,hp'⟩:=rb;cases ru;cases rv;obtain⟨t,t2,T1⟩:=ZoE I hp;obtain⟨t',t2',T2⟩:=ZoE I hp';have go:=Zrk (P:=X.prog) (w:=X.w) (A:=A) (e:=fun j=>if j=0 then(x.1==y.1) else(x.2==y.2)) (c:=fun j=>if j=0 then ZaE y.1 x.1 else Yw y.2 x.2) T1 T2 (by omega) (fun j h1 h2=> ?_) (fun j h1 h2 z=> ?_)
 ·have e:Zna #[Value.int x.1 t,Value.str x.2 t2] #[Value.int y.1 t',Value.str y.2 t2'] (fun j=>if j=0 then(x.1==y.1) else(x.2==y.2)) (fun j=>if j=0 then ZaE y.1 x.1 else Yw y.2 x.2) 0=Zif y x:=by
   show(if(x.1==y.1)=true then(if(x.2==y.2)=true then false else Yw y.2 x.2) else ZaE y.1 x.1)=if y.1=x.1 then Yw y.2 x.2 else ZaE y.1 x.1
   by_cases z:x.1=y.1
   ·rw[if_pos (by rw[z];exact beq_self_eq_true _),if_pos z.symm]
    by_cases z2:x.2=y.2
    ·rw[if_pos (by rw[z2];exact beq_self_eq_true _),z2,Yn.irr]
    ·rw[if_neg (by rw[beq_false_of_ne z2];simp)]
   ·rw[if_neg (by rw[beq_false_of_ne z];simp),if_neg (Ne.symm z)]
  rw[e] at go
  exact go
 ·match j,h1,h2 with
  |0,_,_=>exact fun E Q q=>wpAny_eqBool_int q
  |1,_,_=>exact fun E Q q=>Zh5 (show ZV (.str x.2) (.str x.2 t2) from⟨t2,rfl⟩) (show ZV (.str y.2) (.str y.2 t2') from⟨t2',rfl⟩) rfl rfl X.prog X.w E Q q
 ·match j,h1,h2 with
  |0,_,_=>exact fun E Q q=>PyProof.Rows.gt_int q
  |1,_,_=>exact fun E Q q=>PySem.P.gt_str q
end
section
variable {prog:Program} {w:World} {B:Around} {R:Result->Shared->Prop} {it S:Addr} {c:Nat} {s:Shared}
abbrev Zdf(it S:Addr):Code:=.builtin "max.loop" ⟨[.ref it,.none,.ref S],[]⟩
theorem ZoF:toString "max"++toString ".loop"="max.loop":=rfl
theorem Zhm{P:PySem.Fin->Shared->Prop}(hP:∀f s',P f s'->match f with| .done x=>R (.ok x) s'| .again c'=>c'.quiet=true/\codeAny (model prog w) B c' R s')
  (h:wpAny (model prog w) B.in1 (Builtin.«max.loop» ⟨[.ref it,.none,.ref S],[]⟩) P (fun e s'=>R (.error e) s') s):codeAny (model prog w) B (Zdf it S) R s:=
 codeAny_builtin F.entry_max_loop (by
  rw[Around.under_plainId (A:=B) F.plain_max_loop ⟨[Value.ref it,.none,.ref S],[]⟩];exact wpAny_mono h (fun f s' z=>hP f s' z) fun _ _ z=>z)
theorem Zq6{Kp:Heap->Prop}{ub uk:Value}(hS:s.heap.get? S=some (seqObj "list" #[ub,uk] c))(hn:∀(Q:Option Value->Shared->Prop) (E:Value->Shared->Prop),(∀h' tk,Kp h'->Q none {s with heap:=h',toks:=tk})->wpAny (model prog w) B.in1 (pyNext (.ref it)) Q E s)
  (kp:∀h',Kp h'->h'.get? S=some (seqObj "list" #[ub,uk] c))(q:∀h' tk,Kp h'->R (.ok (.ret ub)) {s with heap:=h'.update S (Obj.mapSeq fun _=> #[]),toks:=tk}):codeAny (model prog w) B (Zdf it S) R s:=by
 refine Zhm (P:=fun f s'=>match f with| .done x=>R (.ok x) s'| .again _=>False) (fun f s' z=>by cases f with|done x=>exact z|again _=>exact z.elim) ?_;refine wpAny_bind (m:=seqItems? (.ref S)) (wpAny_seqItems hS rfl (wpAny_bind (m:=tryCatch (pyNext (.ref it)) _) (wpAny_tryCatch (hn _ _ fun h' tk k=> ?_))));exact wpAny_bind (m:=updateSeq S fun _=> #[]) (wpAny_updateSeq (kp h' k) rfl (wpAny_bind (wpAny_letGo (wpAny_pure (q h' tk k)))))
theorem ZoG{Kv:Value->Heap->Prop}{ub uk:Value}(hS:s.heap.get? S=some (seqObj "list" #[ub,uk] c))(hn:∀(Q:Option Value->Shared->Prop) (E:Value->Shared->Prop),(∀v h' tk,Kv v h'->Q (some v) {s with heap:=h',toks:=tk})->wpAny (model prog w) B.in1 (pyNext (.ref it)) Q E s)
  (q:∀v h' tk,Kv v h'->∃k,RcP prog w B.in1 {s with heap:=h',toks:=tk} .Gt v uk k/\h'.get? S=some (seqObj "list" #[ub,uk] c)/\
   (k=true->codeAny (model prog w) B (Zdf it S) R {s with heap:=h'.update S (Obj.mapSeq fun _=> #[v,v]),toks:=tk})/\(k=false->codeAny (model prog w) B (Zdf it S) R {s with heap:=h',toks:=tk})):
  codeAny (model prog w) B (Zdf it S) R s:=by
 refine Zhm (P:=fun f s'=>f=.again (Zdf it S)/\codeAny (model prog w) B (Zdf it S) R s') (fun f s' z=>by rw[z.1];exact⟨plainId_quiet F.plain_max_loop _,z.2⟩) ?_
 refine wpAny_bind (m:=seqItems? (.ref S)) (wpAny_seqItems hS rfl (wpAny_bind (m:=tryCatch (pyNext (.ref it)) _) (wpAny_tryCatch (hn _ _ fun v h' tk k=> ?_))));obtain⟨b,rc,gS,yes,no⟩:=q v h' tk k;refine wpAny_bind (m:=pure v) (wpAny_pure ?_);refine wpAny_bind (m:=tryCatch (holding [v,v] (richCompare .Gt v uk>>=_)) _) (wpAny_tryCatch (wpAny_holding (wpAny_bind (rc _ _ (wpAny_bind (wpAny_holding (wpAny_truthy_bool (wpAny_bind (wpAny_letGo (wpAny_pure ?_))))))))))
 cases b with
 |true=>exact wpAny_ite_split (fun _=>wpAny_bind (wpAny_updateSeq gS rfl (wpAny_bind (wpAny_letGo (wpAny_pure ⟨rfl,yes rfl⟩))))) (fun z=>absurd rfl z)
 |false=>exact wpAny_ite_split (fun z=>nomatch z) (fun _=>wpAny_bind (wpAny_letGo (wpAny_pure ⟨rfl,no rfl⟩)))
theorem Znb{Kv:Value->Heap->Prop}(hS:s.heap.get? S=some (seqObj "list" #[] c))(hn:∀(Q:Option Value->Shared->Prop) (E:Value->Shared->Prop),(∀v h' tk,Kv v h'->Q (some v) {s with heap:=h',toks:=tk})->wpAny (model prog w) B.in1 (pyNext (.ref it)) Q E s)
  (q:∀v h' tk,Kv v h'->h'.get? S=some (seqObj "list" #[] c)/\codeAny (model prog w) B (Zdf it S) R {s with heap:=h'.update S (Obj.mapSeq fun _=> #[v,v]),toks:=tk}):
  codeAny (model prog w) B (Zdf it S) R s:=by
 refine Zhm (P:=fun f s'=>f=.again (Zdf it S)/\codeAny (model prog w) B (Zdf it S) R s') (fun f s' z=>by rw[z.1];exact⟨plainId_quiet F.plain_max_loop _,z.2⟩) ?_
 refine wpAny_bind (m:=seqItems? (.ref S)) (wpAny_seqItems hS rfl (wpAny_bind (m:=tryCatch (pyNext (.ref it)) _) (wpAny_tryCatch (hn _ _ fun v h' tk k=> ?_))));obtain⟨gS,yes⟩:=q v h' tk k;refine wpAny_bind (m:=pure v) (wpAny_pure ?_);exact wpAny_bind (m:=updateSeq S fun _=> #[v,v]) (wpAny_updateSeq gS rfl (wpAny_pure ⟨rfl,yes⟩))
end
section
variable {X:Cx} {pins:List (Addr×Obj)} {σ:L2.St} {H:Hp} {s:Shared}
theorem Zhn{K:PySem.W.Frag}:∀{ys:List Za3} {us:List V},Paired (Zc0 K H) ys us->∀(j:Nat) (x:V),us[j]? =some x->∃y,ys[j]? =some y/\Zc0 K H y x
 |_,_,.nil,j,x,h=>by simp at h
 |_,_,.cons (a:=y) (b:=v) r t,0,x,h=>by
  have h:v=x:=by simpa using h
  exact⟨y,rfl,h▸r⟩
 |_,_,.cons _ t,j+1,x,h=>by
  obtain⟨y,e,z⟩:=Zhn t j x (by simpa using h);exact⟨y,by simpa using e,z⟩
theorem Znc{E:Value->Shared->Prop}{l it S:Addr}{us:List V}{ys:List Za3}{R:VK}(hh:X.A.handled=none)(hu:X.A.units+20<cLine)(lI:Zgu X it)(lS:Zgu X S)(nIS:S≠it)(nl:l≠it)(nI:∀p∈pins,p.1≠it)(nS:∀p∈pins,p.1≠S)
  (hq:SqL X.K H l us)(rp:Paired (Zc0 X.K H) ys us)(q:∀x y,y∈ys->Zc0 X.K H y x->(∀z∈ys,Zif y z=false)->R x H):
  ∀(r:List V) (j:Nat) (s:Shared) (b:V) (yb:Za3) (ub:Value) (c:Nat) (oI:Obj),us.drop j=r->j<=us.length->L2.Inv X ((it,oI)::(S,seqObj "list" #[ub,ub] c)::pins) σ H s->s.heap.IsListIter it l j->ZV b ub->Zc0 X.K H yb b->yb∈ys->(∀z∈ys.take j,Zif yb z=false)->
   codeAny (model X.prog X.w) X.A (Zdf it S) (Zs8 X pins σ R E) s:=by
 have two:∀(o:Obj) (p:Addr×Obj),p∈(S,o)::pins->p.1≠it:=fun o p hp=>by
  obtain rfl|m:=List.mem_cons.mp hp
  ·exact nIS
  ·exact nI p m
 have one:∀(o:Obj) (p:Addr×Obj),p∈(it,o)::pins->p.1≠S:=fun o p hp=>by
  obtain rfl|m:=List.mem_cons.mp hp
  ·exact fun z=>nIS z.symm
  ·exact nS p m
 intro r
 induction r with
 |nil=>
  intro j s b yb ub c oI hj hjl I hit rb sb mem best;obtain⟨vs,rx,pl,_⟩:=I.list hq;have ej:us.length=j:=Nat.le_antisymm (List.drop_eq_nil_iff.mp hj) hjl;have hl:vs.toArray.size=j:=by rw[List.size_toArray,<-rx.length,ej]
  have pI:=I.pin (it,oI) (List.mem_append_right _ (.head _));have pS:=I.pin (S,seqObj "list" #[ub,ub] c) (List.mem_append_right _ (.tail _ (.head _)));have J0:L2.Inv X ((S,seqObj "list" #[ub,ub] c)::pins) σ H s:=I.pins_of fun p hp=>I.pin p (List.mem_append_right _ (.tail _ hp));have J1:∀h' tk',(∀b o,b∉[it]->s.heap.get? b=some o->h'.get? b=some o)->L2.Inv X ((S,seqObj "list" #[ub,ub] c)::pins) σ H {s with heap:=h',toks:=tk'}:=fun h' tk' kp=>J0.turned (it:=it) (t':=tk') (fun b u n e=>kp b u (by simpa using n) e) pI.2.1 pI.2.2.1 (.inr lI.new) lI.cells fun p hp=>(List.mem_append.mp hp).elim (lI.pn p) (two _ p)
  refine Zq6 (Kp:=fun h'=>∀b o,b∉[it]->s.heap.get? b=some o->h'.get? b=some o) pS.1 (fun Q E q=>(Walks.list (prog:=X.prog) (w:=X.w) (A:=X.A.in1) hh it l nl vs.toArray).done s Q E ⟨by rw[hl];exact hit,pl.isList⟩ q) (fun h' kp=>kp S _ (by simpa using nIS) pS.1) fun h' tk kp=> ?_
  have J2:=Ze5 (J1 h' tk kp) lS nS YQ (get?_update_seq (kp S _ (by simpa using nIS) pS.1) fun _=> #[]) Jb;rw[List.take_of_length_le (by rw[Paired.length rp,ej];exact Nat.le_refl _)] at best
  exact⟨b,H,J2.pins_of fun p hp=>J2.pin p (List.mem_append_right _ (.tail _ hp)),rb,q b yb mem sb best⟩
 |cons x r ih=>
  intro j s b yb ub c oI hj hjl I hit rb sb mem best;have hjx:us[j]? =some x:=by
   have e:=congrArg List.head? hj;rw[List.head?_drop] at e
   exact e
  have hjn:us.drop (j+1)=r:=by
   rw[<-List.tail_drop,hj]
   rfl
  have hlx:j+1<=us.length:=(List.getElem?_eq_some_iff.mp hjx).1;obtain⟨yx,ey,sx⟩:=Zhn rp j x hjx;have tk:ys.take (j+1)=ys.take j++[yx]:=by rw[List.take_add_one,ey];rfl
  have pS:=I.pin (S,seqObj "list" #[ub,ub] c) (List.mem_append_right _ (.tail _ (.head _)));refine ZoG pS.1 (Ze6 hh nl lI (two _) hq hjx I hit) fun v h' tk' ⟨rv,mv⟩=> ?_;obtain⟨o,J2,hi2⟩:=mv tk';have pS2:=J2.pin (S,seqObj "list" #[ub,ub] c) (List.mem_append_right _ (.tail _ (.head _)));have pI2:=J2.pin (it,o) (List.mem_append_right _ (.head _));refine⟨_,Zsa J2 sx sb rv rb (show X.A.units+1+10<cLine by omega),pS2.1,fun e=> ?_,fun e=>ih (j+1) _ b yb ub c o hjn hlx J2 (hi2 _ pI2.1) rb sb mem fun z hz=> ?_⟩
  ·have J4:=ZaF (Ze5 (ZaF J2) lS (one o) YQ (get?_update_seq pS2.1 fun _=> #[v,v]) Jb);refine ih (j+1) _ x yx v _ o hjn hlx J4 (hi2 _ (J4.pin (it,o) (List.mem_append_right _ (.head _))).1) rv sx (List.mem_of_getElem? ey) fun z hz=> ?_;rw[tk] at hz
   rcases List.mem_append.mp hz with old|new
   ·cases lz:Zif yx z with
    |false=>rfl
    |true=>exact absurd (Zbt.tr _ _ _ e lz) (by rw[best z old];exact Bool.false_ne_true)
   ·have:z=yx:=by simpa using new
    rw[this];exact Zbt.irr _
  ·rw[tk] at hz
   rcases List.mem_append.mp hz with old|new
   ·exact best z old
   ·have:z=yx:=by simpa using new
    rw[this];exact e
theorem Znd(hc:X.calm=true)(hu:X.A.units+30<cLine):Zbn X (.builtin "max") (fun xs H Q=>∃(l:Addr) (x:V) (us:List V) (ys:List Za3),xs=[.ref l]/\SqL X.K H l (x::us)/\Paired (Zc0 X.K H) ys (x::us)/\
  ∀v y,y∈ys->Zc0 X.K H y v->(∀z∈ys,Zif y z=false)->Q v H):=by
 intro pins s σ H xs vals Q I r h;obtain⟨l,x,us,ys,rfl,hq,rp,q⟩:=h;obtain⟨u,rfl,rx0⟩:=Zcm r;cases rx0;have hh:=I.ok.hd hc;obtain⟨vs,rx,pl,_⟩:=I.list hq;have nl:l≠s.heap.objs.size:=Nat.ne_of_lt (let ⟨_,e,_⟩:=pl.isList;Heap.lt_size e)
 refine call_function_tree (Q:=EP X pins σ Q) PySem.F.kind_max PySem.F.plain_max PySem.F.entry_max (PySem.F.args_max1 _) ?_;have bp:Builtin.Builtins.bindParams "max" ["key","default"] 0 ⟨[],[]⟩=pure [none,none]:=rfl;refine wpAny_bind (m:=Builtin.Builtins.bindParams "max" ["key","default"] 0 ⟨[],[]⟩) (wpAny_of_eq bp (wpAny_bind (wpAny_pure (wpAny_bind (wpAny_pyIter_list pl.isList (wpAny_bind (wpAny_newList ?_ (Nat.zero_le _))))))))
 rw[ZoF];generalize ho:({cls:=.type "list_iterator",data:=.fields #[.ref l,.int 0 0]}:Obj)=oI;have sz1:(s.heap.push oI).objs.size=s.heap.objs.size+1:=size_push' ..;rw[sz1];have gI:((s.heap.push oI).push (seqObj "list" #[] 0)).get? s.heap.objs.size=some oI:=Heap.get?_push_of_some _ (Heap.get?_push_size _ (by rw[<-ho];rfl))
 have gS:((s.heap.push oI).push (seqObj "list" #[] 0)).get? (s.heap.objs.size+1)=some (seqObj "list" #[] 0):=by rw[<-sz1];exact Heap.get?_push_size _ rfl
 have lI:Zgu X s.heap.objs.size:=ZgL I (Nat.le_refl _);have lS:Zgu X (s.heap.objs.size+1):=ZgL I (Nat.le_succ _);have fresh:∀a,s.heap.objs.size<=a->H a=none/\a≠X.env.locals/\a∉X.fs:=fun a ha=>⟨I.hok.fresh ha,fun z=>absurd (z▸ha) (Nat.not_le.mpr I.lt),I.nofs ha⟩
 have old:∀p∈pins,p.1<s.heap.objs.size:=fun p hp=>Heap.lt_size (I.pin p (List.mem_append_right _ hp)).1;have nI:∀p∈pins,p.1≠s.heap.objs.size:=fun p hp=>Nat.ne_of_lt (old p hp);have nS:∀p∈pins,p.1≠s.heap.objs.size+1:=fun p hp=>Nat.ne_of_lt (Nat.lt_succ_of_lt (old p hp));have I0:L2.Inv X pins σ H {s with heap:=(s.heap.push oI).push (seqObj "list" #[] 0)}:=I.kept (t':=s.toks) fun b u e=>Heap.get?_push_of_some _ (Heap.get?_push_of_some _ e)
 have I1:L2.Inv X ((s.heap.objs.size,oI)::(s.heap.objs.size+1,seqObj "list" #[] 0)::pins) σ H {s with heap:=(s.heap.push oI).push (seqObj "list" #[] 0)}:=I0.pins_of fun p hp=>by
  obtain rfl|m:=List.mem_cons.mp hp
  ·exact⟨gI,(fresh _ (Nat.le_refl _)).1,(fresh _ (Nat.le_refl _)).2.1,(fresh _ (Nat.le_refl _)).2.2,fun v z=>by rw[<-ho] at z;cases z⟩
  ·obtain rfl|m:=List.mem_cons.mp m
   ·exact⟨gS,(fresh _ (Nat.le_succ _)).1,(fresh _ (Nat.le_succ _)).2.1,(fresh _ (Nat.le_succ _)).2.2,Jb⟩
   ·exact I0.pin p (List.mem_append_right _ m)
 have nIS:s.heap.objs.size+1≠s.heap.objs.size:=Nat.succ_ne_self _;have hit0:((s.heap.push oI).push (seqObj "list" #[] 0)).IsListIter s.heap.objs.size l 0:=⟨oI,gI,by rw[<-ho],by rw[<-ho];rfl⟩
 refine wpAny_pure (And.intro (plainId_quiet PySem.F.plain_max_loop _) ?_);generalize hs1:({s with heap:=(s.heap.push oI).push (seqObj "list" #[] 0)}:Shared)=s1 at I1
 have hit1:s1.heap.IsListIter s.heap.objs.size l 0:=by rw[<-hs1];exact hit0
 generalize s.heap.objs.size=it at*
 have two:∀p∈(it+1,seqObj "list" #[] 0)::pins,p.1≠it:=fun p hp=>by
  obtain rfl|m:=List.mem_cons.mp hp
  ·exact nIS
  ·exact nI p m
 have pS:=I1.pin (it+1,seqObj "list" #[] 0) (List.mem_append_right _ (.tail _ (.head _)));refine Znb pS.1 (Ze6 hh nl lI two hq (j:=0) (x:=x) rfl I1 hit1) fun v h' tk' ⟨rv,mv⟩=> ?_;obtain⟨o,J2,hi2⟩:=mv tk';have pS2:=J2.pin (it+1,seqObj "list" #[] 0) (List.mem_append_right _ (.tail _ (.head _)));obtain⟨yx,ey,sx⟩:=Zhn rp 0 x rfl;have J4:=ZaF (Ze5 (ZaF J2) lS (fun p hp=>by
  obtain rfl|m:=List.mem_cons.mp hp
  ·exact fun z=>nIS z.symm
  ·exact nS p m) YQ (get?_update_seq pS2.1 fun _=> #[v,v]) Jb)
 refine⟨pS2.1,Znc hh (by omega) lI lS nIS nl nI nS hq rp q us 1 _ x yx v _ o rfl (Nat.succ_le_succ (Nat.zero_le _)) J4 (hi2 _ (J4.pin (it,o) (List.mem_append_right _ (.head _))).1) rv sx (List.mem_of_getElem? ey) fun z hz=> ?_⟩;cases ys with
 |nil=>cases ey
 |cons y0 ys=>
  obtain rfl:y0=yx:=by simpa using ey
  have:z=y0:=by simpa using hz
  rw[this];exact Zbt.irr _
theorem ZiP:∀{ss:List Str} {vs:List Value},Yb (ss.map V.str) vs->StrsAre vs ss
 |[],_,.nil=> .nil
 |x::ss,_,.cons ⟨t,e⟩ r=>by
  subst e;exact .cons x t (ZiP r)
theorem ZcM:Zbn X (.builtin "sorted") (fun xs H Q=>∃(l:Addr) (ss:List Str),xs=[.ref l]/\SqL X.K H l (ss.map V.str)/\ss.length<64/\∀zs,zs.Perm ss->sortedS zs=true->∀D,H D=none->Q (.ref D) (upd H D (.lst (zs.map V.str)))):=by
 intro pins s σ H xs vals Q I r h;obtain⟨l,ss,rfl,hq,h64,q⟩:=h;obtain⟨u,rfl,rx0⟩:=Zcm r;cases rx0;obtain⟨vs,rx,pl,_⟩:=I.list hq;have lv:vs.length=ss.length:=by rw[<-rx.length,List.length_map]
 have hz:vs.length<=sizeLine:=by rw[sizeLine_eq];omega
 refine call_function_entry kind_sorted plain_sorted entry_sorted (args_sorted1 (.ref l)) ?_;unfold Builtin.«sorted»;refine wpAny_bind (m:=checkCount "sorted" 1 1 _) (wpAny_pure (wpAny_bind (collect_list pl.isList (wpAny_bind (wpAny_newList ?_ hz)) hz)));have sz1:((s.heap.push (seqObj "list" #[] 0)).update s.heap.objs.size (Obj.mapSeq (· ++vs.toArray))).objs.size=s.heap.objs.size+1:=by rw[Heap.size_update,size_push']
 generalize hh1:(s.heap.push (seqObj "list" #[] 0)).update s.heap.objs.size (Obj.mapSeq (· ++vs.toArray))=h1 at sz1
 have k1:∀b u,s.heap.get? b=some u->h1.get? b=some u:=fun b u e=>by
  have hlt:=Heap.lt_size e;rw[<-hh1];exact YQ b u (Nat.ne_of_lt hlt) (Heap.get?_push_of_some _ e)
 have I1:L2.Inv X pins σ H {s with heap:=h1}:=I.kept (t':=s.toks) k1;refine wpAny_bind (wpAny_holding (Zjs (s:={s with heap:=h1.push (seqObj "list" vs.toArray 0)}) (Heap.get?_push_size (o:=seqObj "list" vs.toArray 0) h1 rfl) (ZiP rx) (by omega) fun out ss' o1 o2 o3=>wpAny_pure ⟨_,rfl, ?_⟩));obtain⟨e,he⟩:=sortedHeap_at (h:=h1.push (seqObj "list" vs.toArray 0)) (out:=out) (Heap.get?_push_size (o:=seqObj "list" vs.toArray 0) h1 rfl)
 have hz2:(ss'.map V.str).length<=sizeLine:=by rw[List.length_map,o2.length_eq,sizeLine_eq];omega
 refine⟨.ref h1.objs.size,_,I1.laid (a:=h1.objs.size) (o:=.lst (ss'.map V.str)) (t':=s.toks) (fun b o e1=> ?_) (Nat.le_refl _) ⟨hz2,out.toList,e,Zf3 o1,he⟩,rfl,q ss' o2 o3 _ I1.fresh⟩;have hb:b<h1.objs.size:=Heap.lt_size e1;rw[sortedHeap_old (Nat.ne_of_lt hb) (by rw[size_push'];exact Nat.lt_succ_of_lt hb)]
 exact Heap.get?_push_of_some _ e1
end
end L3
namespace L3
open PySem PySem.Spec PyProof.Rows L2
section
variable {X:Cx} {K:PySem.W.Frag}
theorem Zq7(eK:X.K=K):SlR X (ZrQ K):=by
 subst eK;exact ZnY
end
end L3
namespace L3
open PySem PySem.Spec PyProof.Rows L2 PySem.W PySem.Calls
section
variable {X:Cx} {pins:List (Addr×Obj)} {σ:L2.St} {H:Hp} {s:Shared} {A:Around}
def Zig(K:PySem.W.Frag)(H:Hp)(x:Lf)(a:V):Prop:=∃p,a=.ref p/\SqT K H p [.str x.1,.int x.2]
theorem Zsb(I:L2.Inv X pins σ H s){x y:Lf}{a b:V}{u v:Value}(ra:Zig X.K H x a)(rb:Zig X.K H y b)(ru:ZV a u)(rv:ZV b v)(hu:A.units+10<cLine):RcP X.prog X.w A s .Lt u v (Zgt x y):=by
 obtain⟨p,rfl,hp⟩:=ra;obtain⟨p',rfl,hp'⟩:=rb;cases ru;cases rv;exact Zs7 I hp hp' (by omega)
end
section
variable {prog:Program} {w:World} {B:Around} {R:Result->Shared->Prop} {it S:Addr} {c:Nat} {s:Shared}
abbrev Zej(it S:Addr):Code:=.builtin "min.loop" ⟨[.ref it,.none,.ref S],[]⟩
theorem Zne{Kv:Value->Heap->Prop}{ub uk:Value}(hS:s.heap.get? S=some (seqObj "list" #[ub,uk] c))(hn:∀(Q:Option Value->Shared->Prop) (E:Value->Shared->Prop),(∀v h' tk,Kv v h'->Q (some v) {s with heap:=h',toks:=tk})->wpAny (model prog w) B.in1 (pyNext (.ref it)) Q E s)
  (q:∀v h' tk,Kv v h'->∃k,RcP prog w B.in1 {s with heap:=h',toks:=tk} .Lt v uk k/\h'.get? S=some (seqObj "list" #[ub,uk] c)/\
   (k=true->codeAny (model prog w) B (Zej it S) R {s with heap:=h'.update S (Obj.mapSeq fun _=> #[v,v]),toks:=tk})/\(k=false->codeAny (model prog w) B (Zej it S) R {s with heap:=h',toks:=tk})):
  codeAny (model prog w) B (Zej it S) R s:=by
 refine Zhl (P:=fun f s'=>f=.again (Zej it S)/\codeAny (model prog w) B (Zej it S) R s') (fun f s' z=>by rw[z.1];exact⟨plainId_quiet F.plain_min_loop _,z.2⟩) ?_
 refine wpAny_bind (m:=seqItems? (.ref S)) (wpAny_seqItems hS rfl (wpAny_bind (m:=tryCatch (pyNext (.ref it)) _) (wpAny_tryCatch (hn _ _ fun v h' tk k=> ?_))));obtain⟨b,rc,gS,yes,no⟩:=q v h' tk k;refine wpAny_bind (m:=pure v) (wpAny_pure ?_);refine wpAny_bind (m:=tryCatch (holding [v,v] (richCompare .Lt v uk>>=_)) _) (wpAny_tryCatch (wpAny_holding (wpAny_bind (rc _ _ (wpAny_bind (wpAny_holding (wpAny_truthy_bool (wpAny_bind (wpAny_letGo (wpAny_pure ?_))))))))))
 cases b with
 |true=>exact wpAny_ite_split (fun _=>wpAny_bind (wpAny_updateSeq gS rfl (wpAny_bind (wpAny_letGo (wpAny_pure ⟨rfl,yes rfl⟩))))) (fun z=>absurd rfl z)
 |false=>exact wpAny_ite_split (fun z=>nomatch z) (fun _=>wpAny_bind (wpAny_letGo (wpAny_pure ⟨rfl,no rfl⟩)))
theorem ZlO{Kv:Value->Heap->Prop}(hS:s.heap.get? S=some (seqObj "list" #[] c))(hn:∀(Q:Option Value->Shared->Prop) (E:Value->Shared->Prop),(∀v h' tk,Kv v h'->Q (some v) {s with heap:=h',toks:=tk})->wpAny (model prog w) B.in1 (pyNext (.ref it)) Q E s)
  (q:∀v h' tk,Kv v h'->h'.get? S=some (seqObj "list" #[] c)/\codeAny (model prog w) B (Zej it S) R {s with heap:=h'.update S (Obj.mapSeq fun _=> #[v,v]),toks:=tk}):
  codeAny (model prog w) B (Zej it S) R s:=by
 refine Zhl (P:=fun f s'=>f=.again (Zej it S)/\codeAny (model prog w) B (Zej it S) R s') (fun f s' z=>by rw[z.1];exact⟨plainId_quiet F.plain_min_loop _,z.2⟩) ?_
 refine wpAny_bind (m:=seqItems? (.ref S)) (wpAny_seqItems hS rfl (wpAny_bind (m:=tryCatch (pyNext (.ref it)) _) (wpAny_tryCatch (hn _ _ fun v h' tk k=> ?_))));obtain⟨gS,yes⟩:=q v h' tk k;refine wpAny_bind (m:=pure v) (wpAny_pure ?_);exact wpAny_bind (m:=updateSeq S fun _=> #[v,v]) (wpAny_updateSeq gS rfl (wpAny_pure ⟨rfl,yes⟩))
end
section
variable {X:Cx} {pins:List (Addr×Obj)} {σ:L2.St} {H:Hp} {s:Shared}
theorem ZlP{K:PySem.W.Frag}:∀{ys:List Lf} {us:List V},Paired (Zig K H) ys us->∀(j:Nat) (x:V),us[j]? =some x->∃y,ys[j]? =some y/\Zig K H y x
 |_,_,.nil,j,x,h=>by simp at h
 |_,_,.cons (a:=y) (b:=v) r t,0,x,h=>by
  have h:v=x:=by simpa using h
  exact⟨y,rfl,h▸r⟩
 |_,_,.cons _ t,j+1,x,h=>by
  obtain⟨y,e,z⟩:=ZlP t j x (by simpa using h);exact⟨y,by simpa using e,z⟩
theorem Znf{E:Value->Shared->Prop}{l it S:Addr}{us:List V}{ys:List Lf}{R:VK}(hh:X.A.handled=none)(hu:X.A.units+20<cLine)(lI:Zgu X it)(lS:Zgu X S)(nIS:S≠it)(nl:l≠it)(nI:∀p∈pins,p.1≠it)(nS:∀p∈pins,p.1≠S)
  (hq:SqL X.K H l us)(rp:Paired (Zig X.K H) ys us)(q:∀x y,y∈ys->Zig X.K H y x->(∀z∈ys,Zgt z y=false)->R x H):
  ∀(r:List V) (j:Nat) (s:Shared) (b:V) (yb:Lf) (ub:Value) (c:Nat) (oI:Obj),us.drop j=r->j<=us.length->L2.Inv X ((it,oI)::(S,seqObj "list" #[ub,ub] c)::pins) σ H s->s.heap.IsListIter it l j->ZV b ub->Zig X.K H yb b->yb∈ys->(∀z∈ys.take j,Zgt z yb=false)->
   codeAny (model X.prog X.w) X.A (Zej it S) (Zs8 X pins σ R E) s:=by
 have two:∀(o:Obj) (p:Addr×Obj),p∈(S,o)::pins->p.1≠it:=fun o p hp=>by
  obtain rfl|m:=List.mem_cons.mp hp
  ·exact nIS
  ·exact nI p m
 have one:∀(o:Obj) (p:Addr×Obj),p∈(it,o)::pins->p.1≠S:=fun o p hp=>by
  obtain rfl|m:=List.mem_cons.mp hp
  ·exact fun z=>nIS z.symm
  ·exact nS p m
 intro r
 induction r with
 |nil=>
  intro j s b yb ub c oI hj hjl I hit rb sb mem best;obtain⟨vs,rx,pl,_⟩:=I.list hq;have ej:us.length=j:=Nat.le_antisymm (List.drop_eq_nil_iff.mp hj) hjl;have hl:vs.toArray.size=j:=by rw[List.size_toArray,<-rx.length,ej]
  have pI:=I.pin (it,oI) (List.mem_append_right _ (.head _));have pS:=I.pin (S,seqObj "list" #[ub,ub] c) (List.mem_append_right _ (.tail _ (.head _)));have J0:L2.Inv X ((S,seqObj "list" #[ub,ub] c)::pins) σ H s:=I.pins_of fun p hp=>I.pin p (List.mem_append_right _ (.tail _ hp));have J1:∀h' tk',(∀b o,b∉[it]->s.heap.get? b=some o->h'.get? b=some o)->L2.Inv X ((S,seqObj "list" #[ub,ub] c)::pins) σ H {s with heap:=h',toks:=tk'}:=fun h' tk' kp=>J0.turned (it:=it) (t':=tk') (fun b u n e=>kp b u (by simpa using n) e) pI.2.1 pI.2.2.1 (.inr lI.new) lI.cells fun p hp=>(List.mem_append.mp hp).elim (lI.pn p) (two _ p)
  refine Zq3 (Kp:=fun h'=>∀b o,b∉[it]->s.heap.get? b=some o->h'.get? b=some o) pS.1 (fun Q E q=>(Walks.list (prog:=X.prog) (w:=X.w) (A:=X.A.in1) hh it l nl vs.toArray).done s Q E ⟨by rw[hl];exact hit,pl.isList⟩ q) (fun h' kp=>kp S _ (by simpa using nIS) pS.1) fun h' tk kp=> ?_
  have J2:=Ze5 (J1 h' tk kp) lS nS YQ (get?_update_seq (kp S _ (by simpa using nIS) pS.1) fun _=> #[]) Jb;rw[List.take_of_length_le (by rw[Paired.length rp,ej];exact Nat.le_refl _)] at best
  exact⟨b,H,J2.pins_of fun p hp=>J2.pin p (List.mem_append_right _ (.tail _ hp)),rb,q b yb mem sb best⟩
 |cons x r ih=>
  intro j s b yb ub c oI hj hjl I hit rb sb mem best;have hjx:us[j]? =some x:=by
   have e:=congrArg List.head? hj;rw[List.head?_drop] at e
   exact e
  have hjn:us.drop (j+1)=r:=by
   rw[<-List.tail_drop,hj]
   rfl
  have hlx:j+1<=us.length:=(List.getElem?_eq_some_iff.mp hjx).1;obtain⟨yx,ey,sx⟩:=ZlP rp j x hjx;have tk:ys.take (j+1)=ys.take j++[yx]:=by rw[List.take_add_one,ey];rfl
  have pS:=I.pin (S,seqObj "list" #[ub,ub] c) (List.mem_append_right _ (.tail _ (.head _)));refine Zne pS.1 (Ze6 hh nl lI (two _) hq hjx I hit) fun v h' tk' ⟨rv,mv⟩=> ?_;obtain⟨o,J2,hi2⟩:=mv tk';have pS2:=J2.pin (S,seqObj "list" #[ub,ub] c) (List.mem_append_right _ (.tail _ (.head _)));have pI2:=J2.pin (it,o) (List.mem_append_right _ (.head _));refine⟨_,Zsb J2 sx sb rv rb (show X.A.units+1+10<cLine by omega),pS2.1,fun e=> ?_,fun e=>ih (j+1) _ b yb ub c o hjn hlx J2 (hi2 _ pI2.1) rb sb mem fun z hz=> ?_⟩
  ·have J4:=ZaF (Ze5 (ZaF J2) lS (one o) YQ (get?_update_seq pS2.1 fun _=> #[v,v]) Jb);refine ih (j+1) _ x yx v _ o hjn hlx J4 (hi2 _ (J4.pin (it,o) (List.mem_append_right _ (.head _))).1) rv sx (List.mem_of_getElem? ey) fun z hz=> ?_;rw[tk] at hz
   rcases List.mem_append.mp hz with old|new
   ·cases lz:Zgt z yx with
    |false=>rfl
    |true=>exact absurd (Zf6.tr _ _ _ lz e) (by rw[best z old];exact Bool.false_ne_true)
   ·have:z=yx:=by simpa using new
    rw[this];exact Zf6.irr _
  ·rw[tk] at hz
   rcases List.mem_append.mp hz with old|new
   ·exact best z old
   ·have:z=yx:=by simpa using new
    rw[this];exact e
theorem Zng(hc:X.calm=true)(hu:X.A.units+30<cLine):Zbn X (.builtin "min") (fun xs H Q=>∃(l:Addr) (x:V) (us:List V) (ys:List Lf),xs=[.ref l]/\SqL X.K H l (x::us)/\Paired (Zig X.K H) ys (x::us)/\
  ∀v y,y∈ys->Zig X.K H y v->(∀z∈ys,Zgt z y=false)->Q v H):=by
 intro pins s σ H xs vals Q I r h;obtain⟨l,x,us,ys,rfl,hq,rp,q⟩:=h;obtain⟨u,rfl,rx0⟩:=Zcm r;cases rx0;have hh:=I.ok.hd hc;obtain⟨vs,rx,pl,_⟩:=I.list hq;have nl:l≠s.heap.objs.size:=Nat.ne_of_lt (let ⟨_,e,_⟩:=pl.isList;Heap.lt_size e)
 refine call_function_tree (Q:=EP X pins σ Q) PySem.F.kind_min PySem.F.plain_min PySem.F.entry_min (PySem.F.args_min1 _) ?_;have bp:Builtin.Builtins.bindParams "min" ["key","default"] 0 ⟨[],[]⟩=pure [none,none]:=rfl;refine wpAny_bind (m:=Builtin.Builtins.bindParams "min" ["key","default"] 0 ⟨[],[]⟩) (wpAny_of_eq bp (wpAny_bind (wpAny_pure (wpAny_bind (wpAny_pyIter_list pl.isList (wpAny_bind (wpAny_newList ?_ (Nat.zero_le _))))))))
 rw[Zoz];generalize ho:({cls:=.type "list_iterator",data:=.fields #[.ref l,.int 0 0]}:Obj)=oI;have sz1:(s.heap.push oI).objs.size=s.heap.objs.size+1:=size_push' ..;rw[sz1];have gI:((s.heap.push oI).push (seqObj "list" #[] 0)).get? s.heap.objs.size=some oI:=Heap.get?_push_of_some _ (Heap.get?_push_size _ (by rw[<-ho];rfl))
 have gS:((s.heap.push oI).push (seqObj "list" #[] 0)).get? (s.heap.objs.size+1)=some (seqObj "list" #[] 0):=by rw[<-sz1];exact Heap.get?_push_size _ rfl
 have lI:Zgu X s.heap.objs.size:=ZgL I (Nat.le_refl _);have lS:Zgu X (s.heap.objs.size+1):=ZgL I (Nat.le_succ _);have fresh:∀a,s.heap.objs.size<=a->H a=none/\a≠X.env.locals/\a∉X.fs:=fun a ha=>⟨I.hok.fresh ha,fun z=>absurd (z▸ha) (Nat.not_le.mpr I.lt),I.nofs ha⟩
 have old:∀p∈pins,p.1<s.heap.objs.size:=fun p hp=>Heap.lt_size (I.pin p (List.mem_append_right _ hp)).1;have nI:∀p∈pins,p.1≠s.heap.objs.size:=fun p hp=>Nat.ne_of_lt (old p hp);have nS:∀p∈pins,p.1≠s.heap.objs.size+1:=fun p hp=>Nat.ne_of_lt (Nat.lt_succ_of_lt (old p hp));have I0:L2.Inv X pins σ H {s with heap:=(s.heap.push oI).push (seqObj "list" #[] 0)}:=I.kept (t':=s.toks) fun b u e=>Heap.get?_push_of_some _ (Heap.get?_push_of_some _ e)
 have I1:L2.Inv X ((s.heap.objs.size,oI)::(s.heap.objs.size+1,seqObj "list" #[] 0)::pins) σ H {s with heap:=(s.heap.push oI).push (seqObj "list" #[] 0)}:=I0.pins_of fun p hp=>by
  obtain rfl|m:=List.mem_cons.mp hp
  ·exact⟨gI,(fresh _ (Nat.le_refl _)).1,(fresh _ (Nat.le_refl _)).2.1,(fresh _ (Nat.le_refl _)).2.2,fun v z=>by rw[<-ho] at z;cases z⟩
  ·obtain rfl|m:=List.mem_cons.mp m
   ·exact⟨gS,(fresh _ (Nat.le_succ _)).1,(fresh _ (Nat.le_succ _)).2.1,(fresh _ (Nat.le_succ _)).2.2,Jb⟩
   ·exact I0.pin p (List.mem_append_right _ m)
 have nIS:s.heap.objs.size+1≠s.heap.objs.size:=Nat.succ_ne_self _;have hit0:((s.heap.push oI).push (seqObj "list" #[] 0)).IsListIter s.heap.objs.size l 0:=⟨oI,gI,by rw[<-ho],by rw[<-ho];rfl⟩
 refine wpAny_pure (And.intro (plainId_quiet PySem.F.plain_min_loop _) ?_);generalize hs1:({s with heap:=(s.heap.push oI).push (seqObj "list" #[] 0)}:Shared)=s1 at I1
 have hit1:s1.heap.IsListIter s.heap.objs.size l 0:=by rw[<-hs1];exact hit0
 generalize s.heap.objs.size=it at*
 have two:∀p∈(it+1,seqObj "list" #[] 0)::pins,p.1≠it:=fun p hp=>by
  obtain rfl|m:=List.mem_cons.mp hp
  ·exact nIS
  ·exact nI p m
 have pS:=I1.pin (it+1,seqObj "list" #[] 0) (List.mem_append_right _ (.tail _ (.head _)));refine ZlO pS.1 (Ze6 hh nl lI two hq (j:=0) (x:=x) rfl I1 hit1) fun v h' tk' ⟨rv,mv⟩=> ?_;obtain⟨o,J2,hi2⟩:=mv tk';have pS2:=J2.pin (it+1,seqObj "list" #[] 0) (List.mem_append_right _ (.tail _ (.head _)));obtain⟨yx,ey,sx⟩:=ZlP rp 0 x rfl;have J4:=ZaF (Ze5 (ZaF J2) lS (fun p hp=>by
  obtain rfl|m:=List.mem_cons.mp hp
  ·exact fun z=>nIS z.symm
  ·exact nS p m) YQ (get?_update_seq pS2.1 fun _=> #[v,v]) Jb)
 refine⟨pS2.1,Znf hh (by omega) lI lS nIS nl nI nS hq rp q us 1 _ x yx v _ o rfl (Nat.succ_le_succ (Nat.zero_le _)) J4 (hi2 _ (J4.pin (it,o) (List.mem_append_right _ (.head _))).1) rv sx (List.mem_of_getElem? ey) fun z hz=> ?_⟩;cases ys with
 |nil=>cases ey
 |cons y0 ys=>
  obtain rfl:y0=yx:=by simpa using ey
  have:z=y0:=by simpa using hz
  rw[this];exact Zf6.irr _
end
end L3
namespace L3
open PySem PySem.Spec PyProof.Rows L2
section
variable {X:Cx} {K:PySem.W.Frag}
theorem Zky(eK:X.K=K):IxR X (ZrR K):=by
 subst eK;exact YC
end
end L3
namespace L3
open PySem PySem.Spec PyProof.Rows L2
section
variable {X:Cx} {pins:List (Addr×Obj)} {σ:L2.St} {H:Hp} {s:Shared} {h':Heap}
end
section
variable {X:Cx} {pins:List (Addr×Obj)} {σ:L2.St} {H:Hp} {s:Shared}
end
end L3
namespace L3
open PySem PySem.Spec PyProof.Rows L2 PySem.W PySem.Calls
structure Zho (X:Cx) {α:Type} (lt:α->α->Bool) (R:Hp->α->V->Prop) (d:α):Prop where
 sto:STO lt
 kind:∀{A:Around} {pins:List (Addr×Obj)} {σ:L2.St} {H:Hp} {s:Shared} {kk:List α} {kx:List V} {ks:List Value},L2.Inv X pins σ H s->Paired (R H) kk kx->Yb kx ks->2<=ks.length->A.units+5<cLine->
  wpAny (model X.prog X.w) A (keyKind' (List.toArray ks)) (fun κ s'=>s'=s/\Zjv X.prog X.w A κ ks ks.length (fun i j=>lt (kk.getD i d) (kk.getD j d)) s) (fun _ _=>False) s
theorem Zdp{α:Type}{R:α->V->Prop}{d:α}:∀{kk:List α} {kx:List V} {ks:List Value} (_:Paired R kk kx) (_:Yb kx ks) (i:Nat),i<ks.length->∃x,R (kk.getD i d) x/\ZV x (ks.getD i Value.none)
 |_,_,_,.nil,.nil,i,h=>absurd h (Nat.not_lt_zero _)
 |_,_,_,.cons r _,.cons v _,0,_=>⟨_,r,v⟩
 |_,_,_,.cons _ t,.cons _ vt,i+1,h=>by
  obtain⟨x,a,b⟩:=Zdp t vt i (by simpa using h);exact⟨x,a,b⟩
def Zrl(_:Hp)(n:Int)(v:V):Prop:=v=.int n
theorem Zkz{H:Hp}:∀{kk:List Int} {kx:List V} {ks:List Value},Paired (Zrl H) kk kx->Yb kx ks->IntsAre ks kk
 |_,_,_,.nil,.nil=> .nil
 |_,_,_,.cons r t,.cons v vt=>by
  cases r;obtain⟨tk,rfl⟩:=v;exact .cons _ tk (Zkz t vt)
theorem ZkA{X:Cx}:Zho X ZaE Zrl 0 where
 sto:=Zcr
 kind:=by
  intro A pins σ H s kk kx ks I rp rk h2 hu;have ia:=Zkz rp rk;rw[ksk_kind (keys:=List.toArray ks) (kz:=kk) ia (by rw[List.size_toArray];exact h2)]
  refine wpAny_pure ⟨rfl,fun i j hi hj C hC=> ?_⟩;obtain⟨x,r1,r2⟩:=Zdp (d:=0) rp rk i hi;obtain⟨y,r3,r4⟩:=Zdp (d:=0) rp rk j hj;cases r1;cases r3;obtain⟨t,e⟩:=r2;obtain⟨u,f⟩:=r4;rw[e,f];exact kat_lt_int hC
section
variable {X:Cx} {pins:List (Addr×Obj)} {σ:L2.St} {H:Hp} {s:Shared} {α:Type} {lt:α->α->Bool} {R:Hp->α->V->Prop} {d:α}
theorem ZcN(S:Zho X lt R d)(hr:X.A.units+30<cLine):Zbn X (.builtin "sorted") (fun xs H Q=>∃(l:Addr) (us:List V) (kk:List α),xs=[.ref l]/\SqL X.K H l us/\us.length<64/\Paired (fun y x=>R H y x) kk us/\
  ∀zs:List (V×α),zs.Perm (us.zip kk)->zs.Pairwise (fun a b=>lt b.2 a.2=false)->∀D,H D=none->Q (.ref D) (upd H D (.lst (zs.map (·.1))))):=by
 intro pins s σ H xs vals Q I r h;obtain⟨l,us,kk,rfl,hq,h64,rp,q⟩:=h;obtain⟨u,rfl,rx⟩:=Zcm r;cases rx;obtain⟨vs,rx,pl,_⟩:=I.list hq;have hn:vs.length<64:=by rw[<-rx.length];exact h64
 have hz:vs.length<=sizeLine:=by rw[sizeLine_eq];omega
 have lkk:kk.length=us.length:=Paired.length rp;refine call_function_entry kind_sorted plain_sorted entry_sorted (args_sorted1 (.ref l)) ?_;unfold Builtin.«sorted»;refine wpAny_bind (m:=checkCount "sorted" 1 1 _) (wpAny_pure (wpAny_bind (collect_list pl.isList (wpAny_bind (wpAny_newList ?_ hz)) hz)));have sz1:((s.heap.push (seqObj "list" #[] 0)).update s.heap.objs.size (Obj.mapSeq (· ++vs.toArray))).objs.size=s.heap.objs.size+1:=by rw[Heap.size_update,size_push']
 generalize hh1:(s.heap.push (seqObj "list" #[] 0)).update s.heap.objs.size (Obj.mapSeq (· ++vs.toArray))=h1 at sz1
 have k1:∀b u,s.heap.get? b=some u->h1.get? b=some u:=fun b u e=>by
  have hlt:=Heap.lt_size e;rw[<-hh1];exact YQ b u (Nat.ne_of_lt hlt) (Heap.get?_push_of_some _ e)
 generalize hD:h1.objs.size=D at sz1
 have oD:(h1.push (seqObj "list" vs.toArray 0)).get? D=some (seqObj "list" vs.toArray 0):=by rw[<-hD];exact Heap.get?_push_size _ rfl
 have k2:∀b u,s.heap.get? b=some u->(ZbR (h1.push (seqObj "list" vs.toArray 0)) D vs).get? b=some u:=fun b u e=>
  Zow b u (Nat.ne_of_lt (Nat.lt_of_lt_of_le (Heap.lt_size e) (by omega))) (Heap.get?_push_of_some _ (k1 b u e))
 have I2:L2.Inv X pins σ H {s with heap:=ZbR (h1.push (seqObj "list" vs.toArray 0)) D vs}:=I.kept (t':=s.toks) k2;refine wpAny_bind (wpAny_holding (wpAny_call_entry slot_list_sort ⟨_,oD,rfl⟩ entry_list_sort ?body (args_list_sort _)));refine ZlM (ans:=fun i j=>lt (kk.getD i d) (kk.getD j d)) oD hn (S.sto.ord _) (fun h2=> ?_) fun p pl2 so=>⟨_,rfl,wpAny_pure ⟨_,rfl, ?_⟩⟩
 ·exact S.kind I2 rp rx h2 (show X.A.units+1+1+5<cLine by omega)
 ·have lout:(p.toList.map fun i=>vs.getD i Value.none).length=vs.length:=by rw[List.length_map,Array.length_toList,pl2.size]
  have rv:=Zq0 rx pl2;obtain⟨e,he⟩:=sortedHeap_at (h:=h1.push (seqObj "list" vs.toArray 0)) (out:=List.toArray (p.toList.map fun i=>vs.getD i Value.none)) oD;have I3:L2.Inv X pins σ H {s with heap:=sortedHeap (h1.push (seqObj "list" vs.toArray 0)) D vs (List.toArray (p.toList.map fun i=>vs.getD i Value.none))}:=I.kept (t':=s.toks) fun b u e=>YQ b u (Nat.ne_of_lt (Nat.lt_of_lt_of_le (Heap.lt_size e) (by omega))) (k2 b u e)
  have fD:H D=none:=I.hok.fresh (by omega);have J:=Zhg (n:=D) (q:=.lst (p.toList.map fun i=>us.getD i .non)) I I3 fD (by
   cases z:s.heap.get? D with
   |none=>rfl
   |some o=>exact absurd (Heap.lt_size z) (Nat.not_lt.mpr (by omega))) ⟨by rw[rv.length,lout];exact hz,_,_,rv,he⟩
  refine⟨.ref D,_,J,rfl, ?_⟩;have fin:=q (p.toList.map fun i=>(us.getD i .non,kk.getD i d)) (Zq1 lkk.symm (by rw[rx.length];exact pl2)) (Zq2 so pl2) D fD
  rw[List.map_map] at fin
  exact fin
end
section
variable {X:Cx} {pins:List (Addr×Obj)} {σ:L2.St} {H:Hp} {s:Shared} {α:Type} {lt:α->α->Bool} {R:Hp->α->V->Prop} {d:α} {k:Nat} {g:Addr} {fd:FuncData} {p:Str} {sp:Sp}
end
end L3
namespace L3
open PySem PySem.Spec PyProof.Rows L2
end L3
namespace L3
open PySem PySem.Spec PyProof.Rows L2
theorem Zjx{X:Cx}{K:PySem.W.Frag}{e:PySem.Expr}{f:Str}{pos:Pos}{ta:TE}(eK:X.K=K)(he:PE X e ta)(hb:attributeBase e f X.env (eval e X.env)=eval e X.env):PE X (.Attribute e f pos) (ZqW K ta f):=by
 subst eK;exact ZW he hb
end L3
namespace L3
open PySem PySem.Spec PyProof.Rows L2 PySem.W PySem.Calls
end L3
namespace L3
open PySem PySem.Spec PyProof.Rows L2 PySem.W PySem.Calls
section
variable {X:Cx} {pins:List (Addr×Obj)} {σ:L2.St} {H:Hp} {s:Shared} {A:Around}
theorem ZfJ{K:PySem.W.Frag}:∀{xs:List V},(∀x∈xs,Xk x=true)->Zf4 K H (xs.map Dt.v) xs
 |[],_=> .nil
 |x::xs,h=> .cons (.flat (h x (List.mem_cons_self ..))) (ZfJ fun y hy=>h y (List.mem_cons_of_mem _ hy))
theorem ZsS{xs:List V}{j:Nat}(h:j<xs.length):(xs.map Dt.v).getD j (.v .non)=.v xs[j]:=by
 rw[List.getD_eq_getElem?_getD,List.getElem?_map,List.getElem?_eq_getElem h]
 rfl
theorem ZoH(I:L2.Inv X pins σ H s){a b:Addr}{xs:List V}(q1:SqT X.K H a xs)(q2:SqT X.K H b xs)(f:∀x∈xs,Xk x=true)(hu:A.units<cLine):SeqAt.EqAt A s (.ref a) (.ref b) true:=by
 intro P w E Q q
 by_cases hab:a=b
 ·subst hab;exact SeqAt.EqAt.same _ P w E Q q
 ·obtain⟨us,v1,p1,_⟩:=I.tuple q1;obtain⟨vs,v2,p2,_⟩:=I.tuple q2;have e1:=v1.length;have e2:=v2.length;refine EqP.refs hab (P:=P) (w:=w) ?_ E Q q;have rc:=(ZqC (P:=P) (w:=w) (A:=A) (e:=fun _=>true) (show s.heap.IsTuple a us.toArray from p1) (show s.heap.IsTuple b vs.toArray from p2) hu (fun j h1 h2=> ?_)).1
  ·have ee:Za6 us.toArray vs.toArray (fun _=>true) 0=true:=by
    unfold Za6;rw[List.size_toArray,List.size_toArray,<-e1,<-e2,beq_self_eq_true,Bool.and_true];exact List.all_eq_true.mpr fun _ _=>rfl
   rw[ee] at rc
   exact rc
  ·have l1:j<us.length:=by simpa using h1
   have l2:j<vs.length:=by simpa using h2
   obtain⟨x,a1,b1⟩:=Ze4 (ZfJ (K:=X.K) (H:=H) f) v1 j l1;obtain⟨y,a2,b2⟩:=Ze4 (ZfJ (K:=X.K) (H:=H) f) v2 j l2;rw[ZsS (by omega)] at a1 a2
   cases a1 with
   |flat fx=>
    cases a2 with
    |flat fy=>
     intro E2 Q2 q;have q':=Zh5 b1 b2 fx fy P w E2 Q2 (A:=A.in1) (s:=s) (by rw[Ji fx];exact q)
     simpa using q'
def ZoI(K:PySem.W.Frag)(H:Hp)(kb:List (Key×V))(kv:Key×V):Prop:=∃(p q:Addr) (xs:List V),kv.2=.ref p/\YB kb kv.1=some (.ref q)/\SqT K H p xs/\SqT K H q xs/\∀x∈xs,Xk x=true
theorem ZoJ(I:L2.Inv X pins σ H s){kb:List (Key×V)}{vb:List (Key×Value)}(rb:KV kb vb)(hu:A.units<cLine){ka:List (Key×V)}{va:List (Key×Value)}(ra:KV ka va)(fa:∀kv∈ka,ZoI X.K H kb kv):PySem.W.KeqHits A s vb va true:=by
 induction ra with
 |nil=>exact .nil
 | @cons p q ps qs h t ih=>
  obtain⟨k,v⟩:=p;obtain⟨k',u⟩:=q;obtain⟨e1,e2⟩:=h;have e1:k=k':=e1;subst e1;have e2:ZV v u:=e2;have fr:=ih fun kv hm=>fa kv (List.mem_cons_of_mem _ hm);obtain⟨pa,pb,xs,z1,z2,z3,z4,z5⟩:=fa (k,v) (List.mem_cons_self ..);have z1:v=.ref pa:=z1;subst z1;cases e2;have rv:=KV.val rb k;rw[z2] at rv
  cases hw:valueAt vb k with
  |none=>rw[hw] at rv;exact rv.elim
  |some u'=>
   rw[hw] at rv
   cases rv;exact .hit (e:=true) hw (ZoH I z3 z4 z5 hu) fr
def ZsT(K:PySem.W.Frag)(neg:Bool):R2:=fun x y H Q=>∃(a b:Addr) (ka kb:List (Key×V)),x=.ref a/\y=.ref b/\Rd H a (.dK ka)/\Rd H b (.dK kb)/\ka.length=kb.length/\(∀kv∈ka,ZoI K H kb kv)/\Q (.bl (!neg)) H
theorem Zrm(hu:X.A.units+30<cLine):OpR X (compareOp .NotEq) (ZsT X.K true):=by
 intro pins s σ H x y v u Q I rx ry h;obtain⟨a,b,ka,kb,rfl,rfl,h1,h2,el,sm,q⟩:=h;cases rx;cases ry;obtain⟨_,z1,va,r1,dd1⟩:=Zco I.hok h1;obtain⟨_,z2,vb,r2,dd2⟩:=Zco I.hok h2;have l1:ka.length=va.length:=Paired.length r1;have l2:kb.length=vb.length:=Paired.length r2;refine PySem.W.keq_ne z1 z2 dd1 dd2 (by omega) (fun _=>ZoJ I r2 (by show X.A.units+1<cLine;omega) r1 sm) ?_
 rw[<-l1,<-l2,el,beq_self_eq_true,Bool.true_and];exact⟨.bl _,H,I,rfl,q⟩
end
end L3
namespace L3
open PySem PySem.Spec PyProof.Rows L2 PySem.W PySem.Calls
abbrev Tri:=Str×Int×Str
def ZiQ:Tri->Tri->Bool:=Zie Yw (Zie ZaE Yw)
theorem ZiR:STO ZiQ:=Zf5 Yn (Zf5 Zcr Yn)
def ZoK(K:PySem.W.Frag)(H:Hp)(x:Tri)(a:V):Prop:=∃p,a=.ref p/\SqT K H p [.str x.1,.int x.2.1,.str x.2.2]
theorem ZlQ{X:Cx}{pins:List (Addr×Obj)}{σ:L2.St}{H:Hp}{s:Shared}(I:L2.Inv X pins σ H s){x:Tri}{p:Addr}(h:SqT X.K H p [.str x.1,.int x.2.1,.str x.2.2]):∃t u v,s.heap.IsTuple p #[.str x.1 t,.int x.2.1 u,.str x.2.2 v]:=by
 obtain⟨its,r,T,_⟩:=I.tuple h;cases r with
 |cons a r=>
  cases r with
  |cons b r=>
   cases r with
   |cons c r=>
    cases r;obtain⟨t,rfl⟩:=a;obtain⟨u,rfl⟩:=b;obtain⟨v,rfl⟩:=c;exact⟨t,u,v,T⟩
theorem Zq8{X:Cx}{pins:List (Addr×Obj)}{σ:L2.St}{H:Hp}{s:Shared}{A:Around}(I:L2.Inv X pins σ H s){x y:Tri}{a b:Addr}(ha:SqT X.K H a [.str x.1,.int x.2.1,.str x.2.2])(hb:SqT X.K H b [.str y.1,.int y.2.1,.str y.2.2]){C:Bool->Shared->Prop}(h:C (ZiQ x y) s):wpAny (model X.prog X.w) A (keyLt' (tuples' true) (.ref a) (.ref b)) C (fun _ _=>False) s:=by
 obtain⟨t,u,v,o,e1,c1,n,e3⟩:=ZlQ I ha;obtain⟨t',u',v',o',f1,c2,n',f3⟩:=ZlQ I hb;have hk:ZiQ x y=if x.1=y.1 then(if x.2.1=y.2.1 then Yw x.2.2 y.2.2 else ZaE x.2.1 y.2.1) else Yw x.1 y.1:=rfl;refine kat_lt e1 e3 f1 f3 ?_;show KatLex X.prog X.w A true false C [(.str x.1 t,.str y.1 t'),(.int x.2.1 u,.int y.2.1 u'),(.str x.2.2 v,.str y.2.2 v')] 0 s;refine kat_cons (wpAny_eqBool_str ?_)
 by_cases z:x.1=y.1
 ·rw[if_pos z] at hk
  rw[decide_eq_true z];refine kat_yes (kat_cons (wpAny_eqBool_int ?_))
  by_cases z2:x.2.1=y.2.1
  ·rw[if_pos z2] at hk
   rw[z2,beq_self_eq_true];refine kat_yes (kat_cons (wpAny_eqBool_str ?_))
   by_cases z3:x.2.2=y.2.2
   ·rw[decide_eq_true z3];refine kat_yes (kat_nil ?_);rw[hk,z3,Yn.irr] at h
    exact h
   ·rw[decide_eq_false z3];refine kat_no ?_;show wpAny (model X.prog X.w) A (oneLt' false (.str x.2.2 v) (.str y.2.2 v')) C (fun _ _=>False) s;refine kat_one _ _ (PyProof.Rows.lt_str ?_);rw[hk] at h
    exact h
  ·rw[if_neg z2] at hk
   rw[beq_false_of_ne z2];refine kat_no ?_;show wpAny (model X.prog X.w) A (oneLt' false (.int x.2.1 u) (.int y.2.1 u')) C (fun _ _=>False) s;refine kat_one _ _ (PyProof.Rows.lt_int ?_);rw[hk] at h
   exact h
 ·rw[if_neg z] at hk
  rw[decide_eq_false z];refine kat_no ?_;show wpAny (model X.prog X.w) A (oneLt' true (.str x.1 t) (.str y.1 t')) C (fun _ _=>False) s;refine oneLt_str ?_;rw[hk] at h
  exact h
theorem ZkB{X:Cx}{pins:List (Addr×Obj)}{σ:L2.St}{H:Hp}{s:Shared}(I:L2.Inv X pins σ H s):∀{kk:List Tri} {kx:List V} {ks:List Value} (_:Paired (ZoK X.K H) kk kx) (_:Yb kx ks),∃fs,KatTups s.heap ks fs/\fs.length=ks.length/\∀v∈fs,∃x t,v=Value.str x t
 |_,_,_,.nil,.nil=>⟨[],.nil,rfl,fun v hv=>nomatch hv⟩
 |_,_,_,.cons (a:=y) r t,.cons v vt=>by
  obtain⟨fs,a,b,c⟩:=ZkB I t vt;obtain⟨p,rfl,hp⟩:=r;obtain⟨tk,u,w,o,e1,e2,n,e3⟩:=ZlQ I hp;cases v;refine⟨.str y.1 tk::fs,.cons e1 e2 e3 rfl a,by rw[List.length_cons,List.length_cons,b],fun w hw=> ?_⟩;cases hw with
  |head=>exact⟨_,_,rfl⟩
  |tail _ hw=>exact c w hw
theorem ZoL{X:Cx}:Zho X ZiQ (ZoK X.K) (Str.empty,0,Str.empty) where
 sto:=ZiR
 kind:=by
  intro A pins σ H s kk kx ks I rp rk h2 hu;obtain⟨fs,t1,t2,t3⟩:=ZkB I rp rk;refine kat_kind (T:=.type "str") t1 (by omega) (fun v hv=> ?_) rfl ⟨rfl,fun i j hi hj C hC=> ?_⟩
  ·obtain⟨n,t,rfl⟩:=t3 v hv;exact Looks.of_pure rfl
  ·obtain⟨x,r1,r2⟩:=Zdp (d:=(Str.empty,0,Str.empty)) rp rk i hi;obtain⟨y,r3,r4⟩:=Zdp (d:=(Str.empty,0,Str.empty)) rp rk j hj;obtain⟨p,rfl,hp⟩:=r1;obtain⟨q,rfl,hq⟩:=r3;cases z1:ks.getD i Value.none with
   |ref p'=>
    rw[z1] at r2
    cases r2;cases z2:ks.getD j Value.none with
    |ref q'=>
     rw[z2] at r4
     cases r4;exact Zq8 I hp hq hC
    |_=>rw[z2] at r4;cases r4
   |_=>rw[z1] at r2;cases r2
end L3
namespace K91
open PySem PySem.Spec PyProof.Rows L2 L3 M1 M2 M3
set_option maxHeartbeats 5000000
def top(i:Nat):Stmt:=PySem.Challenge.pw_disposehall_k91_whole_any_order_between.main.body.getD i (.Pass ⟨0,0,0,0⟩)
abbrev Zjy:Stmt:=top 14
abbrev Zjz:Stmt:=top 15
abbrev ZjA:Stmt:=top 16
abbrev ZfK:Stmt:=top 17
abbrev ZfL:Stmt:=top 19
abbrev Zeq:Stmt:=top 20
abbrev ZfM:Stmt:=top 21
abbrev ZaS:Stmt:=top 22
abbrev Zhp:Stmt:=top 24
abbrev Zhq:Stmt:=top 25
abbrev ZfN:Stmt:=top 26
abbrev Zhr:Stmt:=top 27
abbrev Zdq:Stmt:=top 28
abbrev ZfO:Stmt:=top 29
abbrev Zer:Stmt:=top 30
abbrev Zes:Stmt:=top 31
abbrev ZcO:Stmt:=top 32
abbrev Zet:Stmt:=top 33
abbrev ZfP:Stmt:=top 36
abbrev Zbu:Stmt:=top 37
abbrev Zc1:Stmt:=top 39
abbrev Zc2:Stmt:=top 40
abbrev ZaT:Stmt:=top 41
abbrev Zc3:Stmt:=top 42
abbrev Zeu:Stmt:=top 43
abbrev Zc4:Stmt:=top 44
abbrev Zdr:Stmt:=top 45
abbrev ZaU:Stmt:=top 46
abbrev ZaV:Stmt:=top 47
abbrev ZcP:Stmt:=top 48
abbrev Zc5:Stmt:=top 49
abbrev Zev:Stmt:=top 50
abbrev ZcQ:Stmt:=top 51
abbrev Zf8:Stmt:=top 52
abbrev Zds:Stmt:=Xg (top 9) 0
abbrev Zbv:Stmt:=Xg (top 9) 2
abbrev ZcR:Stmt:=Xg (top 10) 0
abbrev Zdt:Stmt:=Xg (top 10) 1
abbrev Zbw:Stmt:=Xg (top 10) 3
abbrev ZbS:Stmt:=Xg (top 11) 0
abbrev Zay:Stmt:=Xg (top 11) 1
abbrev Zdu:Stmt:=Xg (top 12) 0
abbrev Zc6:Stmt:=Xg (top 13) 0
abbrev ZcS:Stmt:=Xg (top 35) 0
abbrev ZcT:Stmt:=Xg (top 35) 1
abbrev JR:Stmt:=Xg (top 35) 2
abbrev Zan:Stmt:=Xg (top 35) 3
abbrev JS:Stmt:=Xg (top 35) 4
abbrev Za7:Stmt:=Xg (top 35) 5
abbrev Zdv:Stmt:=Xg (top 35) 6
abbrev Zbx:Stmt:=Xg (top 35) 7
abbrev ZaW:Stmt:=Xg (top 35) 8
abbrev ZcU:Stmt:=Xg (top 35) 9
abbrev ZcV:Stmt:=Xg (top 35) 10
structure Txt (K:PySem.W.Frag) (mg:Str->Option Value) (Zg:Addr) (Zd:Addr) (Ze:Addr) (Zb:Addr) (Zk:Addr):Prop where
 z_abs:mg "abs"=none
 z_any:mg "any"=none
 z_dict:mg "dict"=none
 z_int:mg "int"=none
 z_len:mg "len"=none
 z_list:mg "list"=none
 z_max:mg "max"=none
 z_min:mg "min"=none
 z_range:mg "range"=none
 z_reversed:mg "reversed"=none
 z_sorted:mg "sorted"=none
 z_tuple:mg "tuple"=none
 kib:PySem.W.kitOne K (.type "int") (.type "bool")=some false
 kii:PySem.W.kitOne K (.type "int") (.type "int")=some true
 kll:PySem.W.kitOne K (.type "list") (.type "list")=some true
 ktt:PySem.W.kitOne K (.type "tuple") (.type "tuple")=some true
 kss:PySem.W.kitOne K (.type "str") (.type "str")=some true
 cl_Never:Cls K Zg
 ty_Never:TyC K Zg
 cl_After:Cls K Zd
 n_After_kind:YD K Zd "kind"
 n_After_days:YD K Zd "days"
 ty_After:TyC K Zd
 cl_Later:Cls K Ze
 n_Later_one:YD K Ze "one"
 n_Later_other:YD K Ze "other"
 ty_Later:TyC K Ze
 cl_Earlier:Cls K Zb
 n_Earlier_one:YD K Zb "one"
 n_Earlier_other:YD K Zb "other"
 ty_Earlier:TyC K Zb
 cl_House:Cls K Zk
 n_House_book:YD K Zk "book"
 n_House_told:YD K Zk "told"
 n_House_own:YD K Zk "own"
 n_House_holdings:YD K Zk "holdings"
 n_House_run_days:YD K Zk "run_days"
 n_House_taken:YD K Zk "taken"
 n_House_words:YD K Zk "words"
 ty_House:TyC K Zk
 ne_Never_After:Zg≠Zd
 ne_Never_Later:Zg≠Ze
 ne_Never_Earlier:Zg≠Zb
 Z01:Zg≠Zk
 ne_After_Later:Zd≠Ze
 ne_After_Earlier:Zd≠Zb
 Z02:Zd≠Zk
 ne_Later_Earlier:Ze≠Zb
 Z03:Ze≠Zk
 X3:Zb≠Zk
theorem Xl:100000<=sizeLine:=by rw[sizeLine_eq];decide
theorem sl{n:Nat}(h:n<=100000:=by decide):n<=sizeLine:=Nat.le_trans h Xl
theorem Zn{H:Hp}{p:Addr}{o:HO}(h:H p=none):Zx H (upd H p o):=fun b u e=>by rw[Zm (Zf e h)];exact e
theorem Zq9(x:Str)(c:Nat):(x++⟨#[c]⟩:Str).length=x.length+1:=strLen_append x ⟨#[c]⟩
theorem Zf9{α:Type}{xs:List α}{i:Int}(h0: -(xs.length:Int)<=i)(h1:i<xs.length):∃v,atI xs i=some v:=by
 unfold atI ixN
 by_cases h:0<=i
 ·rw[if_pos h,if_pos h1];exact⟨_,List.getElem?_eq_getElem (by omega)⟩
 ·rw[if_neg h,if_pos h0];exact⟨_,List.getElem?_eq_getElem (by omega)⟩
theorem Zhs{ns:List Int}{i:Int}(h0: -(ns.length:Int)<=i)(h1:i<ns.length):∃c,c∈ns/\atI (ns.map V.int) i=some (.int c):=by
 obtain⟨v,e⟩:=Zf9 (xs:=ns.map V.int) (i:=i) (by rw[List.length_map];exact h0) (by rw[List.length_map];exact h1)
 obtain⟨j,_,hj,_⟩:=ZdZ e;rw[List.getElem?_map] at hj
 cases q:ns[j]? with
 |none=>rw[q] at hj;cases hj
 |some c=>
  rw[q] at hj
  cases hj;exact⟨c,List.mem_of_getElem? q,e⟩
theorem Zsc{Q:VK}{a b:V}{H:Hp}(q:Q a H)(e:a=b):Q b H:=e▸q
theorem Zfa{c A B:Prop} [Decidable c](hc:c)(h:A):if decide c=true then A else B:=by
 rw[decide_eq_true hc];exact Zbb h
theorem Zqa(k:Nat):((10:Int)^k)=((10^k:Nat):Int):=by simp
theorem ZoM{k:Int}(h0:0<=k)(h1:k<=1000):ZrK 10 k:=⟨h0,by omega,by decide⟩
theorem pow_pos(k:Nat):(0:Int)<10^k:=by rw[Zqa];exact Int.natCast_pos.mpr (Nat.pow_pos (by decide))
theorem ixT{K:PySem.W.Frag}{i:Nat}{j:Int}{σ:L2.St}{H:Hp}{Q:VK}{a:Addr}{xs:List V}{v:V}(e:σ[i]? =some (some (.ref a)))(h:SqT K H a xs)(m:atI xs j=some v)(k:Q v H):tOp (ZqY K) (ZnH i) (tC (.int j)) σ H Q:=⟨_,e,a,_,_,_,rfl,rfl,h,m,k⟩
theorem vI{C:Int->Int->Prop}{g:Int->Int->V}{i:Nat}{σ:L2.St}{H:Hp}{Q:VK}{a k:Int}(e:σ[i]? =some (some (.int a)))(c:C a k)(q:Q (g a k) H):tOp (rI C g) (ZnH i) (tC (.int k)) σ H Q:=⟨_,e,a,k,rfl,rfl,c,q⟩
theorem vEq{i:Nat}{σ:L2.St}{H:Hp}{k:Bool->Hp->Prop}{x v:V}(e:σ[i]? =some (some x))(f:Zpy x v=true)(q:k (decide (x=v)) H):Zqw (tOp rEq (ZnH i) (tC v)) σ H k:=⟨_,e,f,_,rfl,q⟩
def Nm(z:Str):Prop:=1<=z.length/\z.length<=12/\∀c∈cs z,97<=c/\c<=122
def Zcs(n k at_:Int)(j:Nat):Nat:=97+((n/((j:Int)+3)+(j:Int)*(j:Int)+k*(if(j:Int)=at_ then 1 else 0))%26).toNat
def Zdw(n k:Int)(j:Nat):Nat:=97+(((j:Int)+k)%12+n/432%14).toNat
def Zfb(n k:Int):List Nat:=
 if n/144%3=1 then(List.range 12).map (Zdw n k)
 else if n/144%3=0 then(List.range (1+k%12).toNat).map (Zcs n k 12)
 else(List.range (1+n%12).toNat).map (Zcs n k (n/12%(1+n%12)))
def Zb7(n k:Int):Str:=⟨(Zfb n k).toArray⟩
theorem Zfc(n k:Int):cs (Zb7 n k)=Zfb n k:=rfl
def XR:Sp:=fun vs H Q _=>∃n k:Int,vs=[.int n,.int k]/\∀H',Zx H H'->Q (.str (Zb7 n k)) H'
theorem Zsd(n k a:Int)(j:Nat):97<=Zcs n k a j/\Zcs n k a j<=122:=by
 unfold Zcs;have h0:=Int.emod_nonneg (n/((j:Int)+3)+(j:Int)*(j:Int)+k*(if(j:Int)=a then 1 else 0)) (show(26:Int)≠0 by decide);have h1:=Int.emod_lt_of_pos (n/((j:Int)+3)+(j:Int)*(j:Int)+k*(if(j:Int)=a then 1 else 0)) (show(0:Int)<26 by decide);omega
theorem Zse(n k:Int)(j:Nat):97<=Zdw n k j/\Zdw n k j<=122:=by
 unfold Zdw;have h0:=Int.emod_nonneg ((j:Int)+k) (show(12:Int)≠0 by decide);have h1:=Int.emod_lt_of_pos ((j:Int)+k) (show(0:Int)<12 by decide);have h2:=Int.emod_nonneg (n/432) (show(14:Int)≠0 by decide);have h3:=Int.emod_lt_of_pos (n/432) (show(0:Int)<14 by decide);omega
theorem ZkC(n k:Int):Nm (Zb7 n k):=by
 have a0:=Int.emod_nonneg n (show(12:Int)≠0 by decide);have a1:=Int.emod_lt_of_pos n (show(0:Int)<12 by decide);have b0:=Int.emod_nonneg k (show(12:Int)≠0 by decide);have b1:=Int.emod_lt_of_pos k (show(0:Int)<12 by decide);have key:∀l:List Nat,cs (Zb7 n k)=l->1<=l.length->l.length<=12->(∀c∈l,97<=c/\c<=122)->Nm (Zb7 n k):=fun l e h1 h2 h3=>⟨by rw[ZlC,e];exact h1,by rw[ZlC,e];exact h2,by rw[e];exact h3⟩
 refine key (Zfb n k) (Zfc n k) ?_ ?_ ?_<;>unfold Zfb<;>split
 ·rw[List.length_map,List.length_range];decide
 ·split
  ·rw[List.length_map,List.length_range];omega
  ·rw[List.length_map,List.length_range];omega
 ·rw[List.length_map,List.length_range];decide
 ·split
  ·rw[List.length_map,List.length_range];omega
  ·rw[List.length_map,List.length_range];omega
 ·intro c hc;obtain⟨j,_,rfl⟩:=List.mem_map.mp hc;exact Zse n k j
 ·split<;>(intro c hc;obtain⟨j,_,rfl⟩:=List.mem_map.mp hc;exact Zsd ..)
theorem Znh{n k k':Int}(h0:0<=k)(h1:k<12)(h0':0<=k')(h1':k'<12)(h:Zb7 n k=Zb7 n k'):k=k':=by
 have h:Zfb n k=Zfb n k':=by rw[<-Zfc,<-Zfc,h]
 unfold Zfb at h
 by_cases w1:n/144%3=1
 ·rw[if_pos w1,if_pos w1] at h
  have h:Zdw n k 0=Zdw n k' 0:=congrArg (fun l=>l.headD 0) h;unfold Zdw at h
  have h2:=Int.emod_nonneg (n/432) (show(14:Int)≠0 by decide);have e1:((0:Nat):Int)+k=k:=by omega
  have e2:((0:Nat):Int)+k'=k':=by omega
  rw[e1,e2,Int.emod_eq_of_lt h0 h1,Int.emod_eq_of_lt h0' h1'] at h
  omega
 ·rw[if_neg w1,if_neg w1] at h
  by_cases w0:n/144%3=0
  ·rw[if_pos w0,if_pos w0] at h
   have h:=congrArg List.length h;rw[List.length_map,List.length_map,List.length_range,List.length_range,Int.emod_eq_of_lt h0 h1,Int.emod_eq_of_lt h0' h1'] at h
   omega
  ·rw[if_neg w0,if_neg w0] at h
   have a0:=Int.emod_nonneg n (show(12:Int)≠0 by decide);have pos:(0:Int)<1+n%12:=by omega
   have t0:=Int.emod_nonneg (n/12) (Int.ne_of_gt pos);have t1:=Int.emod_lt_of_pos (n/12) pos;obtain⟨a,ea⟩:∃a:Nat,n/12%(1+n%12)=(a:Int):=⟨(n/12%(1+n%12)).toNat,by omega⟩
   rw[ea] at h t0 t1
   have lt:a<(1+n%12).toNat:=by omega
   have h:((List.range (1+n%12).toNat).map (Zcs n k a))[a]? =((List.range (1+n%12).toNat).map (Zcs n k' a))[a]? :=by rw[h]
   rw[List.getElem?_map,List.getElem?_map,List.getElem?_range lt] at h
   have h:Zcs n k a a=Zcs n k' a a:=Option.some.inj h;unfold Zcs at h
   rw[if_pos rfl] at h
   generalize n/((a:Int)+3)+(a:Int)*(a:Int)=b at h
   have x0:=Int.emod_nonneg (b+k*1) (show(26:Int)≠0 by decide);have y0:=Int.emod_nonneg (b+k'*1) (show(26:Int)≠0 by decide);omega
inductive Tr where
 |never|after (k:Str) (d:Int)|later (x y:Tr)|earlier (x y:Tr)
def Tr.deep:Tr->Nat
 | .never=>0
 | .after _ _=>0
 | .later x y=>max x.deep y.deep+1
 | .earlier x y=>max x.deep y.deep+1
def Tr.cnt:Tr->Nat
 | .never=>1
 | .after _ _=>1
 | .later x y=>x.cnt+y.cnt
 | .earlier x y=>x.cnt+y.cnt
def Tr.lvs:Tr->List (Str×Int)
 | .never=>[]
 | .after k d=>[(k,d)]
 | .later x y=>x.lvs++y.lvs
 | .earlier x y=>x.lvs++y.lvs
def ZjB:Option Int->Option Int->Option Int
 |some a,some b=>some (if b>a then b else a)
 |_,_=>none
def Zfd:Option Int->Option Int->Option Int
 |none,o=>o
 |some a,none=>some a
 |some a,some b=>some (if b<a then b else a)
def Tr.due(l:Tb):Tr->Option Int
 | .never=>none
 | .after k d=>(lk l k).map (· +d)
 | .later x y=>ZjB (x.due l) (y.due l)
 | .earlier x y=>Zfd (x.due l) (y.due l)
def oV:Option Int->V
 |some i=> .int i
 |none=> .non
def fA(k:Str)(d:Int):List (Str×V):=ZL "days" (.int d) (ZL "kind" (.str k) [])
def fP(p q:Addr):List (Str×V):=ZL "other" (.ref q) (ZL "one" (.ref p) [])
def Xa(cn ca cl ce:Addr)(H:Hp):Tr->Addr->Prop
 | .never,a=>∃dx,H a=some (.ins cn dx [])
 | .after k d,a=>∃dx,H a=some (.ins ca dx (fA k d))
 | .later x y,a=>∃dx p q,H a=some (.ins cl dx (fP p q))/\Xa cn ca cl ce H x p/\Xa cn ca cl ce H y q
 | .earlier x y,a=>∃dx p q,H a=some (.ins ce dx (fP p q))/\Xa cn ca cl ce H x p/\Xa cn ca cl ce H y q
def Zgi(cn ca cl ce:Addr):Tr->Addr
 | .never=>cn
 | .after _ _=>ca
 | .later _ _=>cl
 | .earlier _ _=>ce
def ZjC(H:Hp)(p:Addr)(ls:List (Str×Int)):Prop:=∃ys,H p=some (.lst ys)/\Paired (fun(kd:Str×Int) y=>∃q,y=V.ref q/\H q=some (.tup [.str kd.1,.int kd.2])) ls ys
def Zc7(C:Addr):Sp:=fun vs H Q _=>∃(x dx:Addr) (k:Str) (d:Int),vs=[.ref x,.str k,.int d]/\H x=some (.ins C dx [])/\Q .non (upd H x (.ins C dx (fA k d)))
def Za8(C:Addr):Sp:=fun vs H Q _=>∃(x dx p q:Addr),vs=[.ref x,.ref p,.ref q]/\H x=some (.ins C dx [])/\Q .non (upd H x (.ins C dx (fP p q)))
def Zht(cn ca cl ce:Addr):Sp:=fun vs H Q _=>vs=[]/\∀a H',Zx H H'->H a=none->Xa cn ca cl ce H' .never a->Q (.ref a) H'
def Zhu(cn ca cl ce:Addr):Sp:=fun vs H Q _=>∃(k:Str) (d:Int),vs=[.str k,.int d]/\∀a H',Zx H H'->H a=none->Xa cn ca cl ce H' (.after k d) a->Q (.ref a) H'
def Zhv(cn ca cl ce:Addr):Sp:=fun vs H Q _=>∃(p q:Addr) (x y:Tr),vs=[.ref p,.ref q]/\Xa cn ca cl ce H x p/\Xa cn ca cl ce H y q/\∀a H',Zx H H'->H a=none->Xa cn ca cl ce H' (.later x y) a->Q (.ref a) H'
def Zew(cn ca cl ce:Addr):Sp:=fun vs H Q _=>∃(p q:Addr) (x y:Tr),vs=[.ref p,.ref q]/\Xa cn ca cl ce H x p/\Xa cn ca cl ce H y q/\∀a H',Zx H H'->H a=none->Xa cn ca cl ce H' (.earlier x y) a->Q (.ref a) H'
def Zc8(cn ca cl ce:Addr)(n:Nat)(C:Addr):Sp:=fun vs H Q _=>∃(a b:Addr) (t:Tr) (l:Tb),vs=[.ref a,.ref b]/\Xa cn ca cl ce H t a/\t.deep<n/\Zgi cn ca cl ce t=C/\Rd H b (.dK (kk l))/\∀H',Zx H H'->Q (oV (t.due l)) H'
def JX(cn ca cl ce:Addr)(n:Nat)(C:Addr):Sp:=fun vs H Q _=>∃(a:Addr) (t:Tr),vs=[.ref a]/\Xa cn ca cl ce H t a/\t.deep<n/\t.cnt<=100/\Zgi cn ca cl ce t=C/\∀p H',Zx H H'->H p=none->ZjC H' p t.lvs->Q (.ref p) H'
theorem Zfe{cn ca cl ce C:Addr}:∀vs H Q E,¬Zc8 cn ca cl ce 0 C vs H Q E:=fun _ _ _ _ ⟨_,_,t,_,_,_,z,_⟩=>Nat.not_lt_zero t.deep z
theorem ZbT{cn ca cl ce C:Addr}:∀vs H Q E,¬JX cn ca cl ce 0 C vs H Q E:=fun _ _ _ _ ⟨_,t,_,_,z,_⟩=>Nat.not_lt_zero t.deep z
def Tr.good:Tr->Prop
 | .never=>True
 | .after k d=>Nm k/\0<=d/\d<10^40
 | .later x y=>x.good/\y.good
 | .earlier x y=>x.good/\y.good
def Jf(H:Hp):Tr->Addr->Prop
 | .never,a=>H a=some (.tup [.str (Str.ofString "never")])
 | .after k d,a=>H a=some (.tup [.str (Str.ofString "after"),.str k,.int d])
 | .later x y,a=>∃p q,H a=some (.tup [.str (Str.ofString "later"),.ref p,.ref q])/\Jf H x p/\Jf H y q
 | .earlier x y,a=>∃p q,H a=some (.tup [.str (Str.ofString "earlier"),.ref p,.ref q])/\Jf H x p/\Jf H y q
def ZaG(cn ca cl ce:Addr)(n:Nat):Sp:=fun vs H Q _=>∃(a:Addr) (t:Tr),vs=[.ref a]/\Jf H t a/\t.deep<n/\∀p H',Zx H H'->Xa cn ca cl ce H' t p->Q (.ref p) H'
theorem Zih{cn ca cl ce:Addr}:∀vs H Q E,¬ZaG cn ca cl ce 0 vs H Q E:=fun _ _ _ _ ⟨_,t,_,_,z,_⟩=>Nat.not_lt_zero t.deep z
def Zao:Sp:=fun vs H Q _=>∃c:Int,vs=[.int c]/\∀(d:Int) H',0<=d->d<10^40->Zx H H'->Q (.int d) H'
def Zby:Sp:=fun vs H Q _=>∃(a:Addr) (ns:List Int) (b:Int) (mo:Nat),vs=[.ref a,.int b,.int (mo:Int)]/\H a=some (.lst (ns.map V.int))/\ns.length<=1000/\1<=mo/\mo<=15/\∀p (t:Tr) H',Zx H H'->Jf H' t p->t.cnt<=mo->t.good->Q (.ref p) H'
structure Sr where
 nm:Str
 el:Option Str
 tm:Option Tr
def oS:Option Str->V
 |some z=> .str z
 |none=> .non
structure Sr.good (r:Sr):Prop where
 nm:Nm r.nm
 el:∀e,r.el=some e->Nm e
 tm:∀t,r.tm=some t->t.good/\t.cnt<=9
 some:r.el=none->r.tm≠none
def JD:List Str->List Sr->Prop
 |_,[]=>True
 |ns,r::rs=>r.good/\r.nm∉ns/\(∀e,r.el=some e->e∈ns)/\JD (ns++[r.nm]) rs
def Zsf(cn ca cl ce:Addr)(H:Hp):Option Tr->V->Prop
 |some t,v=>∃a,v=.ref a/\Xa cn ca cl ce H t a
 |none,v=>v=.non
def Zct(cn ca cl ce:Addr)(H:Hp)(d:Addr)(r:Sr):Prop:=∃v,H d=some (.tup [.str r.nm,oS r.el,v])/\Zsf cn ca cl ce H r.tm v
def Zff(cn ca cl ce:Addr)(H:Hp)(p:Addr)(rs:List Sr):Prop:=∃ds:List Addr,H p=some (.lst (ds.map V.ref))/\Paired (Zct cn ca cl ce H) ds rs
def Zbz:List Sr->Option Str->List Str
 |[],_=>[]
 |r::rr,w=>if some r.nm=w then r.nm::Zbz rr r.el else Zbz rr w
def Zdx:List Sr->Option Str->Option Sr
 |[],_=>none
 |r::rr,w=>if some r.nm=w then(if r.tm.isSome=true then some r else Zdx rr r.el) else Zdx rr w
def BkR:List Sr->Prop
 |[]=>True
 |r::rr=>r.good/\r.nm∉rr.map Sr.nm/\(∀e,r.el=some e->e∈rr.map Sr.nm)/\BkR rr
def Zex(cn ca cl ce:Addr):Sp:=fun vs H Q _=>∃(p:Addr) (n:Str) (rs:List Sr),vs=[.ref p,.str n]/\Zff cn ca cl ce H p rs/\rs.length<=63/\∀L H',H L=none->Zx H H'->H' L=some (.lst ((Zbz rs.reverse (some n)).map V.str))->Q (.ref L) H'
def Jx(cn ca cl ce:Addr):Sp:=fun vs H Q _=>∃(p:Addr) (n:Str) (rs:List Sr) (r:Sr),vs=[.ref p,.str n]/\Zff cn ca cl ce H p rs/\rs.length<=63/\Zdx rs.reverse (some n)=some r/\∀d H',Zx H H'->Zct cn ca cl ce H' d r->Q (.ref d) H'
def Zdy(cn ca cl ce:Addr):Sp:=fun vs H Q _=>∃(p:Addr) (n:Str) (rs:List Sr) (r:Sr),vs=[.ref p,.str n]/\Zff cn ca cl ce H p rs/\rs.length<=63/\Zdx rs.reverse (some n)=some r/\∀H',Zx H H'->Q (.str r.nm) H'
def ZcW(cn ca cl ce:Addr):Sp:=fun vs H Q _=>∃(p:Addr) (n:Str) (rs:List Sr) (r:Sr) (t:Tr),vs=[.ref p,.str n]/\Zff cn ca cl ce H p rs/\rs.length<=63/\Zdx rs.reverse (some n)=some r/\r.tm=some t/\∀a H',Zx H H'->Xa cn ca cl ce H' t a->Q (.ref a) H'
inductive Rw where
 |put (r s:Str) (d:Int)|move (r s:Str) (d:Int)|deed (r k:Str) (d:Int)|lift (h:Str) (d:Int)|hold (h:Str) (rec:Bool) (n:Str) (d:Int)
def Rw.day:Rw->Int
 | .put _ _ d=>d
 | .move _ _ d=>d
 | .deed _ _ d=>d
 | .lift _ d=>d
 | .hold _ _ _ d=>d
def Rw.word:Rw->Str
 | .put _ _ _=>"put"
 | .move _ _ _=>"move"
 | .deed _ _ _=>"deed"
 | .lift _ _=>"lift"
 | .hold _ _ _ _=>"hold"
def Rw.one:Rw->Str
 | .put r _ _=>r
 | .move r _ _=>r
 | .deed r _ _=>r
 | .lift h _=>h
 | .hold h _ _ _=>h
def onW(rec:Bool):Str:=if rec=true then "record" else "series"
def Rw.vs:Rw->List V
 | .put r s d=>[.str "put",.str r,.str s,.int d]
 | .move r s d=>[.str "move",.str r,.str s,.int d]
 | .deed r k d=>[.str "deed",.str r,.str k,.int d]
 | .lift h d=>[.str "lift",.str h,.int d]
 | .hold h rec n d=>[.str "hold",.str h,.str (onW rec),.str n,.int d]
def ZbP(H:Hp)(a:Addr)(w:Rw):Prop:=H a=some (.tup w.vs)
def YG(H:Hp)(p:Addr)(ws:List Rw):Prop:=∃ds:List Addr,H p=some (.lst (ds.map V.ref))/\Paired (ZbP H) ds ws
def ZR(ws:List Rw)(day:Int):List Rw:=ws.filter fun w=>decide (w.day<=day)
def Zcu(r:Str):Rw->Bool
 | .put x _ _=>decide (x=r)
 |_=>false
def YM(ws:List Rw)(r:Str):Bool:=ws.any (Zcu r)
def Zdz(r:Str):Rw->Option Za3
 | .put x s d=>if x=r then some (d,s) else none
 | .move x s d=>if x=r then some (d,s) else none
 |_=>none
def Yd(ws:List Rw)(r:Str):List Za3:=ws.filterMap (Zdz r)
def Top(ys:List Za3)(y:Za3):Prop:=y∈ys/\∀z∈ys,Zif y z=false
theorem Top.one{ys:List Za3}{y z:Za3}(h:Top ys y)(k:Top ys z):y=z:=by
 rcases Zbt.tri y z with a|a|a
 ·rw[h.2 z k.1] at a;cases a
 ·exact a
 ·rw[k.2 y h.1] at a;cases a
def Xb(r:Str)(l:Tb):Rw->Tb
 | .put x _ d=>if x=r then ZfH l "put" (max d ((lk l "put").getD d)) else l
 | .deed x k d=>if x=r then ZfH l k (max d ((lk l k).getD d)) else l
 |_=>l
def Yg(ws:List Rw)(r:Str):Tb:=ws.foldl (Xb r) []
def Zap:Rw->Option Str
 | .lift h _=>some h
 |_=>none
def YF(ws:List Rw):List Str:=ws.filterMap Zap
def JF(ls:List Str):Rw->Bool
 | .hold h _ _ _=>decide (h∉ls)
 |_=>false
def Yk(ws:List Rw):List Rw:=ws.filter (JF (YF ws))
def ZbA(r:Str)(line:List Str):Rw->Bool
 | .hold _ true n _=>decide (n=r)
 | .hold _ false n _=>decide (n∈line)
 |_=>false
def Yt(ws:List Rw)(r:Str)(line:List Str):List Str:=((Yk ws).filter (ZbA r line)).map Rw.one
def Jy(due:Option Int)(many:Nat)(day:Int):Str:=match due with
 |none=>"kept"
 |some d=>if day<d then "kept" else if 0<many then "held" else "due"
def Zaq:Sp:=fun vs H Q _=>∃(p:Addr) (ws:List Rw) (day:Int),vs=[.ref p,.int day]/\YG H p ws/\ws.length<=1000/\∀q H',H q=none->Zx H H'->YG H' q (ZR ws day)->Q (.ref q) H'
def Zcv:Sp:=fun vs H Q _=>∃(p:Addr) (ws:List Rw) (r:Str),vs=[.ref p,.str r]/\YG H p ws/\ws.length<=1000/\∀H',Zx H H'->Q (.bl (YM ws r)) H'
def Zbc:Sp:=fun vs H Q _=>∃(p:Addr) (ws:List Rw) (r:Str) (y:Za3),vs=[.ref p,.str r]/\YG H p ws/\ws.length<=1000/\Top (Yd ws r) y/\∀H',Zx H H'->Q (.str y.2) H'
def ZcX:Sp:=fun vs H Q _=>∃(p:Addr) (ws:List Rw) (r:Str),vs=[.ref p,.str r]/\YG H p ws/\ws.length<=1000/\∀q H',H q=none->Zx H H'->H' q=some (.dK (kk (Yg ws r)))->Q (.ref q) H'
def ZaH:Sp:=fun vs H Q _=>∃(p:Addr) (ws:List Rw),vs=[.ref p]/\YG H p ws/\ws.length<=1000/\∀q H',H q=none->Zx H H'->YG H' q (Yk ws)->Q (.ref q) H'
def Zc9:Sp:=fun vs H Q _=>∃(a o:Addr) (h n:Str) (rec:Bool) (d:Int) (r:Str) (line:List Str) (kvs:List (Key×V)),vs=[.ref a,.str r,.ref o]/\ZbP H a (.hold h rec n d)/\H o=some (.dK kvs)/\(∀z,Zgr H o (.str z) (if z∈line then some (V.bl true) else none))/\∀H',Zx H H'->Q (.bl (ZbA r line (.hold h rec n d))) H'
def ZdA:Sp:=fun vs H Q _=>∃(p l:Addr) (ws:List Rw) (r:Str) (line:List Str),vs=[.ref p,.str r,.ref l]/\YG H p ws/\ws.length<=1000/\H l=some (.lst (line.map V.str))/\line.length<=63/\(Yt ws r line).length<64/\
 ∀q zs H',H q=none->Zx H H'->zs.Perm (Yt ws r line)->sortedS zs=true->H' q=some (.lst (zs.map V.str))->Q (.ref q) H'
def ZdB:Sp:=fun vs H Q _=>∃(q:Addr) (zs:List Str) (due:Option Int) (day:Int),vs=[oV due,.ref q,.int day]/\H q=some (.lst (zs.map V.str))/\∀H',Zx H H'->Q (.str (Jy due zs.length day)) H'
structure Jd where
 word:Str
 ser:Option Str
 own:Option Str
 due:Option Int
 holds:List Str
def ZjD:Jd:=⟨"absent",none,none,none,[]⟩
def ZsU(H:Hp)(a:Addr)(j:Jd):Prop:=∃L,H a=some (.tup [.str j.word,oS j.ser,oS j.own,oV j.due,.ref L])/\H L=some (.lst (j.holds.map V.str))
structure IsJ (rs:List Sr) (ws:List Rw) (rec:Str) (day:Int) (j:Jd):Prop where
 no:YM (ZR ws day) rec=false->j=ZjD
 yes:YM (ZR ws day) rec=true->∃(y:Za3) (r0:Sr) (t:Tr),Top (Yd (ZR ws day) rec) y/\Zdx rs.reverse (some y.2)=some r0/\r0.tm=some t/\j.ser=some y.2/\j.own=some r0.nm/\j.due=t.due (Yg (ZR ws day) rec)/\
  j.holds.Perm (Yt (ZR ws day) rec (Zbz rs.reverse (some y.2)))/\sortedS j.holds=true/\j.word=Jy j.due j.holds.length day
def Xn:Rw->Bool
 | .hold _ _ _ _=>true
 |_=>false
structure ZcY (rs:List Sr) (ws:List Rw):Prop where
 len:ws.length<=1000
 held:(ws.filter Xn).length<64
 ser:∀r,∀y∈Yd ws r,y.2∈rs.map Sr.nm
def Ze7(cn ca cl ce:Addr):Sp:=fun vs H Q _=>∃(p q:Addr) (rs:List Sr) (ws:List Rw) (rec:Str) (day:Int),vs=[.ref p,.ref q,.str rec,.int day]/\Zff cn ca cl ce H p rs/\JD [] rs/\rs.length<=63/\YG H q ws/\ZcY rs ws/\
 ∀a j H',H a=none->Zx H H'->ZsU H' a j->(∀L,H' a=some (.tup [.str j.word,oS j.ser,oS j.own,oV j.due,.ref L])->H L=none)->IsJ rs ws rec day j->Q (.ref a) H'
def Zsg(H:Hp):Option Tr->V->Prop
 |some t,v=>∃a,v=.ref a/\Jf H t a
 |none,v=>v=.non
def ZkD(H:Hp)(d:Addr)(r:Sr):Prop:=∃v,H d=some (.tup [.str r.nm,oS r.el,v])/\Zsg H r.tm v
def LBk(H:Hp)(p:Addr)(rs:List Sr):Prop:=∃ds:List Addr,H p=some (.lst (ds.map V.ref))/\Paired (ZkD H) ds rs
def Za9(K:PySem.W.Frag):Sp:=fun vs H Q _=>∃(a:Addr) (ns:List Int) (k:Nat),vs=[.ref a,.int (k:Int)]/\SqL K H a (ns.map V.int)/\∀H',Zx H H'->Q (.int (ns[k]?.getD 0)) H'
def ZbB(K:PySem.W.Frag):Sp:=fun vs H Q _=>∃(a:Addr) (ns:List Int) (b:Int),vs=[.ref a,.int b]/\SqL K H a (ns.map V.int)/\∀p rs H',H p=none->Zx H H'->LBk H' p rs->JD [] rs->1<=rs.length->rs.length<=8->Q (.ref p) H'
def ZcZ(cn ca cl ce:Addr):Sp:=fun vs H Q _=>∃(p:Addr) (rs:List Sr),vs=[.ref p]/\LBk H p rs/\rs.length<=8/\(∀r∈rs,r.good)/\∀q H',H q=none->Zx H H'->Zff cn ca cl ce H' q rs->Q (.ref q) H'
def Zar:Sp:=fun vs H Q _=>∃n b:Int,vs=[.int n,.int b]/\∀(z:Str) H',Zx H H'->Q (.str z) H'
def Zas:Sp:=fun vs H Q _=>∃c b:Int,vs=[.int c,.int b]/\∀(n:Int) H',0<=n->Zx H H'->Q (.int n) H'
def Zqb(H:Hp)(d:Addr)(r:Sr):Prop:=∃v,H d=some (.tup [.str r.nm,oS r.el,v])/\True
def NBk(H:Hp)(p:Addr)(rs:List Sr):Prop:=∃ds:List Addr,H p=some (.lst (ds.map V.ref))/\Paired (Zqb H) ds rs
def JP(l:Tb)(D:Int)(kd:Lf):Bool:=decide ((lk l kd.1).map (· +kd.2)=some D)
def Zbd(l:Tb)(D:Int)(ls:List Lf):List Lf:=ls.filter (JP l D)
def kindOf:Rw->Str
 | .put _ _ _=>"put"
 | .deed _ k _=>k
 |_=>""
structure Zhw (rs:List Sr) (ws:List Rw) (rec:Str) (day:Int) (H:Hp) (v:V):Prop where
 no:YM (ZR ws day) rec=false->v=.non
 yes:YM (ZR ws day) rec=true->∃(y:Za3) (r0:Sr) (t:Tr),Top (Yd (ZR ws day) rec) y/\Zdx rs.reverse (some y.2)=some r0/\r0.tm=some t/\(t.due (Yg (ZR ws day) rec)=none->v=.non)/\
  ∀D,t.due (Yg (ZR ws day) rec)=some D->∃(a:Addr) (k:Str) (d n:Int),v=.ref a/\H a=some (.tup [.str k,.int d,.int n])/\lk (Yg (ZR ws day) rec) k=some d/\(k,n)∈Zbd (Yg (ZR ws day) rec) D t.lvs/\∀z∈Zbd (Yg (ZR ws day) rec) D t.lvs,Zgt z (k,n)=false
def ZfQ(cn ca cl ce:Addr):Sp:=fun vs H Q _=>∃(p q:Addr) (rs:List Sr) (ws:List Rw) (rec:Str) (day:Int),vs=[.ref p,.ref q,.str rec,.int day]/\Zff cn ca cl ce H p rs/\JD [] rs/\rs.length<=63/\YG H q ws/\ZcY rs ws/\
 ∀v H',Zx H H'->Zhw rs ws rec day H' v->Q v H'
structure Yc (ws us:List Rw):Prop where
 mem:∀w,w∈ws↔w∈us
 held:(ws.filter Xn).Perm (us.filter Xn)
def Zca:Sp:=fun vs H Q _=>∃(p:Addr) (ws:List Rw) (b:Int),vs=[.ref p,.int b]/\YG H p ws/\ws.length<=1000/\∀q us H',H q=none->Zx H H'->YG H' q us->us.Perm ws->Q (.ref q) H'
def ZdC:Sp:=fun vs H Q _=>∃(a:Addr) (ns:List Int) (far:Int),vs=[.ref a,.int far]/\H a=some (.lst (ns.map V.int))/\ns.length<=63/\∀L (xs:List Int) H',H L=none->Zx H H'->H' L=some (.lst (xs.map V.int))->xs.length=ns.length->xs.Pairwise (· <= ·)->Q (.ref L) H'
def ZaI(r:Str):Rw->Bool
 | .put x _ _=>decide (x=r)
 | .move x _ _=>decide (x=r)
 | .deed x _ _=>decide (x=r)
 |_=>false
def YH(ws:List Rw)(r:Str):List Rw:=ws.filter (ZaI r)
def fH(b t o h r k w:Addr):List (Str×V):=ZL "words" (.ref w) (ZL "taken" (.ref k) (ZL "run_days" (.ref r) (ZL "holdings" (.ref h) (ZL "own" (.ref o) (ZL "told" (.ref t) (ZL "book" (.ref b) []))))))
def JH:Rw->Bool
 | .hold _ _ _ _=>true
 | .lift _ _=>true
 |_=>false
structure ZoN (H:Hp) (os:List (Str×Addr)) (ws:List Rw):Prop where
 one:(os.map (·.1)).Nodup
 mem:∀r,r∈os.map (·.1)↔YH ws r≠[]
 at_:∀x∈os,YG H x.2 (YH ws x.1)
abbrev Gn:=Str×Int×Int
def okv(os:List (Str×Addr)):List (Key×V):=os.map fun x=>(Sum.inr x.1,V.ref x.2)
def ZfR(H:Hp)(g:Gn)(x:Key×V):Prop:=∃p,x=(Sum.inr g.1,.ref p)/\H p=some (.tup [.int g.2.1,.int g.2.2])
def wkv(wd:List (Str×Str)):List (Key×V):=wd.map fun x=>(Sum.inr x.1,V.str x.2)
structure Hs where
 rs:List Sr
 ws:List Rw
 runs:List Int
 gs:List Gn
 wd:List (Str×Str)
inductive ZQ (cn ca cl ce C:Addr) (H:Hp) (a:Addr) (s:Hs) (F:List Addr):Prop
 |mk (dx b t o h r k w:Addr) (os:List (Str×Addr)) (kvs:List (Key×V)) (_:H a=some (.ins C dx (fH b t o h r k w))) (_:Zff cn ca cl ce H b s.rs) (_:YG H t s.ws) (_:H o=some (.dK (okv os))) (_:ZoN H os s.ws) (_:YG H h (s.ws.filter JH)) (_:H r=some (.lst (s.runs.map V.int))) (_:H k=some (.dK kvs)) (_:Paired (ZfR H) s.gs kvs) (_:H w=some (.dK (wkv s.wd))) (_:F=t::o::h::r::k::w::os.map (·.2)) (_:F.Nodup) (_:b∉F):ZQ cn ca cl ce C H a s F
def Zcb(C:Addr):Sp:=fun vs H Q _=>∃(x dx p:Addr) (ds:List V),vs=[.ref x,.ref p]/\H x=some (.ins C dx [])/\H p=some (.lst ds)/\
 ∀b t o h r k w H',[b,t,o,h,r,k,w].Nodup->(∀c∈[b,t,o,h,r,k,w],H c=none)->(∀c u,c≠x->H c=some u->H' c=some u)->H' x=some (.ins C dx (fH b t o h r k w))->
  H' b=some (.lst ds)->H' t=some (.lst [])->H' o=some (.dK [])->H' h=some (.lst [])->H' r=some (.lst [])->H' k=some (.dK [])->H' w=some (.dK [])->Q .non H'
def ZgN(cn ca cl ce:Addr)(n:Nat)(C:Addr):Sp:=fun vs H Q _=>∃(a:Addr) (s:Hs) (F:List Addr),vs=[.ref a]/\0<n/\ZQ cn ca cl ce C H a s F/\∀L H',H L=none->Zx H H'->YG H' L s.ws->Q (.ref L) H'
def ZgO(cn ca cl ce:Addr)(n:Nat)(C:Addr):Sp:=fun vs H Q _=>∃(a:Addr) (s:Hs) (F:List Addr),vs=[.ref a]/\0<n/\ZQ cn ca cl ce C H a s F/\∀L kvs H',H L=none->Zx H H'->H' L=some (.dK kvs)->Paired (ZfR H') s.gs kvs->Q (.ref L) H'
theorem Zni{cn ca cl ce C:Addr}:∀vs H Q E,¬ZgN cn ca cl ce 0 C vs H Q E:=fun _ _ _ _ ⟨_,_,_,_,z,_⟩=>Nat.lt_irrefl 0 z
theorem Znj{cn ca cl ce C:Addr}:∀vs H Q E,¬ZgO cn ca cl ce 0 C vs H Q E:=fun _ _ _ _ ⟨_,_,_,_,z,_⟩=>Nat.lt_irrefl 0 z
def Zgv(F:List Addr)(H H':Hp):Prop:=∀b u,b∉F->H b=some u->H' b=some u
def XS(h:Str):Rw->Bool
 | .hold x _ _ _=>decide (x=h)
 |_=>false
def Zey:Sp:=fun vs H Q _=>∃(p:Addr) (ws:List Rw) (h:Str),vs=[.ref p,.str h]/\YG H p ws/\ws.length<=1000/\∀H',Zx H H'->Q (.bl (ws.any (XS h))) H'
def Zaa:Rw->List Str
 | .put _ s _=>[s]
 | .move _ s _=>[s]
 | .hold _ false n _=>[n]
 |_=>[]
def ZaX:Sp:=fun vs H Q _=>∃(a:Addr) (w:Rw),vs=[.ref a]/\ZbP H a w/\∀L H',H L=none->Zx H H'->H' L=some (.lst ((Zaa w).map V.str))->Q (.ref L) H'
def Zhx(a b:Rw):Prop:=(b.word=Str.ofString "put"\/b.word=Str.ofString "hold")/\a.word=b.word/\a.one=b.one
structure Ym (rs:List Sr) (i:Nat) (ns:List Str) (ws:List Rw):Prop where
 len:ws.length<=100+i
 held:(ws.filter Xn).length<=i
 named:∀w∈ws,∀n∈Zaa w,n∈rs.map Sr.nm
 one:ws.Pairwise fun a b=>¬Zhx a b
 nl:ns.length<=i
 few:∀w∈ws,JH w=false->w.one∈ns
def Zcc:Sp:=fun vs H Q _=>∃(c b far:Int) (p:Addr) (rs:List Sr),vs=[.int c,.int b,.int far,.ref p]/\NBk H p rs/\1<=rs.length/\rs.length<=8/\∀(w:Rw) d H',Zx H H'->ZbP H' d w->(∀n∈Zaa w,n∈rs.map Sr.nm)->Q (.ref d) H'
def ZbC:Sp:=fun vs H Q _=>∃(a:Addr) (ns:List Int) (b far:Int) (p:Addr) (rs:List Sr),vs=[.ref a,.int b,.int far,.ref p]/\H a=some (.lst (ns.map V.int))/\ns.length<=63/\NBk H p rs/\1<=rs.length/\rs.length<=8/\∀(ws:List Rw) (xs:List Str) q H',H q=none->Zx H H'->YG H' q ws->Ym rs ns.length xs ws->Q (.ref q) H'
section
variable {P:Program} {w:World} {K:PySem.W.Frag} {mg:Str->Option Value} {base:Heap} {Zg:Addr} {Zd:Addr} {Ze:Addr} {Zb:Addr} {Zk:Addr}
theorem kd:¬(("kind":Str)="days"):=by decide+kernel
theorem oo:¬(("one":Str)="other"):=by decide+kernel
theorem ZjE(k:Str)(d:Int):(fA k d).lookup ("kind":Str)=some (.str k):=by
 unfold fA;rw[Zq,if_neg kd,Zq,if_pos rfl]
theorem Zms(k:Str)(d:Int):(fA k d).lookup ("days":Str)=some (.int d):=by
 unfold fA;rw[Zq,if_pos rfl]
theorem ZjF(p q:Addr):(fP p q).lookup ("one":Str)=some (.ref p):=by
 unfold fP;rw[Zq,if_neg oo,Zq,if_pos rfl]
theorem Zfg(p q:Addr):(fP p q).lookup ("other":Str)=some (.ref q):=by
 unfold fP;rw[Zq,if_pos rfl]
theorem Zsh(k:Str)(d:Int){m:Str}(h1:¬m="days")(h2:¬m="kind"):(fA k d).lookup m=none:=by
 unfold fA;rw[Zq,if_neg h1,Zq,if_neg h2]
 rfl
theorem ZqD(p q:Addr){m:Str}(h1:¬m="other")(h2:¬m="one"):(fP p q).lookup m=none:=by
 unfold fP;rw[Zq,if_neg h1,Zq,if_neg h2]
 rfl
theorem Xa.same{cn ca cl ce:Addr}{H H':Hp}(s:Zx H H'):∀{t:Tr} {a:Addr},Xa cn ca cl ce H t a->Xa cn ca cl ce H' t a
 | .never,a,⟨dx,h⟩=>⟨dx,s _ _ h⟩
 | .after k d,a,⟨dx,h⟩=>⟨dx,s _ _ h⟩
 | .later x y,a,⟨dx,p,q,h,h1,h2⟩=>⟨dx,p,q,s _ _ h,h1.same s,h2.same s⟩
 | .earlier x y,a,⟨dx,p,q,h,h1,h2⟩=>⟨dx,p,q,s _ _ h,h1.same s,h2.same s⟩
theorem Tr.deep_cnt:∀t:Tr,t.deep<t.cnt
 | .never=>Nat.zero_lt_one
 | .after _ _=>Nat.zero_lt_one
 | .later x y=>by
  have h1:=x.deep_cnt;have h2:=y.deep_cnt;simp only [Tr.deep,Tr.cnt];omega
 | .earlier x y=>by
  have h1:=x.deep_cnt;have h2:=y.deep_cnt;simp only [Tr.deep,Tr.cnt];omega
theorem Tr.lvs_cnt:∀t:Tr,t.lvs.length<=t.cnt
 | .never=>Nat.zero_le _
 | .after _ _=>Nat.le_refl _
 | .later x y=>by
  have h1:=x.lvs_cnt;have h2:=y.lvs_cnt;simp only [Tr.lvs,Tr.cnt,List.length_append];omega
 | .earlier x y=>by
  have h1:=x.lvs_cnt;have h2:=y.lvs_cnt;simp only [Tr.lvs,Tr.cnt,List.length_append];omega
theorem Zcw{cn ca cl ce:Addr}{H:Hp}{a:Addr}:∀{t:Tr},Xa cn ca cl ce H t a->∃dx fs,H a=some (.ins (Zgi cn ca cl ce t) dx fs)/\∀m:Str,¬m="days"->¬m="kind"->¬m="other"->¬m="one"->fs.lookup m=none
 | .never,⟨dx,h⟩=>⟨dx,_,h,fun _ _ _ _ _=>rfl⟩
 | .after k d,⟨dx,h⟩=>⟨dx,_,h,fun _ h1 h2 _ _=>Zsh k d h1 h2⟩
 | .later x y,⟨dx,p,q,h,_⟩=>⟨dx,_,h,fun _ _ _ h1 h2=>ZqD p q h1 h2⟩
 | .earlier x y,⟨dx,p,q,h,_⟩=>⟨dx,_,h,fun _ _ _ h1 h2=>ZqD p q h1 h2⟩
theorem Zez{cn ca cl ce:Addr}:∀t:Tr,(Zgi cn ca cl ce t=cn\/Zgi cn ca cl ce t=ca\/Zgi cn ca cl ce t=cl\/Zgi cn ca cl ce t=ce)
 | .never=> .inl rfl
 | .after _ _=> .inr (.inl rfl)
 | .later _ _=> .inr (.inr (.inl rfl))
 | .earlier _ _=> .inr (.inr (.inr rfl))
theorem Zmt{H H2:Hp}{b:Addr}{l:Tb}(s:Zx H H2)(h:Rd H b (.dK (kk l))):Rd H2 b (.dK (kk l)):=by
 rcases h with h|⟨o,h⟩
 ·exact .inl (s _ _ h)
 ·exact .inr ⟨o,s _ _ h⟩
theorem Zhy{H:Hp}{b:Addr}{l:Tb}(h:Rd H b (.dK (kk l)))(k:Str):Zgr H b (.str k) ((lk l k).map V.int):=by
 rw[<-ZpQ];exact .inl ⟨_,Sum.inr k,h,rfl,rfl⟩
theorem Zhz{o:Option Int}:(o.map V.int).isSome=o.isSome:=by cases o<;>rfl
theorem Zii:ZC ["self","kind","days"] ["self","kind","days"] (Zu ZcR):=⟨rfl,rfl,rfl,by decide+kernel,rfl,by decide+kernel,by decide+kernel⟩
theorem Zij{f:Addr}{fd:FuncData}(F:Fun K "__init__" "After.__init__" ZcR f fd)(T:Txt K mg Zg Zd Ze Zb Zk){C:Addr}(cl:Cls K C)(n_kind:YD K C "kind")(n_days:YD K C "days"):Yr P w K mg base CX0 1 f fd ["self","kind","days"] (Zc7 C):=by
 refine F.ok Zii (fun vs H Q E h=> ?_) (fun cdv A outer s H vs Q E hr h=> ?_)
 ·obtain⟨x,dx,k,d,rfl,_⟩:=h
  rfl
 ·obtain⟨x,dx,k,d,rfl,hx,q⟩:=h;refine⟨_,(Zi (Zbo (pv 0) (pv 1) rfl) (Zo (Zbo (pv 0) (pv 2) rfl))), ?_⟩;refine⟨_,rfl,_,rfl,x,C,dx,_,rfl,hx,cl,n_kind,(by show 0<1000;decide),_,rfl,_,rfl,x,C,dx,_,rfl,Zc,cl,n_days,(by show 1<1000;decide), ?_⟩
  rw[ZeT];exact q
theorem ZjG:ZC ["self","one","other"] ["self","one","other"] (Zu ZbS):=⟨rfl,rfl,rfl,by decide+kernel,rfl,by decide+kernel,by decide+kernel⟩
theorem Zfh{f:Addr}{fd:FuncData}(F:Fun K "__init__" "Pair.__init__" ZbS f fd)(T:Txt K mg Zg Zd Ze Zb Zk){C:Addr}(cl:Cls K C)(n_one:YD K C "one")(n_other:YD K C "other"):Yr P w K mg base CX0 1 f fd ["self","one","other"] (Za8 C):=by
 refine F.ok ZjG (fun vs H Q E h=> ?_) (fun cdv A outer s H vs Q E hr h=> ?_)
 ·obtain⟨x,dx,p,q,rfl,_⟩:=h
  rfl
 ·obtain⟨x,dx,p,q,rfl,hx,k⟩:=h;refine⟨_,(Zi (Zbo (pv 0) (pv 1) rfl) (Zo (Zbo (pv 0) (pv 2) rfl))), ?_⟩;refine⟨_,rfl,_,rfl,x,C,dx,_,rfl,hx,cl,n_one,(by show 0<1000;decide),_,rfl,_,rfl,x,C,dx,_,rfl,Zc,cl,n_other,(by show 1<1000;decide), ?_⟩
  rw[ZeT];exact k
theorem ZaJ{H:Hp}{x dx:Addr}{o:HO}(h1:H x=none)(h2:H dx=none):Zx H (upd (upd H dx (.own x)) x o):=fun b u e=>by
 rw[Zm (Zf e h1),Zm (Zf e h2)];exact e
theorem ZoO:ZC [] [] (Zu Zjy):=⟨rfl,rfl,rfl,by decide+kernel,rfl,by decide+kernel,by decide+kernel⟩
theorem ZoP{f:Addr}{fd:FuncData}(F:Fun K "never" "never" Zjy f fd)(T:Txt K mg Zg Zd Ze Zb Zk)(ZjH:Zrd K mg "Never" Zg):Yr P w K mg base CX0 1 f fd [] (Zht Zg Zd Ze Zb):=by
 refine F.ok ZoO (fun vs H Q E h=> ?_) (fun cdv A outer s H vs Q E hr h=> ?_)
 ·obtain⟨rfl,_⟩:=h
  rfl
 ·obtain⟨rfl,q⟩:=h;refine⟨_,(Zo (Zw (ZpR ZjH rfl))), ?_⟩;exact fun x dx h1 h2 _=>q x _ (ZaJ h1 h2) h1 ⟨dx,Zc⟩
theorem ZoQ:ZC ["kind","days"] ["kind","days"] (Zu Zjz):=⟨rfl,rfl,rfl,by decide+kernel,rfl,by decide+kernel,by decide+kernel⟩
theorem ZoR{f:Addr}{fd:FuncData}(F:Fun K "after" "after" Zjz f fd)(T:Txt K mg Zg Zd Ze Zb Zk)(ZjI:Zju P w K mg base CX0 1 "After" Zd ["self","kind","days"] (Zc7 Zd)):Yr P w K mg base CX0 3 f fd ["kind","days"] (Zhu Zg Zd Ze Zb):=by
 refine F.ok ZoQ (fun vs H Q E h=> ?_) (fun cdv A outer s H vs Q E hr h=> ?_)
 ·obtain⟨k,d,rfl,_⟩:=h
  rfl
 ·obtain⟨k,d,rfl,q⟩:=h;refine⟨_,(Zo (Zw (Zhh ZjI (hr.mono (by omega)) rfl ZD (Za (pv 0) (Za (pv 1) Zj))))), ?_⟩;refine⟨_,rfl,_,rfl,fun x dx h1 h2 _=>⟨x,dx,k,d,rfl,Zc,rfl, ?_⟩⟩;rw[ZeT];exact q x _ (ZaJ h1 h2) h1 ⟨dx,Zc⟩
theorem ZoS:ZC ["one","other"] ["one","other"] (Zu ZjA):=⟨rfl,rfl,rfl,by decide+kernel,rfl,by decide+kernel,by decide+kernel⟩
theorem ZoT{f:Addr}{fd:FuncData}(F:Fun K "later" "later" ZjA f fd)(T:Txt K mg Zg Zd Ze Zb Zk)(ZjJ:Zju P w K mg base CX0 1 "Later" Ze ["self","one","other"] (Za8 Ze)):Yr P w K mg base CX0 3 f fd ["one","other"] (Zhv Zg Zd Ze Zb):=by
 refine F.ok ZoS (fun vs H Q E h=> ?_) (fun cdv A outer s H vs Q E hr h=> ?_)
 ·obtain⟨p,q,x,y,rfl,_⟩:=h
  rfl
 ·obtain⟨p,q,x,y,rfl,t1,t2,k⟩:=h;refine⟨_,(Zo (Zw (Zhh ZjJ (hr.mono (by omega)) rfl ZD (Za (pv 0) (Za (pv 1) Zj))))), ?_⟩;refine⟨_,rfl,_,rfl,fun a dx h1 h2 _=>⟨a,dx,p,q,rfl,Zc,rfl, ?_⟩⟩;rw[ZeT];exact k a _ (ZaJ h1 h2) h1 ⟨dx,p,q,Zc,t1.same (ZaJ h1 h2),t2.same (ZaJ h1 h2)⟩
theorem ZlR:ZC ["one","other"] ["one","other"] (Zu ZfK):=⟨rfl,rfl,rfl,by decide+kernel,rfl,by decide+kernel,by decide+kernel⟩
theorem ZlS{f:Addr}{fd:FuncData}(F:Fun K "earlier" "earlier" ZfK f fd)(T:Txt K mg Zg Zd Ze Zb Zk)(ZfS:Zju P w K mg base CX0 1 "Earlier" Zb ["self","one","other"] (Za8 Zb)):Yr P w K mg base CX0 3 f fd ["one","other"] (Zew Zg Zd Ze Zb):=by
 refine F.ok ZlR (fun vs H Q E h=> ?_) (fun cdv A outer s H vs Q E hr h=> ?_)
 ·obtain⟨p,q,x,y,rfl,_⟩:=h
  rfl
 ·obtain⟨p,q,x,y,rfl,t1,t2,k⟩:=h;refine⟨_,(Zo (Zw (Zhh ZfS (hr.mono (by omega)) rfl ZD (Za (pv 0) (Za (pv 1) Zj))))), ?_⟩;refine⟨_,rfl,_,rfl,fun a dx h1 h2 _=>⟨a,dx,p,q,rfl,Zc,rfl, ?_⟩⟩;rw[ZeT];exact k a _ (ZaJ h1 h2) h1 ⟨dx,p,q,Zc,t1.same (ZaJ h1 h2),t2.same (ZaJ h1 h2)⟩
theorem Zmu(m:Str)(h:m="due"\/m="leaves"\/m="shown"):¬m="days"/\¬m="kind"/\¬m="other"/\¬m="one":=by
 rcases h with rfl|rfl|rfl<;>decide+kernel
theorem Xa.keep{cn ca cl ce:Addr}{H H':Hp}(s:∀b C dx fs,H b=some (.ins C dx fs)->H' b=some (.ins C dx fs)):∀{t:Tr} {a:Addr},Xa cn ca cl ce H t a->Xa cn ca cl ce H' t a
 | .never,a,⟨dx,h⟩=>⟨dx,s _ _ _ _ h⟩
 | .after k d,a,⟨dx,h⟩=>⟨dx,s _ _ _ _ h⟩
 | .later x y,a,⟨dx,p,q,h,h1,h2⟩=>⟨dx,p,q,s _ _ _ _ h,h1.keep s,h2.keep s⟩
 | .earlier x y,a,⟨dx,p,q,h,h1,h2⟩=>⟨dx,p,q,s _ _ _ _ h,h1.keep s,h2.keep s⟩
theorem Yq{α β:Type}{R:α->β->Prop}:∀{as:List α} {bs:List β},Paired R as bs->∀(i:Nat) (a:α),as[i]? =some a->∃b,bs[i]? =some b/\R a b
 |_,_,.nil,i,a,h=>by simp at h
 |_,_,.cons (a:=x) r t,0,a,h=>by
  have h:x=a:=by simpa using h
  subst h;exact⟨_,rfl,r⟩
 |_,_,.cons r t,i+1,a,h=>by
  obtain⟨b,e,z⟩:=Yq t i a (by simpa using h);exact⟨b,by simpa using e,z⟩
theorem Xq{ds:List Addr}{i:Nat}{y:V}(h:(ds.map V.ref)[i]? =some y):∃d,y=.ref d/\ds[i]? =some d:=by
 rw[List.getElem?_map] at h
 cases e:ds[i]? with
 |none=>rw[e] at h;cases h
 |some d=>rw[e] at h;exact⟨d,(Option.some.inj h).symm,rfl⟩
theorem Zsi{c A B:Prop} [Decidable c](hc:¬c)(h:A):if(!decide c)=true then A else B:=by
 rw[decide_eq_false hc];exact Zbb h
theorem Ze8:∀{ns:List Str} {rs:List Sr},JD ns rs->∀r∈rs,r.good
 |_,[],_,r,h=>nomatch h
 |_,x::rs,⟨g,_,_,k⟩,r,h=>by
  obtain rfl|h:=List.mem_cons.mp h
  ·exact g
  ·exact Ze8 k r h
theorem Zct.keep{cn ca cl ce:Addr}{H H':Hp}(s1:∀b xs,H b=some (.tup xs)->H' b=some (.tup xs))(s2:∀b C dx fs,H b=some (.ins C dx fs)->H' b=some (.ins C dx fs)){d:Addr}{r:Sr}:Zct cn ca cl ce H d r->Zct cn ca cl ce H' d r
 |⟨v,h,t⟩=>by
  refine⟨v,s1 _ _ h, ?_⟩
  revert t
  cases r.tm with
  |none=>exact fun t=>t
  |some x=>exact fun⟨a,e,t⟩=>⟨a,e,t.keep s2⟩
theorem Ze9{cn ca cl ce:Addr}{H H':Hp}(s1:∀b xs,H b=some (.tup xs)->H' b=some (.tup xs))(s2:∀b C dx fs,H b=some (.ins C dx fs)->H' b=some (.ins C dx fs)):∀{ds:List Addr} {rs:List Sr},Paired (Zct cn ca cl ce H) ds rs->Paired (Zct cn ca cl ce H') ds rs
 |_,_,.nil=> .nil
 |_,_,.cons h t=> .cons (h.keep s1 s2) (Ze9 s1 s2 t)
theorem Zbj{cn ca cl ce:Addr}{H H':Hp}(s:Zx H H'):∀{ds:List Addr} {rs:List Sr},Paired (Zct cn ca cl ce H) ds rs->Paired (Zct cn ca cl ce H') ds rs:=Ze9 (fun b xs h=>s b _ h) fun b C dx fs h=>s b _ h
theorem ZhA:∀(rr:List Sr) (w:Option Str),(Zbz rr w).length<=rr.length
 |[],_=>Nat.le_refl _
 |r::rr,w=>by
  show(if some r.nm=w then _ else _:List Str).length<=_;have h1:=ZhA rr r.el;have h2:=ZhA rr w
  split
  ·rw[List.length_cons,List.length_cons];omega
  ·rw[List.length_cons];omega
def ZoU(rs:List Sr)(n:Str):Bool:=rs.any fun r=>decide (r.nm=n)&&r.tm.isSome
theorem ZhB(P:Str->Bool):∀(rr:List Sr) (w:Option Str),BkR rr->(∀r∈rr,P r.nm=r.tm.isSome)->(∀n,w=some n->n∈rr.map Sr.nm)->w≠none->∃r∈rr,Zdx rr w=some r/\r.tm.isSome=true/\((Zbz rr w).filter P)[0]? =some r.nm
 |[],some n,_,_,h,_=>nomatch h n rfl
 |[],none,_,_,_,h=>absurd rfl h
 |r::rr,w,⟨g,nn,ne,b⟩,hP,h,hw=>by
  have hP2:∀x∈rr,P x.nm=x.tm.isSome:=fun x hx=>hP x (List.mem_cons_of_mem _ hx);have hr:=hP r (List.mem_cons_self ..);show∃x∈r::rr,(if some r.nm=w then(if r.tm.isSome=true then some r else Zdx rr r.el) else Zdx rr w)=some x/\_/\(List.filter P (if some r.nm=w then r.nm::Zbz rr r.el else Zbz rr w))[0]? =_
  by_cases e:some r.nm=w
  ·rw[if_pos e,if_pos e]
   by_cases t:r.tm.isSome=true
   ·rw[if_pos t,List.filter_cons_of_pos (by rw[hr];exact t)]
    exact⟨r,List.mem_cons_self ..,rfl,t,rfl⟩
   ·rw[if_neg t,List.filter_cons_of_neg (by rw[hr];exact t)]
    have el:r.el≠none:=fun z=>by
     have:=g.some z;cases q:r.tm with
     |none=>exact this q
     |some x=>rw[q] at t;exact t rfl
    obtain⟨x,hx,q⟩:=ZhB P rr r.el b hP2 ne el;exact⟨x,List.mem_cons_of_mem _ hx,q⟩
  ·rw[if_neg e,if_neg e];obtain⟨x,hx,q⟩:=ZhB P rr w b hP2 (fun n hn=>by
    rcases List.mem_cons.mp (h n hn) with z|z
    ·exact absurd (by rw[hn,z]) e
    ·exact z) hw
   exact⟨x,List.mem_cons_of_mem _ hx,q⟩
theorem ZoV:∀(rs acc:List Sr),BkR acc->JD (acc.reverse.map Sr.nm) rs->BkR (rs.reverse++acc)
 |[],acc,h,_=>h
 |r::rs,acc,h,⟨g,n,e,k⟩=>by
  rw[List.reverse_cons,List.append_assoc];refine ZoV rs (r::acc) ⟨g,fun z=>n ?_,fun x hx=> ?_,h⟩ (by rw[List.reverse_cons,List.map_append];exact k)
  ·rw[List.map_reverse,List.mem_reverse];exact z
  ·have:=e x hx;rw[List.map_reverse,List.mem_reverse] at this
   exact this
theorem ZgP{rs:List Sr}(h:JD [] rs):BkR rs.reverse:=by
 have:=ZoV rs [] trivial h
 rwa [List.append_nil] at this
theorem ZiS:∀{rr:List Sr},BkR rr->(rr.map Sr.nm).Nodup
 |[],_=>List.nodup_nil
 |r::rr,⟨_,n,_,b⟩=>by rw[List.map_cons];exact List.nodup_cons.mpr ⟨n,ZiS b⟩
theorem ZhC{rs:List Sr}(h:JD [] rs):(rs.map Sr.nm).Nodup:=by
 have:=ZiS (ZgP h);rw[List.map_reverse] at this
 exact(List.reverse_perm _).nodup_iff.mp this
theorem Zmv:∀{rs:List Sr} {r s:Sr},(rs.map Sr.nm).Nodup->r∈rs->s∈rs->r.nm=s.nm->r=s
 |x::rs,r,s,nd,hr,hs,e=>by
  rw[List.map_cons] at nd
  obtain⟨off,rest⟩:=List.nodup_cons.mp nd;rcases List.mem_cons.mp hr with h1|h1<;>rcases List.mem_cons.mp hs with h2|h2
  ·rw[h1,h2]
  ·exact absurd (List.mem_map.mpr ⟨s,h2,by rw[<-e,h1]⟩) off
  ·exact absurd (List.mem_map.mpr ⟨r,h1,by rw[e,h2]⟩) off
  ·exact Zmv rest h1 h2 e
theorem ZjK{rs:List Sr}(nd:(rs.map Sr.nm).Nodup){r:Sr}(hr:r∈rs):ZoU rs r.nm=r.tm.isSome:=by
 unfold ZoU
 apply Bool.eq_iff_iff.mpr
 rw[List.any_eq_true]
 constructor
 ·rintro⟨x,hx,e⟩;rw[Bool.and_eq_true] at e
  rw[<-Zmv nd hx hr (of_decide_eq_true e.1)];exact e.2
 ·exact fun h=>⟨r,hr,by rw[h,decide_eq_true rfl];rfl⟩
theorem ZoW{α:Type}{xs:List α}{i:Nat}{x:α}(h:xs[xs.length-1-i]? =some x)(hi:i<xs.length):xs.reverse.drop i=x::xs.reverse.drop (i+1):=by
 have e:xs.reverse[i]? =some x:=by rw[List.getElem?_reverse hi];exact h
 obtain⟨lt,e⟩:=List.getElem?_eq_some_iff.mp e;rw[List.drop_eq_getElem_cons lt,e]
theorem ZgQ(z:Str)(w:Option Str):Zpy (.str z) (oS w)=true:=by cases w<;>rfl
theorem ZiT{z:Str}{w:Option Str}:V.str z=oS w↔some z=w:=by
 cases w with
 |none=>exact⟨(fun h=>nomatch h),(fun h=>nomatch h)⟩
 |some y=>exact⟨fun h=>by injection h with h;rw[h],fun h=>by injection h with h;rw[h];rfl⟩
theorem ZbD:ZC ["book","name","line","wanted","series"] ["book","name"] (Zu ZfL):=⟨rfl,rfl,rfl,by decide+kernel,rfl,by decide+kernel,by decide+kernel⟩
theorem ZlT{f:Addr}{fd:FuncData}(F:Fun K "line_of" "line_of" ZfL f fd)(T:Txt K mg Zg Zd Ze Zb Zk):Yr P w K mg base CX0 1 f fd ["book","name"] (Zex Zg Zd Ze Zb):=by
 refine F.ok ZbD (fun vs H Q E h=> ?_) (fun cdv A outer s H vs Q E hr h=> ?_)
 ·obtain⟨p,n,rs,rfl,_⟩:=h
  rfl
 ·obtain⟨p,n,rs,rfl,⟨ds,hp,pr⟩,lr,q⟩:=h;have l5:=Xl;have le:=Paired.length pr;refine⟨_,(Zi (Zv (i:=2) ZbD.nd rfl (Or.inl rfl) (Yl Zj)) (Zi (Zv (i:=3) ZbD.nd rfl (Or.inl rfl) (pv 1)) (Zi (XQ PassesOwn.never rfl (ZoD (K:=K) rfl (by rfl) T.z_reversed (pv 0)) (ZK (i:=4) ZbD.nd rfl (Or.inl rfl)) (Zo (Ye (Zt Yo (Zz ZJ (pv 4) Zh (fun _ _=>rfl)) (pv 3) (Zy _)) (Zi (Xf (ZaC PySem.F.plainAttrs_list PySem.F.slot_list_append PySem.F.type_list_append Yz (pv 2) (Za (pv 3) Zj))) (Zo (Zv (i:=3) ZbD.nd rfl (Or.inl rfl) (Zz ZJ (pv 4) Zh (fun _ _=>rfl))))) ZF))) (Zo (Zw (pv 2)))))), ?_⟩
  refine⟨Nat.zero_le _,fun L hL=> ?_⟩;have nLp:p≠L:=Zf hp hL;have s1:Zx H (upd H L (.lst [])):=Zn hL;refine⟨_,rfl,_,rfl,p,_,rfl,SqL.of (s1 _ _ hp),Zoc (J:=Itv K p (ds.map V.ref)) (n:=ds.length) (fun i σ H'=>∃(v4:Option V) (l:List Str) (w:Option Str),σ=[some (.ref p),some (.str n),some (.ref L),some (oS w),v4]/\H' L=some (.lst (l.map V.str))/\(∀b u,b≠L->H b=some u->H' b=some u)/\l++Zbz (rs.reverse.drop i) w=Zbz rs.reverse (some n)/\l.length<=i) ?_ ?_ ?_ ?_⟩
  ·exact⟨none,[],some n,rfl,Zc,fun b u nb e=>by rw[Zm nb];exact e,rfl,Nat.le_refl _⟩
  ·rintro i σ H1 hi ⟨v4,l,w,rfl,hl,fr,eq,ll⟩;exact⟨SqL.of (fr p _ nLp hp),by rw[List.length_map];exact hi⟩
  ·rintro σ H1 ⟨v4,l,w,rfl,hl,fr,eq,ll⟩;rw[List.drop_of_length_le (by rw[List.length_reverse];omega)] at eq
   have eq:l=Zbz rs.reverse (some n):=by simpa [Zbz] using eq
   refine⟨⟨SqL.of (fr p _ nLp hp),by rw[List.length_map]⟩, ?_⟩;exact⟨_,rfl,q L H1 hL (fun b u e=>fr b u (Zf e hL) e) (by rw[<-eq];exact hl)⟩
  ·rintro i x σ H2 H1 hi ⟨v4,l,w,rfl,hl,fr,eq,ll⟩ ⟨rfl,hx⟩;rw[List.length_map] at hx
   obtain⟨d,rfl,ed⟩:=Xq hx;have s1:Zx H H1:=fun b u e=>fr b u (Zf e hL) e;obtain⟨r,er,⟨v,sd,st⟩⟩:=Yq (Zbj s1 pr) _ d ed;rw[le] at er
   rw[ZoW er (by omega)] at eq
   have eq2:l++(if some r.nm=w then r.nm::Zbz (rs.reverse.drop (i+1)) r.el else Zbz (rs.reverse.drop (i+1)) w)=_:=eq;clear eq;refine(ixT rfl (SqT.of sd) rfl ⟨_,rfl,ZgQ _ _,_,rfl,YZ (fun e=> ?_) (fun e=> ?_)⟩)
   ·have e:=ZiT.mp (of_decide_eq_true e);rw[if_pos e] at eq2
    subst e;have l6:(l.map V.str).length<sizeLine:=by rw[List.length_map];omega
    refine⟨_,rfl,.inl ⟨rfl,_,SqL.of hl⟩,_,rfl,L,_,_,rfl,rfl,hl,l6, ?_⟩;have ndL:d≠L:=Yi sd hl (fun z=>nomatch z);refine(ixT rfl (SqT.of (by rw[Zm ndL];exact sd)) rfl ?_)
    exact⟨_,l++[r.nm],r.el,rfl,by rw[Zc,List.map_append];rfl,fun b u nb z=>by rw[Zm nb];exact fr b u nb z,by rw[List.append_assoc];exact eq2,by rw[List.length_append];exact Nat.add_le_add_right ll 1⟩
   ·have e:¬some r.nm=w:=fun z=>e (decide_eq_true (ZiT.mpr z));rw[if_neg e] at eq2
    exact⟨_,l,w,rfl,hl,fr,eq2,Nat.le_succ_of_le ll⟩
theorem Jz:ZC ["book","name","wanted","series"] ["book","name"] (Zu ZaS):=⟨rfl,rfl,rfl,by decide+kernel,rfl,by decide+kernel,by decide+kernel⟩
theorem ZfT{f:Addr}{fd:FuncData}(F:Fun K "owning_series" "owning_series" ZaS f fd)(T:Txt K mg Zg Zd Ze Zb Zk):Yr P w K mg base CX0 1 f fd ["book","name"] (Jx Zg Zd Ze Zb):=by
 refine F.ok Jz (fun vs H Q E h=> ?_) (fun cdv A outer s H vs Q E hr h=> ?_)
 ·obtain⟨p,n,rs,r0,rfl,_⟩:=h
  rfl
 ·obtain⟨p,n,rs,r0,rfl,⟨ds,hp,pr⟩,lr,ow,q⟩:=h;have le:=Paired.length pr;refine⟨_,(Zi (Zv (i:=2) Jz.nd rfl (Or.inl rfl) (pv 1)) (Zo (XQ PassesOwn.never rfl (ZoD (K:=K) rfl (by rfl) T.z_reversed (pv 0)) (ZK (i:=3) Jz.nd rfl (Or.inl rfl)) (Zi (Ye (PW.pt (Za4 (Zt Yo (Zz ZJ (pv 3) Zh (fun _ _=>rfl)) (pv 2) (Zy _)) (Jl (Zt Zmm (Zz ZJ (pv 3) Zh (fun _ _=>rfl)) XN (Zy _))))) (Zo (Zw (pv 3))) ZF) (Zo (Ye (Zt Yo (Zz ZJ (pv 3) Zh (fun _ _=>rfl)) (pv 2) (Zy _)) (Zo (Zv (i:=2) Jz.nd rfl (Or.inl rfl) (Zz ZJ (pv 3) Zh (fun _ _=>rfl)))) ZF)))))), ?_⟩
  refine⟨_,rfl,_,rfl,p,_,rfl,SqL.of hp,Zoc (J:=Itv K p (ds.map V.ref)) (n:=ds.length) (fun i σ H'=>∃(v3:Option V) (w:Option Str),σ=[some (.ref p),some (.str n),some (oS w),v3]/\H'=H/\Zdx (rs.reverse.drop i) w=some r0) ?_ ?_ ?_ ?_⟩
  ·exact⟨none,some n,rfl,rfl,ow⟩
  ·rintro i σ H1 hi ⟨v3,w,rfl,rfl,eq⟩;exact⟨SqL.of hp,by rw[List.length_map];exact hi⟩
  ·rintro σ H1 ⟨v3,w,rfl,rfl,eq⟩;rw[List.drop_of_length_le (by rw[List.length_reverse];omega)] at eq
   cases eq
  ·rintro i x σ H1 H2 hi ⟨v3,w,rfl,rfl,eq⟩ ⟨rfl,hx⟩;rw[List.length_map] at hx
   obtain⟨d,rfl,ed⟩:=Xq hx;obtain⟨r,er,ser⟩:=Yq pr _ d ed;obtain⟨v,sd,st⟩:=id ser;rw[le] at er
   rw[ZoW er (by omega)] at eq
   have eq:(if some r.nm=w then(if r.tm.isSome=true then some r else Zdx (rs.reverse.drop (i+1)) r.el) else Zdx (rs.reverse.drop (i+1)) w)=some r0:=eq;refine(ixT rfl (SqT.of sd) rfl ⟨_,rfl,ZgQ _ _,_,rfl,YZ (fun e=> ?_) (fun e=> ?_)⟩)
   ·have e':=ZiT.mp (of_decide_eq_true e);rw[if_pos e'] at eq
    cases ht:r.tm with
    |none=>
     rw[ht] at eq st
     obtain rfl:v=.non:=st;refine(ixT rfl (SqT.of sd) rfl ⟨rfl,_,rfl,ZrY rfl ?_⟩);exact(ixT rfl (SqT.of sd) rfl ⟨_,rfl,ZgQ _ _,_,rfl,Zfa (ZiT.mpr e') (ixT rfl (SqT.of sd) rfl ⟨_,r.el,rfl,rfl,eq⟩)⟩)
    |some t=>
     rw[ht,if_pos (show(some t).isSome=true from rfl)] at eq
     rw[ht] at st
     obtain⟨a,rfl,tm⟩:=st;obtain rfl:r=r0:=Option.some.inj eq;exact(ixT rfl (SqT.of sd) rfl ⟨rfl,_,rfl,Zsi (fun z=>nomatch z) ⟨_,rfl,q d _ (Zx.refl _) ser⟩⟩)
   ·have e':¬some r.nm=w:=fun z=>e (decide_eq_true (ZiT.mpr z));rw[if_neg e'] at eq
    exact Xh (ixT rfl (SqT.of sd) rfl ⟨_,rfl,ZgQ _ _,_,rfl,JC (fun z=>e' (ZiT.mp z)) ⟨_,w,rfl,rfl,eq⟩⟩)
theorem ZkE:ZC ["book","name"] ["book","name"] (Zu Zeq):=⟨rfl,rfl,rfl,by decide+kernel,rfl,by decide+kernel,by decide+kernel⟩
theorem ZkF{f:Addr}{fd:FuncData}(F:Fun K "owner_of" "owner_of" Zeq f fd)(T:Txt K mg Zg Zd Ze Zb Zk)(Xx:Cal P w K mg base CX0 1 "owning_series" ["book","name"] (Jx Zg Zd Ze Zb)):Yr P w K mg base CX0 2 f fd ["book","name"] (Zdy Zg Zd Ze Zb):=by
 refine F.ok ZkE (fun vs H Q E h=> ?_) (fun cdv A outer s H vs Q E hr h=> ?_)
 ·obtain⟨p,n,rs,r,rfl,_⟩:=h
  rfl
 ·obtain⟨p,n,rs,r,rfl,bat,lr,ow,q⟩:=h;refine⟨_,(Zo (Zw (Zz ZJ (ZX Xx (hr.mono (by omega)) rfl ZD (Za (pv 0) (Za (pv 1) Zj))) Zh (fun _ _=>rfl)))), ?_⟩;exact⟨_,rfl,_,rfl,p,n,rs,r,rfl,bat,lr,ow,fun d H1 s1 ⟨v,sd,st⟩=>⟨d,_,_,_,rfl,rfl,SqT.of sd,rfl,q H1 s1⟩⟩
theorem ZlU:ZC ["book","name"] ["book","name"] (Zu ZfM):=⟨rfl,rfl,rfl,by decide+kernel,rfl,by decide+kernel,by decide+kernel⟩
theorem ZlV{f:Addr}{fd:FuncData}(F:Fun K "term_of" "term_of" ZfM f fd)(T:Txt K mg Zg Zd Ze Zb Zk)(Xx:Cal P w K mg base CX0 1 "owning_series" ["book","name"] (Jx Zg Zd Ze Zb)):Yr P w K mg base CX0 2 f fd ["book","name"] (ZcW Zg Zd Ze Zb):=by
 refine F.ok ZlU (fun vs H Q E h=> ?_) (fun cdv A outer s H vs Q E hr h=> ?_)
 ·obtain⟨p,n,rs,r,t,rfl,_⟩:=h
  rfl
 ·obtain⟨p,n,rs,r,t,rfl,bat,lr,ow,ht,q⟩:=h;refine⟨_,(Zo (Zw (Zz ZJ (ZX Xx (hr.mono (by omega)) rfl ZD (Za (pv 0) (Za (pv 1) Zj))) Zh (fun _ _=>rfl)))), ?_⟩;refine⟨_,rfl,_,rfl,p,n,rs,r,rfl,bat,lr,ow,fun d H1 s1 ⟨v,sd,st⟩=> ?_⟩;rw[ht] at st
  obtain⟨a,rfl,tm⟩:=st;exact⟨d,_,_,_,rfl,rfl,SqT.of sd,rfl,q a H1 s1 tm⟩
theorem ZS{H H':Hp}(s:Zx H H'):∀{ds:List Addr} {ws:List Rw},Paired (ZbP H) ds ws->Paired (ZbP H') ds ws
 |_,_,.nil=> .nil
 |_,_,.cons h t=> .cons (s _ _ h) (ZS s t)
theorem ZeA{H:Hp}(P:Rw->Bool):∀{ds:List Addr} {ws:List Rw},Paired (ZbP H) ds ws->∃es:List Addr,((ds.zip ws).flatMap fun z=>if P z.2=true then[V.ref z.1] else[])=es.map V.ref/\Paired (ZbP H) es (ws.filter P)
 |_,_,.nil=>⟨[],rfl,.nil⟩
 |_,_,.cons (a:=a) (b:=w) h t=>by
  obtain⟨es,e,c⟩:=ZeA P t;cases hp:P w with
  |true=>
   refine⟨a::es, ?_,by rw[List.filter_cons_of_pos hp];exact .cons h c⟩
   rw[List.zip_cons_cons,List.flatMap_cons,e,if_pos hp]
   rfl
  |false=>
   refine⟨es, ?_,by rw[List.filter_cons_of_neg (by rw[hp];exact Bool.false_ne_true)];exact c⟩
   rw[List.zip_cons_cons,List.flatMap_cons,e,if_neg (by rw[hp];exact Bool.false_ne_true)]
   rfl
theorem Zqc(w:Rw):atI w.vs (-1)=some (.int w.day):=by cases w<;>rfl
theorem Zab(w:Rw):atI w.vs 0=some (.str w.word):=by cases w<;>rfl
theorem ZfU(w:Rw):atI w.vs 1=some (.str w.one):=by cases w<;>rfl
theorem ZoX{ds:List Addr}{ws:List Rw}{j:Nat}{d:Addr}{w:Rw}(h1:ds[j]? =some d)(h2:ws[j]? =some w):(ds.zip ws)[j]? =some (d,w):=List.getElem?_zip_eq_some.mpr ⟨h1,h2⟩
theorem ZkG{P:Rw->Bool}{o:Option (Addr×Rw)}:((o.map fun z=>if P z.2=true then[V.ref z.1] else[]).getD []).length<=1:=by
 cases o with
 |none=>exact Nat.zero_le 1
 |some z=>
  show(if _ then[V.ref z.1] else[]).length<=1
  split
  ·exact Nat.le_refl 1
  ·exact Nat.zero_le 1
theorem ZlW:ZC ["rows","day"] ["rows","day"] (Zu ZfN):=⟨rfl,rfl,rfl,by decide+kernel,rfl,by decide+kernel,by decide+kernel⟩
theorem ZlX{f:Addr}{fd:FuncData}(F:Fun K "counted" "counted" ZfN f fd)(T:Txt K mg Zg Zd Ze Zb Zk):Yr P w K mg base CX0 1 f fd ["rows","day"] Zaq:=by
 refine F.ok ZlW (fun vs H Q E h=> ?_) (fun cdv A outer s H vs Q E hr h=> ?_)
 ·obtain⟨p,ws,day,rfl,_⟩:=h
  rfl
 ·obtain⟨p,ws,day,rfl,⟨ds,hp,pr⟩,lw,q⟩:=h;have l5:=Xl;have le:=Paired.length pr;have lz:(ds.zip ws).length=ds.length:=by rw[List.length_zip];omega
  refine⟨_,(Zo (Zw (Je ["row"] [("day",1)] rfl (Yy (pv 0)) (by rfl) (by exact⟨rfl,trivial⟩) (by rfl) (by exact⟨⟨rfl,rfl,rfl⟩,trivial⟩) (fun _ _ _ _=>(ZK (i:=0) (show(nmY ["row"] [("day",1)]).Nodup by decide+kernel) rfl (Or.inl rfl))) (fun _ _ _ _=>(JM (Zt ZrL (Zz (XD (K:=K) rfl) (pv 0) (Zqu ZnQ Zh) (fun _ _=>rfl)) (pv 1) (Zy _)))) (fun _ _ _ _=>(pv 0))))), ?_⟩;refine⟨_,rfl,p,rfl,⟨_,SqL.of hp⟩,XC (ds.zip ws).length (fun j=>(((ds.zip ws)[j]?).map fun z=>if decide (z.2.day<=day)=true then[V.ref z.1] else[]).getD []) (by omega) (fun j=>ZkG (P:=fun w=>decide (w.day<=day))) (fun j H2 s2 lt=>⟨_,_,SqL.of (s2 _ _ hp),List.getElem?_eq_getElem (by rw[List.length_map];omega)⟩) (fun H2 s2=>⟨_,SqL.of (s2 _ _ hp),by rw[List.length_map];omega⟩) (fun j y H2 H3 s2 lt yl RT RF rt rf=> ?_) fun D H2 hD s2 d2=> ?_⟩
  ·obtain⟨rfl,yl⟩:=yl;obtain⟨d,rfl,ed⟩:=Xq (yl _ (SqL.of (s2 _ _ hp)));obtain⟨w,ew,row⟩:=Yq (ZS s2 pr) j d ed;have row:H3 d=some (.tup w.vs):=row;rw[ZoX ed ew] at rt rf
   refine⟨⟨rfl,trivial⟩,_,rfl,_,rfl,d,_,_,.int w.day,rfl,rfl,SqT.of row,Zqc w,_,rfl,_,_,rfl,rfl,_,rfl, ?_⟩;exact YZ (fun z=>⟨_,rfl,rt _ _ (if_pos z) (Zx.refl _)⟩) (fun z=>rf _ (if_neg z) (Zx.refl _))
  ·rw[Jp (fun z:Addr×Rw=>if decide (z.2.day<=day)=true then[V.ref z.1] else[]) (ds.zip ws)] at d2
   obtain⟨es,e,c⟩:=ZeA (fun w=>decide (w.day<=day)) (ZS s2 pr);rw[e] at d2
   exact q D H2 hD s2 ⟨es,d2,c⟩
theorem vne{a b:Str}(h:¬a=b):¬V.str a=V.str b:=fun z=>h (by injection z)
theorem Zsj:¬Str.ofString "put"=Str.ofString "move":=by decide+kernel
theorem ZqE:¬Str.ofString "put"=Str.ofString "deed":=by decide+kernel
theorem ZkH:¬Str.ofString "put"=Str.ofString "lift":=by decide+kernel
theorem ZiU:¬Str.ofString "put"=Str.ofString "hold":=by decide+kernel
theorem Zsk:¬Str.ofString "move"=Str.ofString "put":=by decide+kernel
theorem ZqF:¬Str.ofString "move"=Str.ofString "deed":=by decide+kernel
theorem Zmw:¬Str.ofString "move"=Str.ofString "lift":=by decide+kernel
theorem ZkI:¬Str.ofString "move"=Str.ofString "hold":=by decide+kernel
theorem ZqG:¬Str.ofString "deed"=Str.ofString "put":=by decide+kernel
theorem Zsl:¬Str.ofString "deed"=Str.ofString "move":=by decide+kernel
theorem ZoY:¬Str.ofString "deed"=Str.ofString "lift":=by decide+kernel
theorem ZkJ:¬Str.ofString "deed"=Str.ofString "hold":=by decide+kernel
theorem ZqH:¬Str.ofString "lift"=Str.ofString "put":=by decide+kernel
theorem Zsm:¬Str.ofString "lift"=Str.ofString "move":=by decide+kernel
theorem Zsn:¬Str.ofString "lift"=Str.ofString "deed":=by decide+kernel
theorem Zmx:¬Str.ofString "lift"=Str.ofString "hold":=by decide+kernel
theorem ZqI:¬Str.ofString "hold"=Str.ofString "put":=by decide+kernel
theorem Zso:¬Str.ofString "hold"=Str.ofString "move":=by decide+kernel
theorem Zsp:¬Str.ofString "hold"=Str.ofString "deed":=by decide+kernel
theorem Zsq:¬Str.ofString "hold"=Str.ofString "lift":=by decide+kernel
theorem Zqd(w:Rw)(r:Str):(decide (V.str w.word=V.str "put")&&decide (V.str w.one=V.str r))=Zcu r w:=by
 cases w with
 |put x s d=>
  show(decide (V.str "put"=V.str "put")&&decide (V.str x=V.str r))=decide (x=r);rw[decide_eq_true rfl,Bool.true_and]
  by_cases h:x=r
  ·rw[h,decide_eq_true rfl,decide_eq_true rfl]
  ·rw[decide_eq_false h,decide_eq_false (vne h)]
 |move x s d=>exact(congrArg (fun b=>b&&_) (decide_eq_false (vne Zsk))).trans (Bool.false_and _)
 |deed x k d=>exact(congrArg (fun b=>b&&_) (decide_eq_false (vne ZqG))).trans (Bool.false_and _)
 |lift h d=>exact(congrArg (fun b=>b&&_) (decide_eq_false (vne ZqH))).trans (Bool.false_and _)
 |hold h c n d=>exact(congrArg (fun b=>b&&_) (decide_eq_false (vne ZqI))).trans (Bool.false_and _)
theorem Znk:ZC ["rows","record"] ["rows","record"] (Zu Zhr):=⟨rfl,rfl,rfl,by decide+kernel,rfl,by decide+kernel,by decide+kernel⟩
theorem Znl{f:Addr}{fd:FuncData}(F:Fun K "is_put" "is_put" Zhr f fd)(T:Txt K mg Zg Zd Ze Zb Zk):Yr P w K mg base CX0 1 f fd ["rows","record"] Zcv:=by
 refine F.ok Znk (fun vs H Q E h=> ?_) (fun cdv A outer s H vs Q E hr h=> ?_)
 ·obtain⟨p,ws,r,rfl,_⟩:=h
  rfl
 ·obtain⟨p,ws,r,rfl,⟨ds,hp,pr⟩,lw,q⟩:=h;have l5:=Xl;have le:=Paired.length pr;refine⟨_,(Zo (Zw (ZM (Zhd rfl) (by rfl) T.z_any Zod (Za (Je ["row"] [("record",1)] rfl (Yy (pv 0)) (by rfl) (by exact⟨rfl,trivial⟩) (by rfl) (by exact⟨⟨rfl,rfl,rfl⟩,trivial⟩) (fun _ _ _ _=>(ZK (i:=0) (show(nmY ["row"] [("record",1)]).Nodup by decide+kernel) rfl (Or.inl rfl))) (fun _ _ _ _=>Ze3) (fun _ _ _ _=>(ZnK (Zaw Yo (Zz (XD (K:=K) rfl) (pv 0) Zh (fun _ _=>rfl)) ZG (Zy _)) (ZnJ (Zaw Yo (Zz (XD (K:=K) rfl) (pv 0) Zh (fun _ _=>rfl)) (pv 1) (Zy _)))))) Zj)))), ?_⟩
  refine⟨_,rfl,p,rfl,⟨_,SqL.of hp⟩,XC ds.length (fun j=>[((ws[j]?).map fun w=>V.bl (Zcu r w)).getD .non]) (by omega) (fun j=>Nat.le_refl 1) (fun j H4 s4 lt=>⟨_,_,SqL.of (s4 _ _ hp),List.getElem?_eq_getElem (by rw[List.length_map];exact lt)⟩) (fun H4 s4=>⟨_,SqL.of (s4 _ _ hp),by rw[List.length_map];exact Nat.le_refl _⟩) (fun j y H4 H5 s4 lt yl RT RF rt rf=> ?_) fun D4 H4 hD4 s4 d4=> ?_⟩
  ·obtain⟨rfl,yl⟩:=yl;obtain⟨d,rfl,ed⟩:=Xq (yl _ (SqL.of (s4 _ _ hp)));obtain⟨w,ew,row⟩:=Yq (ZS s4 pr) j d ed;have row:H5 d=some (.tup w.vs):=row;have out:[((ws[j]?).map fun w=>V.bl (Zcu r w)).getD .non]=[V.bl (Zcu r w)]:=by rw[ew];rfl
   rw[out,<-Zqd] at rt
   refine⟨⟨rfl,trivial⟩, ?_⟩;unfold Zkq;refine Zbb (ixT rfl (SqT.of row) (Zab w) ⟨rfl,_,rfl,YZ (fun e=> ?_) (fun e=> ?_)⟩)
   ·refine(ixT rfl (SqT.of row) (ZfU w) ⟨_,rfl,rfl,rt _ _ ?_ (Zx.refl _)⟩);rw[e,Bool.true_and]
   ·refine rt _ _ ?_ (Zx.refl _);rw[Bool.eq_false_iff.mpr e,Bool.false_and]
  ·have e6:(List.range ds.length).flatMap (fun j=>[((ws[j]?).map fun w=>V.bl (Zcu r w)).getD .non])=(ws.map (Zcu r)).map V.bl:=by
    rw[JW,le,ZfG ws (fun w=>V.bl (Zcu r w)) .non,List.map_map]
    rfl
   rw[e6] at d4
   refine⟨D4,ws.map (Zcu r),rfl,SqL.of d4, ?_⟩;rw[List.any_map];exact q H4 s4
theorem ZkK:ZC ["due","holds","day"] ["due","holds","day"] (Zu Zet):=⟨rfl,rfl,rfl,by decide+kernel,rfl,by decide+kernel,by decide+kernel⟩
theorem ZkL{f:Addr}{fd:FuncData}(F:Fun K "word_for" "word_for" Zet f fd)(T:Txt K mg Zg Zd Ze Zb Zk):Yr P w K mg base CX0 1 f fd ["due","holds","day"] ZdB:=by
 refine F.ok ZkK (fun vs H Q E h=> ?_) (fun cdv A outer s H vs Q E hr h=> ?_)
 ·obtain⟨a,zs,due,day,rfl,_⟩:=h
  rfl
 ·obtain⟨a,zs,due,day,rfl,ha,q⟩:=h;have q:=q H (Zx.refl H);refine⟨_,(Zi (Ye (PW.pt (ZiB (Zt Zem (pv 0) XN (Zy _)) (ZgZ (Zt Zh1 (pv 0) (pv 2) (Zy _))))) (Zo (Zw ZG)) ZF) (Zi (Ye (Zt Zh1 (ZM YJ (by rfl) T.z_len Jk (Za (pv 1) Zj)) Zh (Zy _)) (Zo (Zw ZG)) ZF) (Zo (Zw ZG)))), ?_⟩;unfold Jy at q
  cases due with
  |none=>exact⟨_,rfl,rfl,_,rfl,Zfa rfl q⟩
  |some d=>
   refine⟨_,rfl,rfl,_,rfl,JC (fun z=>nomatch z) ⟨_,rfl,_,rfl,_,_,rfl,rfl,_,rfl,YZ (fun e=> ?_) (fun e=> ?_)⟩⟩
   ·have e:day<d:=of_decide_eq_true e;have q:Q (.str (if day<d then Str.ofString "kept" else if 0<zs.length then Str.ofString "held" else Str.ofString "due")) H:=q;rw[if_pos e] at q
    exact q
   ·have e:¬day<d:=fun z=>e (decide_eq_true z);have q:Q (.str (if day<d then Str.ofString "kept" else if 0<zs.length then Str.ofString "held" else Str.ofString "due")) H:=q;rw[if_neg e] at q
    refine⟨_,rfl,_,_,rfl,.inl ⟨_,SqL.of ha,rfl⟩,_,_,rfl,rfl,_,rfl,YZ (fun e=> ?_) (fun e=> ?_)⟩
    ·have e:=of_decide_eq_true e;rw[List.length_map] at e
     rw[if_pos (by omega)] at q
     exact q
    ·have e:¬(0:Int)<((zs.map V.str).length:Nat):=fun z=>e (decide_eq_true z);rw[List.length_map] at e
     rw[if_neg (by omega)] at q
     exact q
theorem YK{H H':Hp}{r:Addr}(s:Zx H H')(h:H' r=none):H r=none:=by
 cases z:H r with
 |none=>rfl
 |some u=>rw[s r u z] at h;cases h
def ZhD(H:Hp)(a:Addr)(ns:List Str):Prop:=∃kvs,H a=some (.dK kvs)/\kvs.length<=1000/\∀z:Str,YB kvs (Sum.inr z)=if z∈ns then some (V.bl true) else none
theorem ZhD.get{H:Hp}{a:Addr}{ns:List Str}(h:ZhD H a ns)(z:Str):Zgr H a (.str z) (if z∈ns then some (V.bl true) else none):=by
 obtain⟨kvs,e,_,v⟩:=h;exact .inl ⟨kvs,Sum.inr z,.inl e,rfl,(v z).symm⟩
theorem ZkM{kvs:List (Key×V)}{ns:List Str}{y:Str}(h:∀z:Str,YB kvs (Sum.inr z)=if z∈ns then some (V.bl true) else none)(z:Str):YB (Jo kvs (Sum.inr y) (V.bl true)) (Sum.inr z)=if z∈ns++[y] then some (V.bl true) else none:=by
 rw[Zf0]
 by_cases e:z=y
 ·rw[if_pos (by rw[e]),if_pos (List.mem_append_right _ (by rw[e];exact List.mem_singleton_self _))]
 ·rw[if_neg (fun w=>e (by injection w)),h z]
  by_cases m:z∈ns
  ·rw[if_pos m,if_pos (List.mem_append_left _ m)]
  ·rw[if_neg m,if_neg fun w=>(List.mem_append.mp w).elim m fun k=>e (by simpa using k)]
theorem Znm(w:Rw)(ls:List Str):(decide (V.str w.word=V.str "hold")&& !(if w.one∈ls then some (V.bl true) else none).isSome)=JF ls w:=by
 cases w with
 |hold h c n d=>
  show(decide (V.str "hold"=V.str "hold")&& !(if h∈ls then some (V.bl true) else none).isSome)=decide (h∉ls);rw[decide_eq_true rfl,Bool.true_and]
  by_cases m:h∈ls
  ·rw[if_pos m,decide_eq_false (fun z=>z m)]
   rfl
  ·rw[if_neg m,decide_eq_true m]
   rfl
 |put x s d=>exact(congrArg (fun b=>b&&_) (decide_eq_false (vne ZiU))).trans (Bool.false_and _)
 |move x s d=>exact(congrArg (fun b=>b&&_) (decide_eq_false (vne ZkI))).trans (Bool.false_and _)
 |deed x k d=>exact(congrArg (fun b=>b&&_) (decide_eq_false (vne ZkJ))).trans (Bool.false_and _)
 |lift h d=>exact(congrArg (fun b=>b&&_) (decide_eq_false (vne Zmx))).trans (Bool.false_and _)
theorem Zmy(w:Rw):(V.str w.word=V.str "lift"->Zap w=some w.one)/\(¬V.str w.word=V.str "lift"->Zap w=none):=by
 cases w with
 |lift h d=>exact⟨fun _=>rfl,fun z=>absurd rfl z⟩
 |put x s d=>exact⟨fun z=>absurd z (vne ZkH),fun _=>rfl⟩
 |move x s d=>exact⟨fun z=>absurd z (vne Zmw),fun _=>rfl⟩
 |deed x k d=>exact⟨fun z=>absurd z (vne ZoY),fun _=>rfl⟩
 |hold h c n d=>exact⟨fun z=>absurd z (vne Zsq),fun _=>rfl⟩
theorem Zgj{ws:List Rw}{w:Rw}:YF (ws++[w])=YF ws++(match Zap w with|some h=>[h]|none=>[]):=by
 unfold YF;rw[List.filterMap_append,List.filterMap_cons,List.filterMap_nil];cases Zap w<;>rfl
theorem Zsr:¬Str.ofString "series"=Str.ofString "record":=by decide+kernel
theorem ZdD:ZC ["rows","lifted","row"] ["rows"] (Zu Zes):=⟨rfl,rfl,rfl,by decide+kernel,rfl,by decide+kernel,by decide+kernel⟩
theorem ZkN{f:Addr}{fd:FuncData}(F:Fun K "standing" "standing" Zes f fd)(T:Txt K mg Zg Zd Ze Zb Zk):Yr P w K mg base CX0 1 f fd ["rows"] ZaH:=by
 refine F.ok ZdD (fun vs H Q E h=> ?_) (fun cdv A outer s H vs Q E hr h=> ?_)
 ·obtain⟨p,ws,rfl,_⟩:=h
  rfl
 ·obtain⟨p,ws,rfl,⟨ds,hp,pr⟩,lw,q⟩:=h;have l5:=Xl;have hu:=Zcp hr;have le:=Paired.length pr;have lz:(ds.zip ws).length=ds.length:=by rw[List.length_zip];omega
  refine⟨_,(Zi (Zv (i:=1) ZdD.nd rfl (Or.inr rfl) Zbq) (Zi (XQ PassesOwn.never rfl (Yy (pv 0)) (ZK (i:=2) ZdD.nd rfl (Or.inl rfl)) (Zo (Ye (Zt Yo (Zz ZJ (pv 2) Zh (fun _ _=>rfl)) ZG (Zy _)) (Zo (ZcI hu (pv 1) (Zz ZJ (pv 2) Zh (fun _ _=>rfl)) Zmh rfl)) ZF))) (Zo (Zw (Je ["row"] [("lifted",1)] rfl (Yy (pv 0)) (by rfl) (by exact⟨rfl,trivial⟩) (by rfl) (by exact⟨⟨rfl,rfl,rfl⟩,trivial⟩) (fun _ _ _ _=>(ZK (i:=0) (show(nmY ["row"] [("lifted",1)]).Nodup by decide+kernel) rfl (Or.inl rfl))) (fun _ _ _ _=>(JM (PW.pt (Za4 (Zt Yo (Zz (XD (K:=K) rfl) (pv 0) Zh (fun _ _=>rfl)) ZG (Zy _)) (Jl (ZfB (Ze1 hu (Zz (XD (K:=K) rfl) (pv 0) Zh (fun _ _=>rfl)) (pv 1)))))))) (fun _ _ _ _=>(pv 0))))))), ?_⟩
  intro A hA;have nAp:p≠A:=Zf hp hA;refine⟨_,rfl,p,rfl,⟨_,SqL.of (Zn hA _ _ hp)⟩,Xm (xs:=ds.map V.ref) (fun i σ H'=>∃v2:Option V,σ=[some (.ref p),some (.ref A),v2]/\(∃kvs,H' A=some (.dK kvs)/\kvs.length<=i/\∀z:Str,YB kvs (Sum.inr z)=if z∈YF (ws.take i) then some (V.bl true) else none)/\∀b u,b≠A->H b=some u->H' b=some u) ?_ ?_ ?_ ?_⟩
  ·exact⟨none,rfl,⟨[],Zc,Nat.le_refl _,fun z=>rfl⟩,fun b u nb e=>by rw[Zm nb];exact e⟩
  ·rintro i σ H1 _ ⟨v2,rfl,_,fr⟩;exact SqL.of (fr _ _ nAp hp)
  ·rintro i x σ H1 hx ⟨v2,rfl,⟨kvs,hk,lk,vk⟩,fr⟩;obtain⟨d,rfl,ed⟩:=Xq hx;have s1:Zx H H1:=fun b u z=>fr b u (Zf z hA) z;obtain⟨w,ew,row⟩:=Yq (ZS s1 pr) i d ed;have row:H1 d=some (.tup w.vs):=row;have tk:ws.take (i+1)=ws.take i++[w]:=by rw[List.take_add_one,ew];rfl
   have hi:i<ws.length:=(List.getElem?_eq_some_iff.mp ew).1;rw[tk,Zgj];refine(ixT rfl (SqT.of row) (Zab w) ⟨rfl,_,rfl,YZ (fun e=> ?_) (fun e=> ?_)⟩)
   ·rw[(Zmy w).1 (of_decide_eq_true e)];refine⟨_,rfl,ixT rfl (SqT.of row) (ZfU w) ⟨A,_,rfl,.inl ⟨kvs,Sum.inr w.one,hk,rfl,by omega,rfl⟩, ?_⟩⟩;exact⟨_,rfl,⟨_,Zc,Nat.le_trans (ZaD _ _ _) (by omega),ZkM vk⟩,fun b u nb z=>by rw[Zm nb];exact fr b u nb z⟩
   ·rw[(Zmy w).2 (fun z=>e (decide_eq_true z)),List.append_nil];exact⟨_,rfl,⟨kvs,hk,Nat.le_succ_of_le lk,vk⟩,fr⟩
  ·rintro σ H1 ⟨v2,rfl,⟨kvs,hk,lk,vk⟩,fr⟩;rw[List.length_map,le,List.take_of_length_le (Nat.le_refl _)] at vk
   rw[List.length_map] at lk
   have s1:Zx H H1:=fun b u z=>fr b u (Zf z hA) z;have hp1:=s1 _ _ hp;have pr1:=ZS s1 pr;have ov:ZhD H1 A (YF ws):=⟨kvs,hk,by omega,vk⟩
   refine⟨_,rfl,p,rfl,⟨_,SqL.of hp1⟩,XC (ds.zip ws).length (fun j=>(((ds.zip ws)[j]?).map fun z=>if JF (YF ws) z.2=true then[V.ref z.1] else[]).getD []) (by omega) (fun j=>ZkG (P:=JF (YF ws))) (fun j H2 s2 lt=>⟨_,_,SqL.of (s2 _ _ hp1),List.getElem?_eq_getElem (by rw[List.length_map];omega)⟩) (fun H2 s2=>⟨_,SqL.of (s2 _ _ hp1),by rw[List.length_map];omega⟩) (fun j y H2 H3 s2 lt yl RT RF rt rf=> ?_) fun D H2 hD s2 d2=> ?_⟩
   ·obtain⟨rfl,yl⟩:=yl;obtain⟨d,rfl,ed⟩:=Xq (yl _ (SqL.of (s2 _ _ hp1)));obtain⟨w,ew,row⟩:=Yq (ZS s2 pr1) j d ed;have row:H3 d=some (.tup w.vs):=row;have ov3:ZhD H3 A (YF ws):=⟨kvs,s2 _ _ hk,by omega,vk⟩
    rw[ZoX ed ew] at rt rf
    have sa:=Znm w (YF ws);refine⟨⟨rfl,trivial⟩,ixT rfl (SqT.of row) (Zab w) ⟨rfl,_,rfl,YZ (fun e=> ?_) (fun e=> ?_)⟩⟩
    ·refine(ixT rfl (SqT.of row) (ZfU w) ⟨_,rfl,A,_,rfl,ov3.get w.one,_,rfl, ?_⟩);rw[e,Bool.true_and] at sa
     rw[sa];exact YZ (fun z=>⟨_,rfl,rt _ _ (if_pos z) (Zx.refl _)⟩) (fun z=>rf _ (if_neg z) (Zx.refl _))
    ·rw[Bool.eq_false_iff.mpr e,Bool.false_and] at sa
     exact Xh (rf _ (if_neg (by rw[<-sa];exact Bool.false_ne_true)) (Zx.refl _))
   ·rw[Jp (fun z:Addr×Rw=>if JF (YF ws) z.2=true then[V.ref z.1] else[]) (ds.zip ws)] at d2
    obtain⟨es,e,c⟩:=ZeA (JF (YF ws)) (ZS s2 pr1);rw[e] at d2
    exact q D H2 (YK s1 hD) (s1.trans s2) ⟨es,d2,c⟩
theorem Zik:ZC ["row","record","over"] ["row","record","over"] (Zu ZcO):=⟨rfl,rfl,rfl,by decide+kernel,rfl,by decide+kernel,by decide+kernel⟩
theorem Zil{f:Addr}{fd:FuncData}(F:Fun K "is_laid_on" "is_laid_on" ZcO f fd)(T:Txt K mg Zg Zd Ze Zb Zk):Yr P w K mg base CX0 1 f fd ["row","record","over"] Zc9:=by
 refine F.ok Zik (fun vs H Q E h=> ?_) (fun cdv A outer s H vs Q E hr h=> ?_)
 ·obtain⟨a,o,h,n,rec,d,r,line,kvs,rfl,_⟩:=h
  rfl
 ·obtain⟨a,o,h,n,rec,d,r,line,kvs,rfl,ha,ho,hg,q⟩:=h;have hu:=Zcp hr;have ha:H a=some (.tup [.str "hold",.str h,.str (onW rec),.str n,.int d]):=ha;have q:=q H (Zx.refl H);refine⟨_,(Zi (Ye (Zt Yo (Zz ZJ (pv 0) Zh (fun _ _=>rfl)) ZG (Zy _)) (Zo (Zw (Zaw Yo (Zz ZJ (pv 0) Zh (fun _ _=>rfl)) (pv 1) (Zy _)))) ZF) (Zo (Zw (ZqR (Zlu hu (Zz ZJ (pv 0) Zh (fun _ _=>rfl)) (pv 2)))))), ?_⟩;cases rec with
  |true=>
   refine(ixT rfl (SqT.of ha) rfl ⟨rfl,_,rfl,Zfa rfl (ixT rfl (SqT.of ha) rfl ⟨_,rfl,rfl,Zsc q ?_⟩)⟩);show V.bl (decide (n=r))=V.bl (decide (V.str n=V.str r))
   by_cases e:n=r
   ·rw[e,decide_eq_true rfl,decide_eq_true rfl]
   ·rw[decide_eq_false e,decide_eq_false (vne e)]
  |false=>
   refine(ixT rfl (SqT.of ha) rfl ⟨rfl,_,rfl,JC (vne Zsr) (ixT rfl (SqT.of ha) rfl ⟨_,rfl,o,_,rfl,hg n,Zsc q ?_⟩)⟩);show V.bl (decide (n∈line))=V.bl (if n∈line then some (V.bl true) else none).isSome
   by_cases e:n∈line
   ·rw[if_pos e,decide_eq_true e];rfl
   ·rw[if_neg e,decide_eq_false e];rfl
theorem ZgR(a b:Str):inV (.str a) [.str a,.str b]=true:=by
 show(eqV (.str a) (.str a)||_)=true;rw[Ji rfl,Bool.true_or]
theorem ZoZ{a b:Str}(h:¬a=b):eqV (.str a) (.str b)=false:=beq_false_of_ne h
theorem Zfi(a b:Str):inV (.str b) [.str a,.str b]=true:=by
 show(eqV (.str a) (.str b)||(eqV (.str b) (.str b)||false))=true;rw[Ji rfl,Bool.true_or,Bool.or_true]
theorem ZaY{a b c:Str}(h1:¬a=c)(h2:¬b=c):inV (.str c) [.str a,.str b]=false:=by
 show(eqV (.str a) (.str c)||(eqV (.str b) (.str c)||false))=false;rw[ZoZ h1,ZoZ h2]
 rfl
theorem ZkO(r:Str):∀(ws:List Rw) (l:Tb),(ws.foldl (Xb r) l).length<=l.length+ws.length
 |[],l=>Nat.le_refl _
 |w::ws,l=>by
  have h:=ZkO r ws (Xb r l w);have k:(Xb r l w).length<=l.length+1:=by
   unfold Xb
   split
   ·split
    ·exact Zhf ..
    ·exact Nat.le_succ _
   ·split
    ·exact Zhf ..
    ·exact Nat.le_succ _
   ·exact Nat.le_succ _
  rw[List.length_cons,List.foldl_cons];omega
theorem Zrn(i j:Int):(if j>i then j else i)=max i j:=by split<;>omega
theorem Zd0:ZC ["rows","record","life","row","kind"] ["rows","record"] (Zu ZfO):=⟨rfl,rfl,rfl,by decide+kernel,rfl,by decide+kernel,by decide+kernel⟩
theorem ZlY{f:Addr}{fd:FuncData}(F:Fun K "life_of" "life_of" ZfO f fd)(T:Txt K mg Zg Zd Ze Zb Zk):Yr P w K mg base CX0 1 f fd ["rows","record"] ZcX:=by
 refine F.ok Zd0 (fun vs H Q E h=> ?_) (fun cdv A outer s H vs Q E hr h=> ?_)
 ·obtain⟨p,ws,r,rfl,_⟩:=h
  rfl
 ·obtain⟨p,ws,r,rfl,⟨ds,hp,pr⟩,lw,q⟩:=h;have l5:=Xl;have hu:=Zcp hr;have le:=Paired.length pr;refine⟨_,(Zi (Zv (i:=2) Zd0.nd rfl (Or.inl rfl) Zbq) (Zi (XQ PassesOwn.never rfl (Yy (pv 0)) (ZK (i:=3) Zd0.nd rfl (Or.inl rfl)) (Zo (Ye (PW.pt (Za4 (Zt Ze0 (Zz ZJ (pv 3) Zh (fun _ _=>rfl)) (YX (Za ZG (Za ZG Zj))) rfl) (Jl (Zt Yo (Zz ZJ (pv 3) Zh (fun _ _=>rfl)) (pv 1) (Zy _))))) (Zi (Zv (i:=4) Zd0.nd rfl (Or.inl rfl) (Zkl (Zt Yo (Zz ZJ (pv 3) Zh (fun _ _=>rfl)) ZG (Zy _)) ZG (Zz ZJ (pv 3) Zh (fun _ _=>rfl)))) (Zo (ZcI hu (pv 2) (pv 4) (ZM (ZiC rfl) (by rfl) T.z_max ZlA (Za (Zz ZJ (pv 3) Zh (fun _ _=>rfl)) (Za (Zkp hu (pv 2) (pv 4) (Zz ZJ (pv 3) Zh (fun _ _=>rfl)) ⟨rfl,rfl,rfl,rfl⟩) Zj))) rfl))) ZF))) (Zo (Zw (pv 2))))), ?_⟩
  intro L hL;have nLp:p≠L:=Zf hp hL;refine⟨_,rfl,p,rfl,⟨_,SqL.of (Zn hL _ _ hp)⟩,Xm (xs:=ds.map V.ref) (fun i σ H'=>∃v3 v4:Option V,σ=[some (.ref p),some (.str r),some (.ref L),v3,v4]/\H' L=some (.dK (kk (Yg (ws.take i) r)))/\∀b u,b≠L->H b=some u->H' b=some u) ?_ ?_ ?_ ?_⟩
  ·exact⟨none,none,rfl,Zc,fun b u nb e=>by rw[Zm nb];exact e⟩
  ·rintro i σ H1 _ ⟨v3,v4,rfl,_,fr⟩;exact SqL.of (fr _ _ nLp hp)
  ·rintro i x σ H1 hx ⟨v3,v4,rfl,hl,fr⟩;obtain⟨d,rfl,ed⟩:=Xq hx;have s1:Zx H H1:=fun b u z=>fr b u (Zf z hL) z;obtain⟨w,ew,row⟩:=Yq (ZS s1 pr) i d ed;have row:H1 d=some (.tup w.vs):=row;have hi:i<ws.length:=(List.getElem?_eq_some_iff.mp ew).1;have tk:Yg (ws.take (i+1)) r=Xb r (Yg (ws.take i) r) w:=by
    unfold Yg;rw[List.take_add_one,ew,List.foldl_append]
    rfl
   have len:=ZkO r (ws.take i) [];have l0:(Yg (ws.take i) r).length<=1000:=by
    have:=List.length_take_le i ws;rw[List.length_nil] at len
    exact Nat.le_trans len (by omega)
   rw[tk];generalize Yg (ws.take i) r=l at hl l0
   have lk1:(kk l).length<sizeLine:=by rw[Zn5];omega
   refine(ixT rfl (SqT.of row) (Zab w) ⟨show 2<=sizeLine from sl,fun t ht=>⟨t,_,rfl,.inr (SqT.of Zc),rfl,rfl,_,rfl, ?_⟩⟩);have s2:=Zn (o:=.tup [.str "put",.str "deed"]) ht;have hl2:=s2 _ _ hl;have row2:=s2 _ _ row;have fr2:∀b u,b≠L->H b=some u->upd H1 t (.tup [.str "put",.str "deed"]) b=some u:=fun b u nb e=>s2 _ _ (fr b u nb e);generalize upd H1 t (.tup [.str "put",.str "deed"])=H2 at hl2 row2 fr2
   have keep:∀{v:Option V},∃v3 v4:Option V,[some (V.ref p),some (.str r),some (.ref L),some (.ref d),v]=[some (.ref p),some (.str r),some (.ref L),v3,v4]/\H2 L=some (.dK (kk l))/\∀b u,b≠L->H b=some u->H2 b=some u:=fun{v}=>⟨_,_,rfl,hl2,fr2⟩
   have done:∀(kind:Str) (dd:Int) {v:Option V},∃v3 v4:Option V,[some (V.ref p),some (.str r),some (.ref L),some (.ref d),v]=[some (.ref p),some (.str r),some (.ref L),v3,v4]/\upd H2 L (.dK (Jo (kk l) (Sum.inr kind) (.int (if(lk l kind).getD dd>dd then(lk l kind).getD dd else dd)))) L=some (.dK (kk (ZfH l kind (max dd ((lk l kind).getD dd)))))/\∀b u,b≠L->H b=some u->upd H2 L (.dK (Jo (kk l) (Sum.inr kind) (.int (if(lk l kind).getD dd>dd then(lk l kind).getD dd else dd)))) b=some u:=fun kind dd {v}=>⟨_,_,rfl,by rw[Zc,Zrc,Zrn],fun b u nb e=>by rw[Zm nb];exact fr2 b u nb e⟩
   have ej:∀(kind:Str) (dd:Int),((lk l kind).map V.int).getD (V.int dd)=V.int ((lk l kind).getD dd):=fun kind dd=>by cases lk l kind<;>rfl
   have rd2:Rd H2 L (.dK (kk l)):=.inl hl2;cases w with
   |put x s dd=>
    have row2:H2 d=some (.tup [.str "put",.str x,.str s,.int dd]):=row2;show if inV (.str "put") [.str "put",.str "deed"]=true then _ else _;rw[ZgR];refine Zbb (ixT rfl (SqT.of row2) rfl ⟨_,rfl,rfl,_,rfl,YZ (fun e=> ?_) (fun e=> ?_)⟩)
    ·have e:V.str x=V.str r:=of_decide_eq_true e;have e:x=r:=by injection e
     rw[show Xb r l (.put x s dd)=ZfH l "put" (max dd ((lk l "put").getD dd)) from if_pos e];exact(ixT rfl (SqT.of row2) rfl ⟨rfl,_,rfl,Zfa rfl (ixT rfl (SqT.of row2) rfl ⟨_,rfl,L,rfl,.inl ⟨_,rd2⟩,_,rfl,ixT rfl (SqT.of row2) rfl ⟨_,Zhy rd2 "put",dd,(lk l "put").getD dd,by rw[ej],_,rfl,_,rfl,L,_,rfl,Zid.k (k:=Sum.inr "put") hl2 lk1,done "put" dd⟩⟩)⟩)
    ·have e:¬x=r:=fun z=>e (decide_eq_true (by rw[z]));rw[show Xb r l (.put x s dd)=l from if_neg e];exact keep
   |deed x k dd=>
    have row2:H2 d=some (.tup [.str "deed",.str x,.str k,.int dd]):=row2;show if inV (.str "deed") [.str "put",.str "deed"]=true then _ else _;rw[Zfi];refine Zbb (ixT rfl (SqT.of row2) rfl ⟨_,rfl,rfl,_,rfl,YZ (fun e=> ?_) (fun e=> ?_)⟩)
    ·have e:V.str x=V.str r:=of_decide_eq_true e;have e:x=r:=by injection e
     rw[show Xb r l (.deed x k dd)=ZfH l k (max dd ((lk l k).getD dd)) from if_pos e];exact(ixT rfl (SqT.of row2) rfl ⟨rfl,_,rfl,JC (vne ZqG) (ixT rfl (SqT.of row2) rfl (ixT rfl (SqT.of row2) rfl ⟨_,rfl,L,rfl,.inl ⟨_,rd2⟩,_,rfl,ixT rfl (SqT.of row2) rfl ⟨_,Zhy rd2 k,dd,(lk l k).getD dd,by rw[ej],_,rfl,_,rfl,L,_,rfl,Zid.k (k:=Sum.inr k) hl2 lk1,done k dd⟩⟩))⟩)
    ·have e:¬x=r:=fun z=>e (decide_eq_true (by rw[z]));rw[show Xb r l (.deed x k dd)=l from if_neg e];exact keep
   |move x s dd=>
    show if inV (.str "move") [.str "put",.str "deed"]=true then _ else _;rw[ZaY Zsj Zsl];exact Xh (Xh keep)
   |lift h dd=>
    show if inV (.str "lift") [.str "put",.str "deed"]=true then _ else _;rw[ZaY ZkH ZoY];exact Xh (Xh keep)
   |hold h c n dd=>
    show if inV (.str "hold") [.str "put",.str "deed"]=true then _ else _;rw[ZaY ZiU ZkJ];exact Xh (Xh keep)
  ·rintro σ H1 ⟨v3,v4,rfl,hl,fr⟩;rw[List.length_map,le,List.take_of_length_le (Nat.le_refl _)] at hl
   exact⟨_,rfl,q L H1 hL (fun b u z=>fr b u (Zf z hL) z) hl⟩
def Zmz(H:Hp)(y:Za3)(v:V):Prop:=∃p,v=.ref p/\H p=some (.tup [.int y.1,.str y.2])
theorem ZkP{K:PySem.W.Frag}{H:Hp}:∀{ys:List Za3} {us:List V},Paired (Zmz H) ys us->Paired (Zc0 K H) ys us
 |_,_,.nil=> .nil
 |_,_,.cons ⟨p,e,h⟩ t=> .cons ⟨p,e,SqT.of h⟩ (ZkP t)
theorem Zd1{H H':Hp}(s:∀b xs,H b=some (.tup xs)->H' b=some (.tup xs)):∀{ys:List Za3} {us:List V},Paired (Zmz H) ys us->Paired (Zmz H') ys us
 |_,_,.nil=> .nil
 |_,_,.cons ⟨p,e,h⟩ t=> .cons ⟨p,e,s _ _ h⟩ (Zd1 s t)
theorem ZlZ{ws:List Rw}{w:Rw}{r:Str}:Yd (ws++[w]) r=Yd ws r++(match Zdz r w with|some y=>[y]|none=>[]):=by
 unfold Yd;rw[List.filterMap_append,List.filterMap_cons,List.filterMap_nil];cases Zdz r w<;>rfl
theorem Znn(ws:List Rw)(r:Str):(Yd ws r).length<=ws.length:=List.length_filterMap_le ..
theorem Zfj:ZC ["rows","record","places"] ["rows","record"] (Zu Zdq):=⟨rfl,rfl,rfl,by decide+kernel,rfl,by decide+kernel,by decide+kernel⟩
theorem ZjL{f:Addr}{fd:FuncData}(F:Fun K "series_of" "series_of" Zdq f fd)(T:Txt K mg Zg Zd Ze Zb Zk):Yr P w K mg base CX0 1 f fd ["rows","record"] Zbc:=by
 refine F.ok Zfj (fun vs H Q E h=> ?_) (fun cdv A outer s H vs Q E hr h=> ?_)
 ·obtain⟨p,ws,r,y,rfl,_⟩:=h
  rfl
 ·obtain⟨p,ws,r,y,rfl,⟨ds,hp,pr⟩,lw,top,q⟩:=h;have l5:=Xl;have hu3:=ZlF hr;have le:=Paired.length pr;refine⟨_,(Zi (Zjo (i:=2) ["row"] [("record",1)] Zfj.nd rfl (Or.inl rfl) rfl (Yy (pv 0)) (by rfl) (by exact⟨rfl,trivial⟩) (by rfl) (by exact⟨⟨rfl,rfl,rfl⟩,trivial⟩) (fun _ _ _ _=>(ZK (i:=0) (show(nmY ["row"] [("record",1)]).Nodup by decide+kernel) rfl (Or.inl rfl))) (fun _ _ _ _=>(JM (PW.pt (Za4 (Zt (ZlN (K:=K) rfl) (Zz (XD (K:=K) rfl) (pv 0) Zh (fun _ _=>rfl)) (YX (Za ZG (Za ZG Zj))) rfl) (Jl (Zt Yo (Zz (XD (K:=K) rfl) (pv 0) Zh (fun _ _=>rfl)) (pv 1) (Zy _))))))) (fun _ _ _ _=>(YX (Za (Zz (XD (K:=K) rfl) (pv 0) Zh (fun _ _=>rfl)) (Za (Zz (XD (K:=K) rfl) (pv 0) Zh (fun _ _=>rfl)) Zj))))) (Zo (Zw (Zz ZJ (ZM (Znd rfl hu3) (by rfl) T.z_max ZlA (Za (pv 2) Zj)) Zh (fun _ _=>rfl))))), ?_⟩
  refine⟨_,rfl,p,rfl,⟨_,SqL.of hp⟩,Zf2 fun D hD=>⟨ds.length,fun i ys H2=>Zx H H2/\Paired (Zmz H2) (Yd (ws.take i) r) ys,by omega,⟨Zn hD,.nil⟩,fun i ys H2 ⟨_,k⟩=> ?_,fun i ys zs H2 H3 e kp ⟨s2,k⟩=>⟨fun b u z=>kp b u (Zf z hD) (s2 b u z),Zd1 (fun b xs z=>kp b _ (Yi z e (fun w=>nomatch w)) z) k⟩,fun i ys H2 ⟨s2,_⟩ lt=>⟨_,_,SqL.of (s2 _ _ hp),List.getElem?_eq_getElem (by rw[List.length_map];exact lt)⟩,fun ys H2 ⟨s2,k⟩ d=>⟨⟨_,SqL.of (s2 _ _ hp),by rw[List.length_map];exact Nat.le_refl _⟩, ?_⟩,fun i x ys H2 H3 ⟨s2,k⟩ d lt yl RT RF rt rf=> ?_⟩⟩
  ·rw[<-Paired.length k];exact Nat.le_trans (Znn _ _) (List.length_take_le _ _)
  ·rw[le,List.take_of_length_le (Nat.le_refl _)] at k
   obtain⟨v0,us,eus⟩:∃v0 us,ys=v0::us:=by
    cases ys with
    |nil=>
     have z:Yd ws r=[]:=List.eq_nil_of_length_eq_zero (Paired.length k);have m:=top.1;rw[z] at m
     cases m
    |cons v0 us=>exact⟨v0,us,rfl⟩
   subst eus;refine⟨_,rfl,D,v0,us,_,rfl,SqL.of d,ZkP k,fun v y' mem sp best=> ?_⟩;obtain rfl:=top.one ⟨mem,best⟩;obtain⟨pv,rfl,hv⟩:=sp;exact⟨pv,_,_,_,rfl,rfl,hv,rfl,q H2 s2⟩
  ·obtain⟨rfl,yl⟩:=yl;obtain⟨d0,rfl,ed⟩:=Xq (yl _ (SqL.of (s2 _ _ hp)));obtain⟨w,ew,row⟩:=Yq (ZS s2 pr) i d0 ed;have row:H3 d0=some (.tup w.vs):=row;have tk:ws.take (i+1)=ws.take i++[w]:=by rw[List.take_add_one,ew];rfl
   rw[tk,ZlZ] at rt rf
   refine⟨⟨rfl,trivial⟩,ixT rfl (SqT.of row) (Zab w) ⟨show 2<=sizeLine from sl,fun t ht=>⟨t,_,rfl,.inr (SqT.of Zc),rfl,rfl,_,rfl, ?_⟩⟩⟩;have s3:=Zn (o:=.tup [.str "put",.str "move"]) ht;have row2:=s3 _ _ row;have d2:=s3 _ _ d;have k2:=Zd1 (fun b xs z=>s3 b _ z) k;have s23:=s2.trans s3;generalize upd H3 t (.tup [.str "put",.str "move"])=H4 at row2 d2 k2 s23
   have none_:Zdz r w=none->RF H4:=fun e=>rf _ d2 ⟨s23,by rw[e,List.append_nil];exact k2⟩
   have some_:∀(dd:Int) (sr:Str),Zdz r w=some (dd,sr)->∀t2,H4 t2=none->RT (.ref t2) (upd H4 t2 (.tup [.int dd,.str sr])):=fun dd sr e t2 ht2=>by
    have s5:=Zn (o:=.tup [.int dd,.str sr]) ht2;refine rt _ _ (s5 _ _ d2) ⟨s23.trans s5, ?_⟩;rw[e];exact Paired.snoc (Zd1 (fun b xs z=>s5 b _ z) k2) ⟨t2,rfl,Zc⟩
   cases w with
   |put x s dd=>
    have row2:H4 d0=some (.tup [.str "put",.str x,.str s,.int dd]):=row2;show if inV (.str "put") [.str "put",.str "move"]=true then _ else _;rw[ZgR];refine Zbb (ixT rfl (SqT.of row2) rfl ⟨_,rfl,rfl,_,rfl,YZ (fun e=> ?_) (fun e=> ?_)⟩)
    ·have e:V.str x=V.str r:=of_decide_eq_true e;have e:x=r:=by injection e
     exact(ixT rfl (SqT.of row2) rfl (ixT rfl (SqT.of row2) rfl ⟨show 2<=sizeLine from sl,fun t2 ht2=>some_ dd s (if_pos e) t2 ht2⟩))
    ·have e:¬x=r:=fun z=>e (decide_eq_true (by rw[z]));exact none_ (if_neg e)
   |move x s dd=>
    have row2:H4 d0=some (.tup [.str "move",.str x,.str s,.int dd]):=row2;show if inV (.str "move") [.str "put",.str "move"]=true then _ else _;rw[Zfi];refine Zbb (ixT rfl (SqT.of row2) rfl ⟨_,rfl,rfl,_,rfl,YZ (fun e=> ?_) (fun e=> ?_)⟩)
    ·have e:V.str x=V.str r:=of_decide_eq_true e;have e:x=r:=by injection e
     exact(ixT rfl (SqT.of row2) rfl (ixT rfl (SqT.of row2) rfl ⟨show 2<=sizeLine from sl,fun t2 ht2=>some_ dd s (if_pos e) t2 ht2⟩))
    ·have e:¬x=r:=fun z=>e (decide_eq_true (by rw[z]));exact none_ (if_neg e)
   |deed x k dd=>
    show if inV (.str "deed") [.str "put",.str "move"]=true then _ else _;rw[ZaY ZqE ZqF];exact Xh (Xh (none_ rfl))
   |lift h dd=>
    show if inV (.str "lift") [.str "put",.str "move"]=true then _ else _;rw[ZaY ZkH Zmw];exact Xh (Xh (none_ rfl))
   |hold h c n dd=>
    show if inV (.str "hold") [.str "put",.str "move"]=true then _ else _;rw[ZaY ZiU ZkI];exact Xh (Xh (none_ rfl))
theorem ZbE{ls:List Str}{w:Rw}(h:JF ls w=true):∃hh c n d,w=.hold hh c n d:=by
 cases w with
 |hold hh c n d=>exact⟨hh,c,n,d,rfl⟩
 |_=>cases h
theorem ZdE:ZC ["rows","record","line","over","name"] ["rows","record","line"] (Zu Zer):=⟨rfl,rfl,rfl,by decide+kernel,rfl,by decide+kernel,by decide+kernel⟩
theorem ZkQ{f:Addr}{fd:FuncData}(F:Fun K "holds_on" "holds_on" Zer f fd)(T:Txt K mg Zg Zd Ze Zb Zk)(Zd2:Cal P w K mg base CX0 1 "is_laid_on" ["row","record","over"] Zc9)(Jg:Cal P w K mg base CX0 1 "standing" ["rows"] ZaH):Yr P w K mg base CX0 2 f fd ["rows","record","line"] ZdA:=by
 refine F.ok ZdE (fun vs H Q E h=> ?_) (fun cdv A outer s H vs Q E hr h=> ?_)
 ·obtain⟨p,l,ws,r,line,rfl,_⟩:=h
  rfl
 ·obtain⟨p,l,ws,r,line,rfl,rw_,lw,hl,ll,lh,q⟩:=h;have l5:=Xl;have hu:=Zcp hr;refine⟨_,(Zi (Zv (i:=3) ZdE.nd rfl (Or.inr rfl) Zbq) (Zi (XQ PassesOwn.never rfl (Yy (pv 2)) (ZK (i:=4) ZdE.nd rfl (Or.inl rfl)) (Zo (ZcI hu (pv 3) (pv 4) Zmh rfl))) (Zo (Zw (ZM ZcM (by rfl) T.z_sorted Zbh (Za (Je ["row"] [("record",1),("over",3)] rfl (Yy (ZX Jg (hr.mono (by omega)) rfl ZD (Za (pv 0) Zj))) (by rfl) (by exact⟨rfl,⟨rfl,trivial⟩⟩) (by rfl) (by exact⟨⟨rfl,rfl,rfl⟩,⟨⟨rfl,rfl,rfl⟩,trivial⟩⟩) (fun _ _ _ _=>(ZK (i:=0) (show(nmY ["row"] [("record",1),("over",3)]).Nodup by decide+kernel) rfl (Or.inl rfl))) (fun _ _ _ _=>(JM (ZgY (ZX Zd2 (hr.mono (by omega)) rfl ZD (Za (pv 0) (Za (pv 1) (Za (pv 2) Zj))))))) (fun _ _ _ _=>(Zz (XD (K:=K) rfl) (pv 0) Zh (fun _ _=>rfl)))) Zj)))))), ?_⟩
  intro A hA;have nAl:l≠A:=Zf hl hA;refine⟨_,rfl,l,rfl,⟨_,SqL.of (Zn hA _ _ hl)⟩,Xm (xs:=line.map V.str) (fun i σ H'=>∃v4:Option V,σ=[some (.ref p),some (.str r),some (.ref l),some (.ref A),v4]/\(∃kvs,H' A=some (.dK kvs)/\kvs.length<=i/\∀z:Str,YB kvs (Sum.inr z)=if z∈line.take i then some (V.bl true) else none)/\∀b u,b≠A->H b=some u->H' b=some u) ?_ ?_ ?_ ?_⟩
  ·exact⟨none,rfl,⟨[],Zc,Nat.le_refl _,fun z=>rfl⟩,fun b u nb e=>by rw[Zm nb];exact e⟩
  ·rintro i σ H1 _ ⟨v4,rfl,_,fr⟩;exact SqL.of (fr _ _ nAl hl)
  ·rintro i x σ H1 hx ⟨v4,rfl,⟨kvs,hk,lk,vk⟩,fr⟩;have en:line[i]? =some ((line[i]?).getD Str.empty):=by
    rw[List.getElem?_map] at hx
    cases e:line[i]? with
    |none=>rw[e] at hx;cases hx
    |some n=>rfl
   generalize (line[i]?).getD Str.empty=n at en
   obtain rfl:V.str n=x:=by
    rw[List.getElem?_map,en] at hx
    exact Option.some.inj hx
   have hi:i<line.length:=(List.getElem?_eq_some_iff.mp en).1;have tk:line.take (i+1)=line.take i++[n]:=by rw[List.take_add_one,en];rfl
   rw[tk];refine⟨_,rfl,_,rfl,A,_,rfl,.inl ⟨kvs,Sum.inr n,hk,rfl,by omega,rfl⟩, ?_⟩;exact⟨_,rfl,⟨_,Zc,Nat.le_trans (ZaD _ _ _) (by omega),ZkM vk⟩,fun b u nb z=>by rw[Zm nb];exact fr b u nb z⟩
  ·rintro σ H1 ⟨v4,rfl,⟨kvs,hk,lk,vk⟩,fr⟩;rw[List.length_map] at lk
   rw[List.length_map,List.take_of_length_le (Nat.le_refl _)] at vk
   have s1:Zx H H1:=fun b u z=>fr b u (Zf z hA) z;obtain⟨ds0,hp,pr⟩:=rw_;refine⟨_,rfl,p,ws,rfl,⟨ds0,s1 _ _ hp,ZS s1 pr⟩,lw,fun S H2 hS s2 ⟨es,hs,prs⟩=>⟨S,rfl,⟨_,SqL.of hs⟩, ?_⟩⟩;have le:=Paired.length prs;have lst:(Yk ws).length<=1000:=Nat.le_trans (List.length_filter_le _ _) lw;have hk2:=s2 _ _ hk;refine XC es.length (fun j=>(((Yk ws)[j]?).map fun w=>if ZbA r line w=true then[V.str w.one] else[]).getD []) (by omega) (fun j=> ?_) (fun j H4 s4 lt=>⟨_,_,SqL.of (s4 _ _ hs),List.getElem?_eq_getElem (by rw[List.length_map];exact lt)⟩) (fun H4 s4=>⟨_,SqL.of (s4 _ _ hs),by rw[List.length_map];exact Nat.le_refl _⟩) (fun j y H4 H5 s4 lt yl RT RF rt rf=> ?_) fun D H3 hD s3 d3=> ?_
   ·cases(Yk ws)[j]? with
    |none=>exact Nat.zero_le 1
    |some w=>
     show(if _ then[V.str w.one] else[]).length<=1
     split
     ·exact Nat.le_refl 1
     ·exact Nat.zero_le 1
   ·obtain⟨rfl,yl⟩:=yl;obtain⟨d,rfl,ed⟩:=Xq (yl _ (SqL.of (s4 _ _ hs)));obtain⟨w,ew,row⟩:=Yq (ZS s4 prs) j d ed;obtain⟨hh,c,n,dd,rfl⟩:=ZbE (List.mem_filter.mp (List.mem_of_getElem? ew)).2;have ov:ZhD H5 A line:=⟨kvs,s4 _ _ hk2,by omega,vk⟩
    rw[ew] at rt rf
    refine⟨⟨rfl,rfl,trivial⟩,_,rfl,_,rfl,_,rfl,d,A,hh,n,c,dd,r,line,kvs,rfl,row,s4 _ _ hk2,ov.get,fun H6 s6=>⟨_,rfl, ?_⟩⟩;have row6:H6 d=some (.tup [.str "hold",.str hh,.str (onW c),.str n,.int dd]):=s6 _ _ row;exact YZ (fun z=>ixT rfl (SqT.of row6) rfl (rt _ _ (if_pos z) s6)) (fun z=>rf _ (if_neg z) s6)
   ·have e6:(List.range es.length).flatMap (fun j=>(((Yk ws)[j]?).map fun w=>if ZbA r line w=true then[V.str w.one] else[]).getD [])=(Yt ws r line).map V.str:=by
     rw[le,Jp (fun w=>if ZbA r line w=true then[V.str w.one] else[]) (Yk ws)];unfold Yt;generalize Yk ws=us
     induction us with
     |nil=>rfl
     |cons w us ih=>
      rw[List.flatMap_cons,ih];cases h:ZbA r line w with
      |true=>rw[if_pos rfl,List.filter_cons_of_pos h];rfl
      |false=>rw[if_neg Bool.false_ne_true,List.filter_cons_of_neg (by rw[h];exact Bool.false_ne_true)];rfl
    rw[e6] at d3
    refine⟨D,Yt ws r line,rfl,SqL.of d3,lh,fun zs pz sz D2 hD2=> ?_⟩;have s13:=s1.trans (s2.trans s3);exact q D2 zs _ (YK s13 hD2) (s13.trans (Zn hD2)) pz sz Zc
theorem Zm0:∀ys:List Za3,ys≠[]->∃y,Top ys y
 |[],h=>absurd rfl h
 |[y],_=>⟨y,List.mem_singleton_self _,fun z hz=>by
   have:z=y:=by simpa using hz
   rw[this];exact Zbt.irr _⟩
 |x::x2::ys,_=>by
  obtain⟨y,m,b⟩:=Zm0 (x2::ys) (by simp);cases h:Zif y x with
  |true=>
   refine⟨x,List.mem_cons_self ..,fun z hz=> ?_⟩;obtain rfl|hz:=List.mem_cons.mp hz
   ·exact Zbt.irr _
   ·cases k:Zif x z with
    |false=>rfl
    |true=>exact absurd (Zbt.tr _ _ _ h k) (by rw[b z hz];exact Bool.false_ne_true)
  |false=>
   refine⟨y,List.mem_cons_of_mem _ m,fun z hz=> ?_⟩;obtain rfl|hz:=List.mem_cons.mp hz
   ·exact h
   ·exact b z hz
theorem ZkR{ws:List Rw}{r:Str}(h:YM ws r=true):Yd ws r≠[]:=fun z=>by
 obtain⟨w,hw,e⟩:=List.any_eq_true.mp h;cases w with
 |put x s d=>
  have e:x=r:=of_decide_eq_true e;have m:((d,s):Za3)∈Yd ws r:=List.mem_filterMap.mpr ⟨_,hw,if_pos e⟩;rw[z] at m
  cases m
 |_=>cases e
theorem Zcx{ws:List Rw}{r:Str}{day:Int}{y:Za3}(h:y∈Yd (ZR ws day) r):y∈Yd ws r:=by
 obtain⟨w,hw,e⟩:=List.mem_filterMap.mp h;exact List.mem_filterMap.mpr ⟨w,(List.mem_filter.mp hw).1,e⟩
theorem Zno{ws:List Rw}{r:Str}{day:Int}{line:List Str}:(Yt (ZR ws day) r line).length<=(ws.filter Xn).length:=by
 have sub:((Yk (ZR ws day)).filter (ZbA r line)).length<=((ZR ws day).filter Xn).length:=by
  refine Nat.le_trans (List.length_filter_le _ _) ?_;unfold Yk;generalize YF (ZR ws day)=ls
  induction ZR ws day with
  |nil=>exact Nat.le_refl _
  |cons w us ih=>
   cases hs:JF ls w with
   |true=>
    obtain⟨hh,c,n,d,rfl⟩:=ZbE hs;rw[List.filter_cons_of_pos hs,List.filter_cons_of_pos (show Xn (.hold hh c n d)=true from rfl),List.length_cons,List.length_cons];omega
   |false=>
    rw[List.filter_cons_of_neg (by rw[hs];exact Bool.false_ne_true)]
    refine Nat.le_trans ih ?_
    by_cases h2:Xn w=true
    ·rw[List.filter_cons_of_pos h2,List.length_cons];omega
    ·rw[List.filter_cons_of_neg h2];exact Nat.le_refl _
 unfold Yt;rw[List.length_map];refine Nat.le_trans sub ?_;unfold ZR;rw[List.filter_filter];have:(ws.filter fun a=>Xn a&&decide (a.day<=day))=((ws.filter Xn).filter fun a=>decide (a.day<=day)):=by rw[List.filter_filter];congr 1;funext a;rw[Bool.and_comm]
 rw[this];exact List.length_filter_le _ _
theorem ZmA{cn ca cl ce:Addr}{H:Hp}{m:Addr}{t:Tr}(tm:Xa cn ca cl ce H t m):∃dx fs,H m=some (.ins (Zgi cn ca cl ce t) dx fs)/\fs.lookup (Str.ofString "due")=none:=by
 obtain⟨dx,fs,ii,lk⟩:=Zcw tm;obtain⟨n1,n2,n3,n4⟩:=Zmu "due" (.inl rfl);exact⟨dx,fs,ii,lk _ n1 n2 n3 n4⟩
theorem JB{cn ca cl ce:Addr}{H H':Hp}{p:Addr}{rs:List Sr}(s:Zx H H'):Zff cn ca cl ce H p rs->Zff cn ca cl ce H' p rs
 |⟨ds,h1,h2⟩=>⟨ds,s _ _ h1,Zbj s h2⟩
theorem Yj{H H':Hp}{p:Addr}{ws:List Rw}(s:Zx H H'):YG H p ws->YG H' p ws
 |⟨ds,h1,h2⟩=>⟨ds,s _ _ h1,ZS s h2⟩
theorem Zcy:ZC ["book","rows","record","day","counting","series","due","holds"] ["book","rows","record","day"] (Zu Zhp):=⟨rfl,rfl,rfl,by decide+kernel,rfl,by decide+kernel,by decide+kernel⟩
theorem Znp{f:Addr}{fd:FuncData}(F:Fun K "judged" "judged" Zhp f fd)(T:Txt K mg Zg Zd Ze Zb Zk)(Xy:Cal P w K mg base CX0 1 "counted" ["rows","day"] Zaq)(Zdg:Za2 P w K mg base CX0 13 "due" ["self","life"] (Zc8 Zg Zd Ze Zb 12) (fun C=>C=Zg\/C=Zd\/C=Ze\/C=Zb))(ZeB:Cal P w K mg base CX0 2 "holds_on" ["rows","record","line"] ZdA)(Zac:Cal P w K mg base CX0 1 "is_put" ["rows","record"] Zcv)(Zbk:Cal P w K mg base CX0 1 "life_of" ["rows","record"] ZcX)(ZfV:Cal P w K mg base CX0 1 "line_of" ["book","name"] (Zex Zg Zd Ze Zb))(ZeC:Cal P w K mg base CX0 2 "owner_of" ["book","name"] (Zdy Zg Zd Ze Zb))(JZ:Cal P w K mg base CX0 1 "series_of" ["rows","record"] Zbc)(Zbl:Cal P w K mg base CX0 2 "term_of" ["book","name"] (ZcW Zg Zd Ze Zb))(ZeD:Cal P w K mg base CX0 1 "word_for" ["due","holds","day"] ZdB):Yr P w K mg base CX0 14 f fd ["book","rows","record","day"] (Ze7 Zg Zd Ze Zb):=by
 refine F.ok Zcy (fun vs H Q E h=> ?_) (fun cdv A outer s H vs Q E hr h=> ?_)
 ·obtain⟨p,q',rs,ws,rec,day,rfl,_⟩:=h
  rfl
 ·obtain⟨p,q',rs,ws,rec,day,rfl,bat,bk,lr,rws,ok,q⟩:=h;have l5:=Xl;have nd:=ZhC bk;have br:=ZgP bk;refine⟨_,(Zi (Zv (i:=4) Zcy.nd rfl (Or.inl rfl) (ZX Xy (hr.mono (by omega)) rfl ZD (Za (pv 1) (Za (pv 3) Zj)))) (Zi (Ye (ZnI (ZgY (ZX Zac (hr.mono (by omega)) rfl ZD (Za (pv 4) (Za (pv 2) Zj))))) (Zo (Zw (YX (Za ZG (Za XN (Za XN (Za XN (Za (Yl Zj) Zj)))))))) ZF) (Zi (Zv (i:=5) Zcy.nd rfl (Or.inl rfl) (ZX JZ (hr.mono (by omega)) rfl ZD (Za (pv 4) (Za (pv 2) Zj)))) (Zi (Zv (i:=6) Zcy.nd rfl (Or.inl rfl) (JQ (ZX Zbl (hr.mono (by omega)) rfl ZD (Za (pv 0) (Za (pv 5) Zj))) Zdg (hr.mono (by omega)) ZD (Za (ZX Zbk (hr.mono (by omega)) rfl ZD (Za (pv 4) (Za (pv 2) Zj))) Zj))) (Zi (Zv (i:=7) Zcy.nd rfl (Or.inl rfl) (ZX ZeB (hr.mono (by omega)) rfl ZD (Za (pv 4) (Za (pv 2) (Za (ZX ZfV (hr.mono (by omega)) rfl ZD (Za (pv 0) (Za (pv 5) Zj))) Zj))))) (Zo (Zw (YX (Za (ZX ZeD (hr.mono (by omega)) rfl ZD (Za (pv 6) (Za (pv 7) (Za (pv 3) Zj)))) (Za (pv 5) (Za (ZX ZeC (hr.mono (by omega)) rfl ZD (Za (pv 0) (Za (pv 5) Zj))) (Za (pv 6) (Za (pv 7) Zj))))))))))))), ?_⟩
  refine⟨_,rfl,_,rfl,q',ws,day,rfl,rws,ok.len,fun C H1 hC s1 rc=> ?_⟩;have lc:(ZR ws day).length<=1000:=Nat.le_trans (List.length_filter_le _ _) ok.len;refine⟨_,rfl,_,rfl,C,_,rec,rfl,rc,lc,fun H2 s2=>⟨_,rfl, ?_⟩⟩;have s02:=s1.trans s2;cases ip:YM (ZR ws day) rec with
  |false=>
   refine Zbb ⟨Nat.zero_le _,fun L hL=>⟨show 5<=sizeLine from sl,fun a ha=> ?_⟩⟩;have s3:=Zn (o:=.lst []) hL;refine q a ZjD _ (YK (s02.trans s3) ha) (s02.trans (s3.trans (Zn ha))) ⟨L,Zc,Zn ha _ _ Zc⟩ (fun L' e=> ?_) ⟨fun _=>rfl,fun z=>by rw[ip] at z;cases z⟩
   rw[Zc] at e
   have e:HO.tup _=HO.tup _:=Option.some.inj e
   injection e with e
   have e:V.ref L=V.ref L':=by simpa [ZjD,oS,oV] using e
   injection e with e
   exact e▸YK s02 hL
  |true=>
   obtain⟨y,top⟩:=Zm0 _ (ZkR ip);have hy:=ok.ser rec y (Zcx top.1);have hy':∀m,some y.2=some m->m∈rs.reverse.map Sr.nm:=fun m hm=>by
    injection hm with hm
    rw[<-hm,List.map_reverse,List.mem_reverse];exact hy
   obtain⟨r0,hr0,ow,t0,_⟩:=ZhB (ZoU rs) rs.reverse (some y.2) br (fun r hr=>ZjK nd (List.mem_reverse.mp hr)) hy' (fun z=>nomatch z);obtain⟨t,ht⟩:=Option.isSome_iff_exists.mp t0;have ct:=((Ze8 bk r0 (List.mem_reverse.mp hr0)).tm t ht).2;have dp:=t.deep_cnt;have ll:=ZhA rs.reverse (some y.2);rw[List.length_reverse] at ll
   refine Xh ⟨_,rfl,_,rfl,C,_,rec,y,rfl,Yj s2 rc,lc,top,fun H3 s3=> ?_⟩;have s03:=s02.trans s3;refine⟨_,rfl,_,rfl,p,y.2,rs,r0,t,rfl,JB s03 bat,lr,ow,ht,fun m H4 s4 tm=> ?_⟩;obtain⟨dx,fs,ii,lk⟩:=ZmA tm;have s04:=s03.trans s4;refine⟨m,_,dx,fs,rfl,ii,Zez t,lk,_,rfl,_,rfl,C,_,rec,rfl,Yj (s2.trans (s3.trans s4)) rc,lc,fun L H5 hL s5 hl=> ?_⟩;refine⟨m,L,t,_,rfl,tm.same s5,by omega,rfl,.inl hl,fun H6 s6=> ?_⟩
   have s06:=s04.trans (s5.trans s6);have sC6:=s2.trans (s3.trans (s4.trans (s5.trans s6)));refine⟨_,rfl,_,rfl,_,rfl,_,rfl,p,y.2,rs,rfl,JB s06 bat,lr,fun L2 H7 hL2 s7 hl2=> ?_⟩;refine⟨C,L2,_,rec,_,rfl,Yj (sC6.trans s7) rc,lc,hl2,by omega,Nat.lt_of_le_of_lt Zno ok.held,fun Qh zs H8 hQ s8 pz sz hz=> ?_⟩;have s08:=s06.trans (s7.trans s8);refine⟨_,rfl,_,rfl,_,rfl,Qh,zs,_,day,rfl,hz,fun H9 s9=> ?_⟩;have s09:=s08.trans s9
   refine⟨_,rfl,_,rfl,_,rfl,p,y.2,rs,r0,rfl,JB s09 bat,lr,ow,fun H10 s10=> ?_⟩;refine⟨_,rfl,_,rfl,show 5<=sizeLine from sl,fun a ha=> ?_⟩;have s010:=s09.trans s10;have hz10:=s10 _ _ (s9 _ _ hz);refine q a ⟨Jy (t.due (Yg (ZR ws day) rec)) zs.length day,some y.2,some r0.nm,t.due (Yg (ZR ws day) rec),zs⟩ _ (YK s010 ha) (s010.trans (Zn ha)) ⟨Qh,Zc,Zn ha _ _ hz10⟩ (fun L' e=> ?_) ⟨fun z=>(by rw[ip] at z;cases z),fun _=>⟨y,r0,t,top,ow,ht,rfl,rfl,rfl,pz,sz,rfl⟩⟩
   rw[Zc] at e
   have e:HO.tup _=HO.tup _:=Option.some.inj e
   injection e with e
   have e:V.ref Qh=V.ref L':=by simpa [oS,oV] using e
   injection e with e
   exact e▸YK (s06.trans s7) hQ
theorem lvR{cn ca cl ce m:Addr}{n:Nat}{t:Tr}{σ:L2.St}{H:Hp}{Q:VK}{E:XK}(tm:Xa cn ca cl ce H t m)(o1:t.deep<n)(o2:t.cnt<=100)(k:∀p H',Zx H H'->H p=none->ZjC H' p t.lvs->Q (.ref p) H'):
  ∃a C dx fs,V.ref m=.ref a/\H a=some (.ins C dx fs)/\(C=cn\/C=ca\/C=cl\/C=ce)/\fs.lookup (Str.ofString "leaves")=none/\ZnU σ H fun vs H2=>JX cn ca cl ce n C (V.ref m::vs) H2 Q E:=by
 obtain⟨dx,fs,ii,lk⟩:=Zcw tm;obtain⟨n1,n2,n3,n4⟩:=Zmu "leaves" (.inr (.inl rfl));exact⟨m,_,dx,fs,rfl,ii,Zez t,lk _ n1 n2 n3 n4,m,t,rfl,tm,o1,o2,rfl,k⟩
theorem Zfk{α β:Type}{F:α->β->Prop}:∀{a c:List α} {b d:List β},Paired F a b->Paired F c d->Paired F (a++c) (b++d)
 |_,_,_,_,.nil,s=>s
 |_,_,_,_,.cons r t,s=> .cons r (Zfk t s)
theorem ZjC.same{H H':Hp}{p:Addr}{ls:List (Str×Int)}(s:Zx H H')(h:ZjC H p ls):ZjC H' p ls:=by
 obtain⟨ys,h1,h2⟩:=h;exact⟨ys,s _ _ h1,Paired.mapP h2 fun kd y ⟨q,e1,e2⟩=>⟨q,e1,s _ _ e2⟩⟩
theorem ZjC.app{H:Hp}{p:Addr}{ls ms:List (Str×Int)}{xs ys:List V}(hp:H p=none)(h1:Paired (fun(kd:Str×Int) y=>∃q,y=V.ref q/\H q=some (.tup [.str kd.1,.int kd.2])) ls xs)
  (h2:Paired (fun(kd:Str×Int) y=>∃q,y=V.ref q/\H q=some (.tup [.str kd.1,.int kd.2])) ms ys):ZjC (upd H p (.lst (xs++ys))) p (ls++ms):=
 ⟨_,Zc,Paired.mapP (Zfk h1 h2) fun kd y ⟨q,e1,e2⟩=>⟨q,e1,Zn hp _ _ e2⟩⟩
theorem Zgw:ZC ["self"] ["self"] (Zu Zbv):=⟨rfl,rfl,rfl,by decide+kernel,rfl,by decide+kernel,by decide+kernel⟩
theorem Zgx{f:Addr}{fd:FuncData}(F:Fun K "leaves" "Never.leaves" Zbv f fd)(T:Txt K mg Zg Zd Ze Zb Zk)(n:Nat):Yr P w K mg base CX0 (0+n+1+1) f fd ["self"] (JX Zg Zd Ze Zb (n+1) Zg):=by
 refine F.ok Zgw (fun vs H Q E h=> ?_) (fun cdv A outer s H vs Q E hr h=> ?_)
 ·obtain⟨a,t,rfl,_⟩:=h
  rfl
 ·obtain⟨a,t,rfl,ht,hd,hc,hC,q⟩:=h;refine⟨_,(Zo (Zw (Yl Zj))), ?_⟩;cases t with
  |never=>exact⟨Nat.zero_le _,fun p hp=>q p _ (Zn hp) hp ⟨[],Zc,.nil⟩⟩
  |after k d=>exact absurd hC.symm T.ne_Never_After
  |later x y=>exact absurd hC.symm T.ne_Never_Later
  |earlier x y=>exact absurd hC.symm T.ne_Never_Earlier
theorem Zgy:ZC ["self"] ["self"] (Zu Zbw):=⟨rfl,rfl,rfl,by decide+kernel,rfl,by decide+kernel,by decide+kernel⟩
theorem Zgz{f:Addr}{fd:FuncData}(F:Fun K "leaves" "After.leaves" Zbw f fd)(T:Txt K mg Zg Zd Ze Zb Zk)(n:Nat):Yr P w K mg base CX0 (0+n+1+1) f fd ["self"] (JX Zg Zd Ze Zb (n+1) Zd):=by
 refine F.ok Zgy (fun vs H Q E h=> ?_) (fun cdv A outer s H vs Q E hr h=> ?_)
 ·obtain⟨a,t,rfl,_⟩:=h
  rfl
 ·obtain⟨a,t,rfl,ht,hd,hc,hC,q⟩:=h;have l5:=Xl;cases t with
  |never=>exact absurd hC T.ne_Never_After
  |later x y=>exact absurd hC.symm T.ne_After_Later
  |earlier x y=>exact absurd hC.symm T.ne_After_Earlier
  |after k d=>
   obtain⟨dx,ha⟩:=ht;refine⟨_,(Zo (Zw (Yl (Za (YX (Za (ZW (pv 0) rfl) (Za (ZW (pv 0) rfl) Zj))) Zj)))), ?_⟩;refine⟨_,rfl,a,_,dx,_,_,rfl,ha,T.cl_After,T.n_After_kind,ZjE k d,_,rfl,a,_,dx,_,_,rfl,ha,T.cl_After,T.n_After_days,Zms k d,(show 2<=sizeLine from sl),fun t ht=>⟨show 1<=sizeLine from sl,fun p hp=> ?_⟩⟩;have hp0:H p=none:=(Zn ht).free hp;exact q p _ ((Zn ht).trans (Zn hp)) hp0 ⟨_,Zc,.cons ⟨t,rfl,Zn hp _ _ Zc⟩ .nil⟩
theorem ZhE:ZC ["self"] ["self"] (Zu Zay):=⟨rfl,rfl,rfl,by decide+kernel,rfl,by decide+kernel,by decide+kernel⟩
theorem ZdF{f:Addr}{fd:FuncData}(F:Fun K "leaves" "Pair.leaves" Zay f fd)(T:Txt K mg Zg Zd Ze Zb Zk)(n:Nat){C:Addr}(hC:C=Ze\/C=Zb)(ZaK:Za2 P w K mg base CX0 (0+n+1) "leaves" ["self"] (JX Zg Zd Ze Zb n) (fun C=>C=Zg\/C=Zd\/C=Ze\/C=Zb)):Yr P w K mg base CX0 (0+n+1+1) f fd ["self"] (JX Zg Zd Ze Zb (n+1) C):=by
 refine F.ok ZhE (fun vs H Q E h=> ?_) (fun cdv A outer s H vs Q E hr h=> ?_)
 ·obtain⟨a,t,rfl,_⟩:=h
  rfl
 ·obtain⟨a,t,rfl,ht,hd,hc,hcls,q⟩:=h;have l5:=Xl;cases t with
  |never=>
   rcases hC with h|h
   ·exact absurd (hcls.trans h) T.ne_Never_Later
   ·exact absurd (hcls.trans h) T.ne_Never_Earlier
  |after k d=>
   rcases hC with h|h
   ·exact absurd (hcls.trans h) T.ne_After_Later
   ·exact absurd (hcls.trans h) T.ne_After_Earlier
  |later x y=>
   obtain⟨dx,p1,p2,ha,t1,t2⟩:=ht;have hdeep:max x.deep y.deep+1<n+1:=hd;have hcnt:x.cnt+y.cnt<=100:=hc;have lx:=x.lvs_cnt;have ly:=y.lvs_cnt;refine⟨_,(Zo (Zw (Zr ZcK (JN (ZW (pv 0) rfl) ZaK (hr.mono (by omega)) ZD) (JN (ZW (pv 0) rfl) ZaK (hr.mono (by omega)) ZD)))), ?_⟩;refine⟨_,rfl,a,_,dx,_,_,rfl,ha,T.cl_Later,T.n_Later_one,ZjF p1 p2,lvR t1 (by omega) (by omega) fun L1 H1 s1 hL1 lv1=> ?_⟩;refine⟨_,rfl,a,_,dx,_,_,rfl,s1 _ _ ha,T.cl_Later,T.n_Later_other,Zfg p1 p2,lvR (t2.same s1) (by omega) (by omega) fun L2 H2 s2 hL2 lv2=> ?_⟩
   obtain⟨xs,e1,e2⟩:=lv1.same s2;obtain⟨ys,g1,g2⟩:=lv2;have z1:=Paired.length e2;have z2:=Paired.length g2;refine⟨L1,L2,xs,ys,rfl,rfl,SqL.of e1,SqL.of g1,by omega,fun p hp=> ?_⟩;exact q p _ (s1.trans (s2.trans (Zn hp))) ((s1.trans s2).free hp) (ZjC.app hp e2 g2)
  |earlier x y=>
   obtain⟨dx,p1,p2,ha,t1,t2⟩:=ht;have hdeep:max x.deep y.deep+1<n+1:=hd;have hcnt:x.cnt+y.cnt<=100:=hc;have lx:=x.lvs_cnt;have ly:=y.lvs_cnt;refine⟨_,(Zo (Zw (Zr ZcK (JN (ZW (pv 0) rfl) ZaK (hr.mono (by omega)) ZD) (JN (ZW (pv 0) rfl) ZaK (hr.mono (by omega)) ZD)))), ?_⟩;refine⟨_,rfl,a,_,dx,_,_,rfl,ha,T.cl_Earlier,T.n_Earlier_one,ZjF p1 p2,lvR t1 (by omega) (by omega) fun L1 H1 s1 hL1 lv1=> ?_⟩;refine⟨_,rfl,a,_,dx,_,_,rfl,s1 _ _ ha,T.cl_Earlier,T.n_Earlier_other,Zfg p1 p2,lvR (t2.same s1) (by omega) (by omega) fun L2 H2 s2 hL2 lv2=> ?_⟩
   obtain⟨xs,e1,e2⟩:=lv1.same s2;obtain⟨ys,g1,g2⟩:=lv2;have z1:=Paired.length e2;have z2:=Paired.length g2;refine⟨L1,L2,xs,ys,rfl,rfl,SqL.of e1,SqL.of g1,by omega,fun p hp=> ?_⟩;exact q p _ (s1.trans (s2.trans (Zn hp))) ((s1.trans s2).free hp) (ZjC.app hp e2 g2)
theorem ZbF{l:Tb}:∀{t:Tr} {D:Int},t.due l=some D->∃kd∈t.lvs,(lk l kd.1).map (· +kd.2)=some D
 | .never,_,h=>nomatch h
 | .after k d,_,h=>⟨(k,d),List.mem_singleton_self _,h⟩
 | .later x y,D,h=>by
  have h:ZjB (x.due l) (y.due l)=some D:=h;cases ex:x.due l with
  |none=>rw[ex] at h;cases h
  |some a=>
   cases ey:y.due l with
   |none=>rw[ex,ey] at h;cases h
   |some b=>
    rw[ex,ey] at h
    have h:(if b>a then b else a)=D:=Option.some.inj h
    split at h
    ·obtain⟨kd,m,e⟩:=ZbF ey;exact⟨kd,List.mem_append_right _ m,h▸e⟩
    ·obtain⟨kd,m,e⟩:=ZbF ex;exact⟨kd,List.mem_append_left _ m,h▸e⟩
 | .earlier x y,D,h=>by
  have h:Zfd (x.due l) (y.due l)=some D:=h;cases ex:x.due l with
  |none=>
   rw[ex] at h
   obtain⟨kd,m,e⟩:=ZbF (show y.due l=some D from h);exact⟨kd,List.mem_append_right _ m,e⟩
  |some a=>
   cases ey:y.due l with
   |none=>
    rw[ex,ey] at h
    obtain⟨kd,m,e⟩:=ZbF ex;exact⟨kd,List.mem_append_left _ m,e.trans h⟩
   |some b=>
    rw[ex,ey] at h
    have h:(if b<a then b else a)=D:=Option.some.inj h
    split at h
    ·obtain⟨kd,m,e⟩:=ZbF ey;exact⟨kd,List.mem_append_right _ m,h▸e⟩
    ·obtain⟨kd,m,e⟩:=ZbF ex;exact⟨kd,List.mem_append_left _ m,h▸e⟩
theorem ZjM{l:Tb}{t:Tr}{D:Int}(h:t.due l=some D):Zbd l D t.lvs≠[]:=fun z=>by
 obtain⟨kd,m,e⟩:=ZbF h;have:kd∈Zbd l D t.lvs:=List.mem_filter.mpr ⟨m,decide_eq_true e⟩;rw[z] at this
 cases this
def LfH(H:Hp)(kd:Lf)(y:V):Prop:=∃q,y=V.ref q/\H q=some (.tup [.str kd.1,.int kd.2])
theorem ZhF{H H':Hp}(s:Zx H H'):∀{ls:List Lf} {ys:List V},Paired (LfH H) ls ys->Paired (LfH H') ls ys
 |_,_,.nil=> .nil
 |_,_,.cons ⟨q,e,h⟩ t=> .cons ⟨q,e,s _ _ h⟩ (ZhF s t)
theorem Zp0{K:PySem.W.Frag}{H:Hp}:∀{ls:List Lf} {ys:List V},Paired (LfH H) ls ys->Paired (Zig K H) ls ys
 |_,_,.nil=> .nil
 |_,_,.cons ⟨q,e,h⟩ t=> .cons ⟨q,e,SqT.of h⟩ (Zp0 t)
theorem ZiV{H:Hp}(P:Lf->Bool):∀{ls:List Lf} {ys:List V},Paired (LfH H) ls ys->Paired (LfH H) (ls.filter P) ((ls.zip ys).flatMap fun z=>if P z.1=true then[z.2] else[])
 |_,_,.nil=> .nil
 |_,_,.cons (a:=a) (b:=w) h t=>by
  have c:=ZiV P t;rw[List.zip_cons_cons,List.flatMap_cons]
  by_cases hp:P a=true
  ·rw[List.filter_cons_of_pos hp,if_pos hp];exact .cons h c
  ·rw[List.filter_cons_of_neg hp,if_neg hp];exact c
theorem Zro{P:Lf->Bool}{o:Option (Lf×V)}:((o.map fun z=>if P z.1=true then[z.2] else[]).getD []).length<=1:=by
 cases o with
 |none=>exact Nat.zero_le 1
 |some z=>
  show(if _ then[z.2] else[]).length<=1
  by_cases h:P z.1=true
  ·rw[if_pos h];exact Nat.le_refl 1
  ·rw[if_neg h];exact Nat.zero_le 1
theorem Zkx{H:Hp}:∀{ls:List Lf} {ys:List V},Paired (LfH H) ls ys->∀(j:Nat) (y:V),ys[j]? =some y->∃kd q,(ls.zip ys)[j]? =some (kd,y)/\y=.ref q/\H q=some (.tup [.str kd.1,.int kd.2])
 |_,_,.nil,j,y,h=>by simp at h
 |_,_,.cons (a:=kd) (b:=v) ⟨q,e,r⟩ t,0,y,h=>by
  have h:v=y:=by simpa using h
  subst h;exact⟨kd,q,rfl,e,r⟩
 |_,_,.cons _ t,j+1,y,h=>by
  obtain⟨kd,q,e,z⟩:=Zkx t j y (by simpa using h);exact⟨kd,q,by simpa using e,z⟩
theorem ZkS{l:Tb}{D d:Int}{kd:Lf}(h:lk l kd.1=some d):JP l D kd=decide (V.int (d+kd.2)=V.int D):=by
 unfold JP;rw[h];refine decide_eq_decide.mpr ⟨fun z=>congrArg V.int (Option.some.inj z),fun z=> ?_⟩
 injection z with z
 exact congrArg some z
theorem Zp1{l:Tb}{D:Int}{kd:Lf}(h:lk l kd.1=none):JP l D kd=false:=by
 unfold JP;rw[h]
 rfl
theorem Zat:ZC ["book","rows","record","day","counting","life","term","due","reached","first"] ["book","rows","record","day"] (Zu Zhq):=⟨rfl,rfl,rfl,by decide+kernel,rfl,by decide+kernel,by decide+kernel⟩
theorem Znq{f:Addr}{fd:FuncData}(F:Fun K "reason" "reason" Zhq f fd)(T:Txt K mg Zg Zd Ze Zb Zk)(Xy:Cal P w K mg base CX0 1 "counted" ["rows","day"] Zaq)(Zdg:Za2 P w K mg base CX0 13 "due" ["self","life"] (Zc8 Zg Zd Ze Zb 12) (fun C=>C=Zg\/C=Zd\/C=Ze\/C=Zb))(ZaK:Za2 P w K mg base CX0 13 "leaves" ["self"] (JX Zg Zd Ze Zb 12) (fun C=>C=Zg\/C=Zd\/C=Ze\/C=Zb))(Zac:Cal P w K mg base CX0 1 "is_put" ["rows","record"] Zcv)(Zbk:Cal P w K mg base CX0 1 "life_of" ["rows","record"] ZcX)(JZ:Cal P w K mg base CX0 1 "series_of" ["rows","record"] Zbc)(Zbl:Cal P w K mg base CX0 2 "term_of" ["book","name"] (ZcW Zg Zd Ze Zb)):Yr P w K mg base CX0 14 f fd ["book","rows","record","day"] (ZfQ Zg Zd Ze Zb):=by
 refine F.ok Zat (fun vs H Q E h=> ?_) (fun cdv A outer s H vs Q E hr h=> ?_)
 ·obtain⟨p,q',rs,ws,rec,day,rfl,_⟩:=h
  rfl
 ·obtain⟨p,q',rs,ws,rec,day,rfl,bat,bk,lr,rws,ok,q⟩:=h;have l5:=Xl;have hu:=Zcp hr;have hu3:=ZlF hr;have nd:=ZhC bk;have br:=ZgP bk;refine⟨_,(Zi (Zv (i:=4) Zat.nd rfl (Or.inl rfl) (ZX Xy (hr.mono (by omega)) rfl ZD (Za (pv 1) (Za (pv 3) Zj)))) (Zi (Ye (ZnI (ZgY (ZX Zac (hr.mono (by omega)) rfl ZD (Za (pv 4) (Za (pv 2) Zj))))) (Zo (Zw XN)) ZF) (Zi (Zv (i:=5) Zat.nd rfl (Or.inr rfl) (ZX Zbk (hr.mono (by omega)) rfl ZD (Za (pv 4) (Za (pv 2) Zj)))) (Zi (Zv (i:=6) Zat.nd rfl (Or.inl rfl) (ZX Zbl (hr.mono (by omega)) rfl ZD (Za (pv 0) (Za (ZX JZ (hr.mono (by omega)) rfl ZD (Za (pv 4) (Za (pv 2) Zj))) Zj)))) (Zi (Zv (i:=7) Zat.nd rfl (Or.inr rfl) (JQ (pv 6) Zdg (hr.mono (by omega)) ZD (Za (pv 5) Zj))) (Zi (Ye (Zt Zem (pv 7) XN (Zy _)) (Zo (Zw XN)) ZF) (Zi (Zjo (i:=8) ["leaf"] [("life",5),("due",7)] Zat.nd rfl (Or.inl rfl) rfl (Yy (JN (pv 6) ZaK (hr.mono (by omega)) ZD)) (by rfl) (by exact⟨rfl,⟨rfl,trivial⟩⟩) (by rfl) (by exact⟨⟨rfl,rfl,rfl⟩,⟨⟨rfl,rfl,rfl⟩,trivial⟩⟩) (fun _ _ _ _=>(ZK (i:=0) (show(nmY ["leaf"] [("life",5),("due",7)]).Nodup by decide+kernel) rfl (Or.inl rfl))) (fun _ _ _ _=>(JM (PW.pt (Za4 (ZfB (Zlu hu (Zz (XD (K:=K) rfl) (pv 0) Zh (fun _ _=>rfl)) (pv 1))) (Jl (Zt Yo (Zr YW (Zba hu (pv 1) (Zz (XD (K:=K) rfl) (pv 0) Zh (fun _ _=>rfl)) (fun _ _=>rfl)) (Zz (XD (K:=K) rfl) (pv 0) Zh (fun _ _=>rfl))) (pv 2) (Zy _))))))) (fun _ _ _ _=>(pv 0))) (Zi (Zv (i:=9) Zat.nd rfl (Or.inl rfl) (ZM (Zng rfl hu3) (by rfl) T.z_min Zo7 (Za (pv 8) Zj))) (Zo (Zw (YX (Za (Zz ZJ (pv 9) Zh (fun _ _=>rfl)) (Za (Zba hu (pv 5) (Zz ZJ (pv 9) Zh (fun _ _=>rfl)) (fun _ _=>rfl)) (Za (Zz ZJ (pv 9) Zh (fun _ _=>rfl)) Zj)))))))))))))), ?_⟩
  refine⟨_,rfl,_,rfl,q',ws,day,rfl,rws,ok.len,fun C H1 hC s1 rc=> ?_⟩;have lc:(ZR ws day).length<=1000:=Nat.le_trans (List.length_filter_le _ _) ok.len;refine⟨_,rfl,_,rfl,C,_,rec,rfl,rc,lc,fun H2 s2=>⟨_,rfl, ?_⟩⟩;have s02:=s1.trans s2;cases ip:YM (ZR ws day) rec with
  |false=>exact Zbb (q _ _ s02 ⟨fun _=>rfl,fun z=>by rw[ip] at z;cases z⟩)
  |true=>
   obtain⟨y,top⟩:=Zm0 _ (ZkR ip);have hy:=ok.ser rec y (Zcx top.1);have hy':∀m,some y.2=some m->m∈rs.reverse.map Sr.nm:=fun m hm=>by
    injection hm with hm
    rw[<-hm,List.map_reverse,List.mem_reverse];exact hy
   obtain⟨r0,hr0,ow,t0,_⟩:=ZhB (ZoU rs) rs.reverse (some y.2) br (fun r hr=>ZjK nd (List.mem_reverse.mp hr)) hy' (fun z=>nomatch z);obtain⟨t,ht⟩:=Option.isSome_iff_exists.mp t0;have ct:=((Ze8 bk r0 (List.mem_reverse.mp hr0)).tm t ht).2;have dp:=t.deep_cnt;refine Xh ⟨_,rfl,_,rfl,C,_,rec,rfl,Yj s2 rc,lc,fun L H3 hL s3 hl=> ?_⟩;refine⟨_,rfl,_,rfl,_,rfl,C,_,rec,y,rfl,Yj (s2.trans s3) rc,lc,top,fun H4 s4=> ?_⟩
   have s04:=s02.trans (s3.trans s4);refine⟨p,y.2,rs,r0,t,rfl,JB s04 bat,lr,ow,ht,fun m H5 s5 tm=> ?_⟩;obtain⟨dx,fs,ii,lk0⟩:=ZmA tm;have hl5:=s5 _ _ (s4 _ _ hl);refine⟨_,rfl,m,_,dx,fs,rfl,ii,Zez t,lk0,_,rfl,m,L,t,_,rfl,tm,by omega,rfl,.inl hl5,fun H6 s6=> ?_⟩;have s06:=s04.trans (s5.trans s6);have hl6:=s6 _ _ hl5;generalize hlf:Yg (ZR ws day) rec=l at hl6⊢
   cases hd:t.due l with
   |none=>
    refine⟨_,rfl,rfl,_,rfl,Zfa rfl (q _ _ s06 ⟨fun _=>rfl,fun _=>⟨y,r0,t,top,ow,ht,fun _=>rfl,fun D e=> ?_⟩⟩)⟩;rw[hlf,hd] at e
    cases e
   |some D=>
    refine⟨_,rfl,rfl,_,rfl,JC (fun z=>nomatch z) ?_⟩;refine⟨_,rfl,lvR (tm.same s6) (by omega) (by omega) fun Lv H7 s7 hLv lv=> ?_⟩;obtain⟨ys,hv,pv⟩:=lv;have pv:Paired (LfH H7) t.lvs ys:=pv;have lvc:=t.lvs_cnt;have le:=Paired.length pv;have lz:(t.lvs.zip ys).length=ys.length:=by rw[List.length_zip];omega
    refine⟨Lv,rfl,⟨_,SqL.of hv⟩,XC (t.lvs.zip ys).length (fun j=>(((t.lvs.zip ys)[j]?).map fun z=>if JP l D z.1=true then[z.2] else[]).getD []) (by omega) (fun j=>Zro) (fun j H2 s2 lt=>⟨_,_,SqL.of (s2 _ _ hv),List.getElem?_eq_getElem (by omega)⟩) (fun H2 s2=>⟨_,SqL.of (s2 _ _ hv),by omega⟩) (fun j x H8 H9 s8 lt yl RT RF rt rf=> ?_) fun B H8 hB s8 d8=> ?_⟩
    ·obtain⟨rfl,yl⟩:=yl;obtain⟨kd,qa,ez,rfl,row⟩:=Zkx (ZhF s8 pv) j x (yl _ (SqL.of (s8 _ _ hv)));rw[ez] at rt rf
     have rt:∀v H6,(if JP l D kd=true then[V.ref qa] else[])=[v]->_:=rt;have rf:∀H5,(if JP l D kd=true then[V.ref qa] else[])=[]->_:=rf;have hl9:=s8 _ _ (s7 _ _ hl6);have dg:=Zhy (.inl hl9) kd.1;refine⟨⟨rfl,rfl,trivial⟩,ixT rfl (SqT.of row) rfl ⟨_,rfl,L,_,rfl,dg,_,rfl, ?_⟩⟩;rw[Zhz];cases ev:lk l kd.1 with
     |none=>exact Xh (rf _ (if_neg (by rw[Zp1 ev];exact Bool.false_ne_true)) (Zx.refl _))
     |some d=>
      rw[ev] at dg
      refine Zbb ⟨_,rfl,ixT rfl (SqT.of row) rfl ⟨L,_,rfl,dg,ixT rfl (SqT.of row) rfl ⟨_,_,rfl,rfl,_,rfl,rfl,_,rfl, ?_⟩⟩⟩;refine YZ (fun z=>⟨_,rfl,rt _ _ (if_pos (by rw[ZkS ev];exact z)) (Zx.refl _)⟩) (fun z=>rf _ (if_neg (by rw[ZkS ev];exact z)) (Zx.refl _))
    ·rw[Jp (fun z:Lf×V=>if JP l D z.1=true then[z.2] else[]) (t.lvs.zip ys)] at d8
     have pf:=ZiV (JP l D) (ZhF s8 pv);generalize hzs:((t.lvs.zip ys).flatMap fun z=>if JP l D z.1=true then[z.2] else[])=zs at d8 pf
     obtain⟨v0,zs',rfl⟩:∃v0 zs',zs=v0::zs':=by
      cases zs with
      |nil=>exact absurd (List.eq_nil_of_length_eq_zero (Paired.length pf)) (ZjM hd)
      |cons v0 us=>exact⟨v0,us,rfl⟩
     refine⟨_,rfl,B,v0,zs',_,rfl,SqL.of d8,Zp0 pf,fun v kd mem sp best=> ?_⟩;obtain⟨pv2,rfl,hv2⟩:=sp;have hl8:=s8 _ _ (s7 _ _ hl6);have cm:=of_decide_eq_true (List.mem_filter.mp mem).2;obtain⟨d,ev⟩:∃d,lk l kd.1=some d:=by
      cases e:lk l kd.1 with
      |none=>rw[e] at cm;cases cm
      |some d=>exact⟨d,rfl⟩
     have dg:=Zhy (.inl hl8) kd.1;rw[ev] at dg
     refine(ixT rfl hv2 rfl ⟨_,rfl,ixT rfl hv2 rfl ⟨L,_,rfl,dg,ixT rfl hv2 rfl ⟨show 3<=sizeLine from sl,fun a ha=> ?_⟩⟩⟩);refine q _ _ (s06.trans (s7.trans (s8.trans (Zn ha)))) ⟨fun z=>(by rw[ip] at z;cases z),fun _=>⟨y,r0,t,top,ow,ht,fun e=> ?_,fun D' e=> ?_⟩⟩
     ·rw[hlf,hd] at e
      cases e
     ·rw[hlf] at e⊢
      obtain rfl:D=D':=by rw[hd] at e;injection e
      exact⟨a,kd.1,d,kd.2,rfl,Zc,ev,mem,best⟩
theorem Zfl(b t o h r k w:Addr):(fH b t o h r k w).lookup ("book":Str)=some (.ref b):=by
 unfold fH;rw[Zq,if_neg (by decide+kernel),Zq,if_neg (by decide+kernel),Zq,if_neg (by decide+kernel),Zq,if_neg (by decide+kernel),Zq,if_neg (by decide+kernel),Zq,if_neg (by decide+kernel),Zq,if_pos rfl]
theorem ZmB(b t o h r k w:Addr):(fH b t o h r k w).lookup ("told":Str)=some (.ref t):=by
 unfold fH;rw[Zq,if_neg (by decide+kernel),Zq,if_neg (by decide+kernel),Zq,if_neg (by decide+kernel),Zq,if_neg (by decide+kernel),Zq,if_neg (by decide+kernel),Zq,if_pos rfl]
theorem ZhG(b t o h r k w:Addr):(fH b t o h r k w).lookup ("own":Str)=some (.ref o):=by
 unfold fH;rw[Zq,if_neg (by decide+kernel),Zq,if_neg (by decide+kernel),Zq,if_neg (by decide+kernel),Zq,if_neg (by decide+kernel),Zq,if_pos rfl]
theorem ZbU(b t o h r k w:Addr):(fH b t o h r k w).lookup ("holdings":Str)=some (.ref h):=by
 unfold fH;rw[Zq,if_neg (by decide+kernel),Zq,if_neg (by decide+kernel),Zq,if_neg (by decide+kernel),Zq,if_pos rfl]
theorem ZbV(b t o h r k w:Addr):(fH b t o h r k w).lookup ("run_days":Str)=some (.ref r):=by
 unfold fH;rw[Zq,if_neg (by decide+kernel),Zq,if_neg (by decide+kernel),Zq,if_pos rfl]
theorem ZdG(b t o h r k w:Addr):(fH b t o h r k w).lookup ("taken":Str)=some (.ref k):=by
 unfold fH;rw[Zq,if_neg (by decide+kernel),Zq,if_pos rfl]
theorem Zad(b t o h r k w:Addr):(fH b t o h r k w).lookup ("words":Str)=some (.ref w):=by
 unfold fH;rw[Zq,if_pos rfl]
theorem Jh{H H':Hp}(s:∀b xs,H b=some (.tup xs)->H' b=some (.tup xs)):∀{gs:List Gn} {kvs:List (Key×V)},Paired (ZfR H) gs kvs->Paired (ZfR H') gs kvs
 |_,_,.nil=> .nil
 |_,_,.cons ⟨p,e,h⟩ t=> .cons ⟨p,e,s _ _ h⟩ (Jh s t)
theorem ZbG{H:Hp}{x y:Addr}{o u:HO}(hx:∃z,H x=some z)(hy:H y=none):x≠y/\upd (upd H y o) x u y=some o/\(∀c v,c≠x->H c=some v->upd (upd H y o) x u c=some v):=by
 obtain⟨z,hx⟩:=hx;have ne:x≠y:=Zf hx hy;refine⟨ne,by rw[Zm (Ne.symm ne),Zc],fun c v nc e=> ?_⟩;rw[Zm nc,Zm (Zf e hy)];exact e
theorem Zim:ZC ["self","book"] ["self","book"] (Zu ZcS):=⟨rfl,rfl,rfl,by decide+kernel,rfl,by decide+kernel,by decide+kernel⟩
theorem Zin{f:Addr}{fd:FuncData}(F:Fun K "__init__" "House.__init__" ZcS f fd)(T:Txt K mg Zg Zd Ze Zb Zk){C:Addr}(cl:Cls K C)(n_book:YD K C "book")(n_told:YD K C "told")(n_own:YD K C "own")(n_holdings:YD K C "holdings")(n_run_days:YD K C "run_days")(n_taken:YD K C "taken")(n_words:YD K C "words"):Yr P w K mg base CX0 1 f fd ["self","book"] (Zcb C):=by
 refine F.ok Zim (fun vs H Q E h=> ?_) (fun cdv A outer s H vs Q E hr h=> ?_)
 ·obtain⟨x,dx,p,ds,rfl,_⟩:=h
  rfl
 ·obtain⟨x,dx,p,ds,rfl,hx,hp,q⟩:=h;refine⟨_,(Zi (Zbo (pv 0) (JV ZeZ (by rfl) T.z_list Zjq (Za (pv 1) Zj)) rfl) (Zi (Zbo (pv 0) (Yl Zj) rfl) (Zi (Zbo (pv 0) Zbq rfl) (Zi (Zbo (pv 0) (Yl Zj) rfl) (Zi (Zbo (pv 0) (Yl Zj) rfl) (Zi (Zbo (pv 0) Zbq rfl) (Zo (Zbo (pv 0) Zbq rfl)))))))), ?_⟩;refine⟨_,rfl,p,_,rfl,.inl (SqL.of hp),fun b hb=> ?_⟩;have nb:=Zf hx hb;refine⟨_,rfl,x,C,dx,_,rfl,by rw[Zm nb];exact hx,cl,n_book,(by show 0<1000;decide), ?_⟩
  obtain⟨_,kb,f1⟩:=ZbG (o:=.lst ds) (u:=.ins C dx (ZL "book" (.ref b) [])) ⟨_,hx⟩ hb;have x1:upd (upd H b (.lst ds)) x (.ins C dx (ZL "book" (.ref b) [])) x=some (.ins C dx (ZL "book" (.ref b) [])):=Zc;generalize upd (upd H b (.lst ds)) x (.ins C dx (ZL "book" (.ref b) []))=H1 at kb f1 x1
  refine⟨Nat.zero_le _,fun t ht=>⟨_,rfl,x,C,dx,_,rfl,by rw[Zm (Zf x1 ht)];exact x1,cl,n_told,(by show 1<1000;decide), ?_⟩⟩
  obtain⟨nt,kt,f2⟩:=ZbG (o:=.lst []) (u:=.ins C dx (ZL "told" (.ref t) (ZL "book" (.ref b) []))) ⟨_,x1⟩ ht;have x2:upd (upd H1 t (.lst [])) x (.ins C dx (ZL "told" (.ref t) (ZL "book" (.ref b) []))) x=some (.ins C dx (ZL "told" (.ref t) (ZL "book" (.ref b) []))):=Zc;generalize upd (upd H1 t (.lst [])) x (.ins C dx (ZL "told" (.ref t) (ZL "book" (.ref b) [])))=H2 at kt f2 x2
  refine(fun o ho=>⟨_,rfl,x,C,dx,_,rfl,by rw[Zm (Zf x2 ho)];exact x2,cl,n_own,(by show 2<1000;decide), ?_⟩)
  obtain⟨no,ko,f3⟩:=ZbG (o:=.dK []) (u:=.ins C dx (ZL "own" (.ref o) (ZL "told" (.ref t) (ZL "book" (.ref b) [])))) ⟨_,x2⟩ ho;have x3:upd (upd H2 o (.dK [])) x (.ins C dx (ZL "own" (.ref o) (ZL "told" (.ref t) (ZL "book" (.ref b) [])))) x=some (.ins C dx (ZL "own" (.ref o) (ZL "told" (.ref t) (ZL "book" (.ref b) [])))):=Zc;generalize upd (upd H2 o (.dK [])) x (.ins C dx (ZL "own" (.ref o) (ZL "told" (.ref t) (ZL "book" (.ref b) []))))=H3 at ko f3 x3
  refine⟨Nat.zero_le _,fun h hh=>⟨_,rfl,x,C,dx,_,rfl,by rw[Zm (Zf x3 hh)];exact x3,cl,n_holdings,(by show 3<1000;decide), ?_⟩⟩
  obtain⟨nh,kh,f4⟩:=ZbG (o:=.lst []) (u:=.ins C dx (ZL "holdings" (.ref h) (ZL "own" (.ref o) (ZL "told" (.ref t) (ZL "book" (.ref b) []))))) ⟨_,x3⟩ hh;have x4:upd (upd H3 h (.lst [])) x (.ins C dx (ZL "holdings" (.ref h) (ZL "own" (.ref o) (ZL "told" (.ref t) (ZL "book" (.ref b) []))))) x=some (.ins C dx (ZL "holdings" (.ref h) (ZL "own" (.ref o) (ZL "told" (.ref t) (ZL "book" (.ref b) []))))):=Zc
  generalize upd (upd H3 h (.lst [])) x (.ins C dx (ZL "holdings" (.ref h) (ZL "own" (.ref o) (ZL "told" (.ref t) (ZL "book" (.ref b) [])))))=H4 at kh f4 x4
  refine⟨Nat.zero_le _,fun r hr2=>⟨_,rfl,x,C,dx,_,rfl,by rw[Zm (Zf x4 hr2)];exact x4,cl,n_run_days,(by show 4<1000;decide), ?_⟩⟩
  obtain⟨nr,kr,f5⟩:=ZbG (o:=.lst []) (u:=.ins C dx (ZL "run_days" (.ref r) (ZL "holdings" (.ref h) (ZL "own" (.ref o) (ZL "told" (.ref t) (ZL "book" (.ref b) [])))))) ⟨_,x4⟩ hr2;have x5:upd (upd H4 r (.lst [])) x (.ins C dx (ZL "run_days" (.ref r) (ZL "holdings" (.ref h) (ZL "own" (.ref o) (ZL "told" (.ref t) (ZL "book" (.ref b) [])))))) x=some (.ins C dx (ZL "run_days" (.ref r) (ZL "holdings" (.ref h) (ZL "own" (.ref o) (ZL "told" (.ref t) (ZL "book" (.ref b) [])))))):=Zc
  generalize upd (upd H4 r (.lst [])) x (.ins C dx (ZL "run_days" (.ref r) (ZL "holdings" (.ref h) (ZL "own" (.ref o) (ZL "told" (.ref t) (ZL "book" (.ref b) []))))))=H5 at kr f5 x5
  refine(fun k hk=>⟨_,rfl,x,C,dx,_,rfl,by rw[Zm (Zf x5 hk)];exact x5,cl,n_taken,(by show 5<1000;decide), ?_⟩)
  obtain⟨nk,kk_,f6⟩:=ZbG (o:=.dK []) (u:=.ins C dx (ZL "taken" (.ref k) (ZL "run_days" (.ref r) (ZL "holdings" (.ref h) (ZL "own" (.ref o) (ZL "told" (.ref t) (ZL "book" (.ref b) []))))))) ⟨_,x5⟩ hk;have x6:upd (upd H5 k (.dK [])) x (.ins C dx (ZL "taken" (.ref k) (ZL "run_days" (.ref r) (ZL "holdings" (.ref h) (ZL "own" (.ref o) (ZL "told" (.ref t) (ZL "book" (.ref b) []))))))) x=some (.ins C dx (ZL "taken" (.ref k) (ZL "run_days" (.ref r) (ZL "holdings" (.ref h) (ZL "own" (.ref o) (ZL "told" (.ref t) (ZL "book" (.ref b) []))))))):=Zc
  generalize upd (upd H5 k (.dK [])) x (.ins C dx (ZL "taken" (.ref k) (ZL "run_days" (.ref r) (ZL "holdings" (.ref h) (ZL "own" (.ref o) (ZL "told" (.ref t) (ZL "book" (.ref b) [])))))))=H6 at kk_ f6 x6
  refine(fun w hw=>⟨_,rfl,x,C,dx,_,rfl,by rw[Zm (Zf x6 hw)];exact x6,cl,n_words,(by show 6<1000;decide), ?_⟩)
  obtain⟨nw,kw,f7⟩:=ZbG (o:=.dK []) (u:=.ins C dx (fH b t o h r k w)) ⟨_,x6⟩ hw;have up:∀{c:Addr} {v:HO},c≠x->H c=some v->H1 c=some v:=fun n e=>f1 _ _ n e;have b2:=f2 _ _ (Ne.symm nb) kb;have b3:=f3 _ _ (Ne.symm nb) b2;have b4:=f4 _ _ (Ne.symm nb) b3;have b5:=f5 _ _ (Ne.symm nb) b4;have b6:=f6 _ _ (Ne.symm nb) b5;have t3:=f3 _ _ (Ne.symm nt) kt;have t4:=f4 _ _ (Ne.symm nt) t3;have t5:=f5 _ _ (Ne.symm nt) t4
  have t6:=f6 _ _ (Ne.symm nt) t5;have o4:=f4 _ _ (Ne.symm no) ko;have o5:=f5 _ _ (Ne.symm no) o4;have o6:=f6 _ _ (Ne.symm no) o5;have h5:=f5 _ _ (Ne.symm nh) kh;have h6:=f6 _ _ (Ne.symm nh) h5;have r6:=f6 _ _ (Ne.symm nr) kr;have g1:∀{c:Addr},H1 c=none->H c=none:=fun{c} z=>by
   cases e:H c with
   |none=>rfl
   |some v=>
    by_cases cx:c=x
    ·rw[cx,x1] at z;cases z
    ·rw[f1 c v cx e] at z;cases z
  have g2:∀{c:Addr},H2 c=none->H c=none:=fun{c} z=>g1 (by
   cases e:H1 c with
   |none=>rfl
   |some v=>
    by_cases cx:c=x
    ·rw[cx,x2] at z;cases z
    ·rw[f2 c v cx e] at z;cases z)
  have g3:∀{c:Addr},H3 c=none->H c=none:=fun{c} z=>g2 (by
   cases e:H2 c with
   |none=>rfl
   |some v=>
    by_cases cx:c=x
    ·rw[cx,x3] at z;cases z
    ·rw[f3 c v cx e] at z;cases z)
  have g4:∀{c:Addr},H4 c=none->H c=none:=fun{c} z=>g3 (by
   cases e:H3 c with
   |none=>rfl
   |some v=>
    by_cases cx:c=x
    ·rw[cx,x4] at z;cases z
    ·rw[f4 c v cx e] at z;cases z)
  have g5:∀{c:Addr},H5 c=none->H c=none:=fun{c} z=>g4 (by
   cases e:H4 c with
   |none=>rfl
   |some v=>
    by_cases cx:c=x
    ·rw[cx,x5] at z;cases z
    ·rw[f5 c v cx e] at z;cases z)
  have g6:∀{c:Addr},H6 c=none->H c=none:=fun{c} z=>g5 (by
   cases e:H5 c with
   |none=>rfl
   |some v=>
    by_cases cx:c=x
    ·rw[cx,x6] at z;cases z
    ·rw[f6 c v cx e] at z;cases z)
  refine q b t o h r k w _ ?_ ?_ (fun c u nc e=>f7 _ _ nc (f6 _ _ nc (f5 _ _ nc (f4 _ _ nc (f3 _ _ nc (f2 _ _ nc (f1 _ _ nc e))))))) Zc (f7 _ _ (Ne.symm nb) b6) (f7 _ _ (Ne.symm nt) t6) (f7 _ _ (Ne.symm no) o6) (f7 _ _ (Ne.symm nh) h6) (f7 _ _ (Ne.symm nr) r6) (f7 _ _ (Ne.symm nk) kk_) kw
  ·have d1:=Zf kb ht;have d2:=Zf b2 ho;have d3:=Zf b3 hh;have d4:=Zf b4 hr2;have d5:=Zf b5 hk;have d6:=Zf b6 hw;have d7:=Zf kt ho;have d8:=Zf t3 hh;have d9:=Zf t4 hr2;have da:=Zf t5 hk;have db:=Zf t6 hw;have dc:=Zf ko hh;have dd:=Zf o4 hr2;have de:=Zf o5 hk;have df:=Zf o6 hw;have dg:=Zf kh hr2;have dh:=Zf h5 hk;have di:=Zf h6 hw;have dj:=Zf kr hk;have dk:=Zf r6 hw;have dl:=Zf kk_ hw;simp only [List.nodup_cons,List.mem_cons,List.mem_nil_iff,or_false,not_or,List.nodup_nil,not_false_eq_true,and_true]
   exact⟨⟨d1,d2,d3,d4,d5,d6⟩,⟨d7,d8,d9,da,db⟩,⟨dc,dd,de,df⟩,⟨dg,dh,di⟩,⟨dj,dk⟩,dl⟩
  ·intro c hc;simp only [List.mem_cons,List.mem_nil_iff,or_false] at hc
   rcases hc with rfl|rfl|rfl|rfl|rfl|rfl|rfl
   ·exact hb
   ·exact g1 ht
   ·exact g2 ho
   ·exact g3 hh
   ·exact g4 hr2
   ·exact g5 hk
   ·exact g6 hw
theorem Zio:ZC ["self"] ["self"] (Zu ZcU):=⟨rfl,rfl,rfl,by decide+kernel,rfl,by decide+kernel,by decide+kernel⟩
theorem Zip{f:Addr}{fd:FuncData}(F:Fun K "rows" "House.rows" ZcU f fd)(T:Txt K mg Zg Zd Ze Zb Zk)(n:Nat):Yr P w K mg base CX0 (0+n+1+1) f fd ["self"] (ZgN Zg Zd Ze Zb (n+1) Zk):=by
 refine F.ok Zio (fun vs H Q E h=> ?_) (fun cdv A outer s H vs Q E hr h=> ?_)
 ·obtain⟨a,s,F,rfl,_⟩:=h
  rfl
 ·obtain⟨a,s,F,rfl,_,⟨dx,b,t,o,h,r,k,w,os,kvs,ha,hb,⟨ts,ht,pt⟩,_⟩,q⟩:=h;refine⟨_,(Zo (Zw (JV ZeZ (by rfl) T.z_list Zjq (Za (ZW (pv 0) rfl) Zj)))), ?_⟩;refine⟨_,rfl,a,_,dx,_,_,rfl,ha,T.cl_House,T.n_House_told,ZmB ..,t,_,rfl,.inl (SqL.of ht),fun L hL=>q L _ hL (Zn hL) ⟨ts,Zc,ZS (Zn hL) pt⟩⟩
theorem Ziq:ZC ["self"] ["self"] (Zu ZcV):=⟨rfl,rfl,rfl,by decide+kernel,rfl,by decide+kernel,by decide+kernel⟩
theorem Zir{f:Addr}{fd:FuncData}(F:Fun K "gone" "House.gone" ZcV f fd)(T:Txt K mg Zg Zd Ze Zb Zk)(n:Nat):Yr P w K mg base CX0 (0+n+1+1) f fd ["self"] (ZgO Zg Zd Ze Zb (n+1) Zk):=by
 refine F.ok Ziq (fun vs H Q E h=> ?_) (fun cdv A outer s H vs Q E hr h=> ?_)
 ·obtain⟨a,s,F,rfl,_⟩:=h
  rfl
 ·obtain⟨a,s,F,rfl,_,⟨dx,b,t,o,h,r,k,w,os,kvs,ha,_,_,_,_,_,_,hk,pk,_⟩,q⟩:=h;refine⟨_,(Zo (Zw (JV Zjr (by rfl) T.z_dict ZpN (Za (ZW (pv 0) rfl) Zj)))), ?_⟩;exact⟨_,rfl,a,_,dx,_,_,rfl,ha,T.cl_House,T.n_House_taken,ZdG ..,k,_,rfl,.inl hk,fun L hL=>q L _ _ hL (Zn hL) Zc (Jh (fun b xs e=>Zn hL _ _ e) pk)⟩
theorem Zp2(w:Rw)(r:Str):(decide (V.str w.word=V.str "hold")&&decide (V.str w.one=V.str r))=XS r w:=by
 cases w with
 |hold x c n d=>
  show(decide (V.str "hold"=V.str "hold")&&decide (V.str x=V.str r))=decide (x=r);rw[decide_eq_true rfl,Bool.true_and]
  by_cases h:x=r
  ·rw[h,decide_eq_true rfl,decide_eq_true rfl]
  ·rw[decide_eq_false h,decide_eq_false (vne h)]
 |put x s d=>exact(congrArg (fun b=>b&&_) (decide_eq_false (vne ZiU))).trans (Bool.false_and _)
 |move x s d=>exact(congrArg (fun b=>b&&_) (decide_eq_false (vne ZkI))).trans (Bool.false_and _)
 |deed x k d=>exact(congrArg (fun b=>b&&_) (decide_eq_false (vne ZkJ))).trans (Bool.false_and _)
 |lift h d=>exact(congrArg (fun b=>b&&_) (decide_eq_false (vne Zmx))).trans (Bool.false_and _)
theorem Zm1:ZC ["rows","hold"] ["rows","hold"] (Zu ZfP):=⟨rfl,rfl,rfl,by decide+kernel,rfl,by decide+kernel,by decide+kernel⟩
theorem Zm2{f:Addr}{fd:FuncData}(F:Fun K "is_laid" "is_laid" ZfP f fd)(T:Txt K mg Zg Zd Ze Zb Zk):Yr P w K mg base CX0 1 f fd ["rows","hold"] Zey:=by
 refine F.ok Zm1 (fun vs H Q E h=> ?_) (fun cdv A outer s H vs Q E hr h=> ?_)
 ·obtain⟨p,ws,r,rfl,_⟩:=h
  rfl
 ·obtain⟨p,ws,r,rfl,⟨ds,hp,pr⟩,lw,q⟩:=h;have l5:=Xl;have le:=Paired.length pr;refine⟨_,(Zo (Zw (ZM (Zhd rfl) (by rfl) T.z_any Zod (Za (Je ["row"] [("hold",1)] rfl (Yy (pv 0)) (by rfl) (by exact⟨rfl,trivial⟩) (by rfl) (by exact⟨⟨rfl,rfl,rfl⟩,trivial⟩) (fun _ _ _ _=>(ZK (i:=0) (show(nmY ["row"] [("hold",1)]).Nodup by decide+kernel) rfl (Or.inl rfl))) (fun _ _ _ _=>Ze3) (fun _ _ _ _=>(ZnK (Zaw Yo (Zz (XD (K:=K) rfl) (pv 0) Zh (fun _ _=>rfl)) ZG (Zy _)) (ZnJ (Zaw Yo (Zz (XD (K:=K) rfl) (pv 0) Zh (fun _ _=>rfl)) (pv 1) (Zy _)))))) Zj)))), ?_⟩
  refine⟨_,rfl,p,rfl,⟨_,SqL.of hp⟩,XC ds.length (fun j=>[((ws[j]?).map fun w=>V.bl (XS r w)).getD .non]) (by omega) (fun j=>Nat.le_refl 1) (fun j H4 s4 lt=>⟨_,_,SqL.of (s4 _ _ hp),List.getElem?_eq_getElem (by rw[List.length_map];exact lt)⟩) (fun H4 s4=>⟨_,SqL.of (s4 _ _ hp),by rw[List.length_map];exact Nat.le_refl _⟩) (fun j y H4 H5 s4 lt yl RT RF rt rf=> ?_) fun D4 H4 hD4 s4 d4=> ?_⟩
  ·obtain⟨rfl,yl⟩:=yl;obtain⟨d,rfl,ed⟩:=Xq (yl _ (SqL.of (s4 _ _ hp)));obtain⟨w,ew,row⟩:=Yq (ZS s4 pr) j d ed;have row:H5 d=some (.tup w.vs):=row;have out:[((ws[j]?).map fun w=>V.bl (XS r w)).getD .non]=[V.bl (XS r w)]:=by rw[ew];rfl
   rw[out,<-Zp2] at rt
   refine⟨⟨rfl,trivial⟩, ?_⟩;unfold Zkq;refine Zbb (ixT rfl (SqT.of row) (Zab w) ⟨rfl,_,rfl,YZ (fun e=> ?_) (fun e=> ?_)⟩)
   ·refine(ixT rfl (SqT.of row) (ZfU w) ⟨_,rfl,rfl,rt _ _ ?_ (Zx.refl _)⟩);rw[e,Bool.true_and]
   ·refine rt _ _ ?_ (Zx.refl _);rw[Bool.eq_false_iff.mpr e,Bool.false_and]
  ·have e6:(List.range ds.length).flatMap (fun j=>[((ws[j]?).map fun w=>V.bl (XS r w)).getD .non])=(ws.map (XS r)).map V.bl:=by
    rw[JW,le,ZfG ws (fun w=>V.bl (XS r w)) .non,List.map_map]
    rfl
   rw[e6] at d4
   refine⟨D4,ws.map (XS r),rfl,SqL.of d4, ?_⟩;rw[List.any_map];exact q H4 s4
theorem ZgA:ZC ["row"] ["row"] (Zu Zbu):=⟨rfl,rfl,rfl,by decide+kernel,rfl,by decide+kernel,by decide+kernel⟩
theorem ZgB{f:Addr}{fd:FuncData}(F:Fun K "series_named" "series_named" Zbu f fd)(T:Txt K mg Zg Zd Ze Zb Zk):Yr P w K mg base CX0 1 f fd ["row"] ZaX:=by
 refine F.ok ZgA (fun vs H Q E h=> ?_) (fun cdv A outer s H vs Q E hr h=> ?_)
 ·obtain⟨a,w,rfl,_⟩:=h
  rfl
 ·obtain⟨a,w,rfl,ha,q⟩:=h;refine⟨_,(Zi (Ye (Zt Ze0 (Zz ZJ (pv 0) Zh (fun _ _=>rfl)) (YX (Za ZG (Za ZG Zj))) rfl) (Zo (Zw (Yl (Za (Zz ZJ (pv 0) Zh (fun _ _=>rfl)) Zj)))) ZF) (Zi (Ye (PW.pt (Za4 (Zt Yo (Zz ZJ (pv 0) Zh (fun _ _=>rfl)) ZG (Zy _)) (Jl (Zt Yo (Zz ZJ (pv 0) Zh (fun _ _=>rfl)) ZG (Zy _))))) (Zo (Zw (Yl (Za (Zz ZJ (pv 0) Zh (fun _ _=>rfl)) Zj)))) ZF) (Zo (Zw (Yl Zj))))), ?_⟩;have ha:H a=some (.tup w.vs):=ha
  refine(ixT rfl (SqT.of ha) (Zab w) ⟨show 2<=sizeLine from sl,fun t ht=>⟨t,_,rfl,.inr (SqT.of Zc),rfl,rfl,_,rfl, ?_⟩⟩);have st:=Zn ht (o:=.tup [.str "put",.str "move"]);have ha1:=st _ _ ha;generalize upd H t (.tup [.str "put",.str "move"])=H1 at st ha1
  have one:∀z:Str,∀L,H1 L=none->Zaa w=[z]->Q (.ref L) (upd H1 L (.lst [.str z])):=fun z L hL e=>q L _ (YK st hL) (st.trans (Zn hL)) (by rw[Zc,e];rfl)
  have zero:∀L,H1 L=none->Zaa w=[]->Q (.ref L) (upd H1 L (.lst [])):=fun L hL e=>q L _ (YK st hL) (st.trans (Zn hL)) (by rw[Zc,e];rfl)
  cases w with
  |put x s d=>
   have ha1:H1 a=some (.tup [.str "put",.str x,.str s,.int d]):=ha1;show if inV (.str "put") [.str "put",.str "move"]=true then _ else _;rw[ZgR];exact Zbb (ixT rfl (SqT.of ha1) rfl ⟨show 1<=sizeLine from sl,fun L hL=>one s L hL rfl⟩)
  |move x s d=>
   have ha1:H1 a=some (.tup [.str "move",.str x,.str s,.int d]):=ha1;show if inV (.str "move") [.str "put",.str "move"]=true then _ else _;rw[Zfi];exact Zbb (ixT rfl (SqT.of ha1) rfl ⟨show 1<=sizeLine from sl,fun L hL=>one s L hL rfl⟩)
  |deed x k d=>
   have ha1:H1 a=some (.tup [.str "deed",.str x,.str k,.int d]):=ha1;show if inV (.str "deed") [.str "put",.str "move"]=true then _ else _;rw[ZaY ZqE ZqF];exact Xh (ixT rfl (SqT.of ha1) rfl ⟨rfl,_,rfl,JC (vne ZkJ) (Xh ⟨Nat.zero_le _,fun L hL=>zero L hL rfl⟩)⟩)
  |lift h d=>
   have ha1:H1 a=some (.tup [.str "lift",.str h,.int d]):=ha1;show if inV (.str "lift") [.str "put",.str "move"]=true then _ else _;rw[ZaY ZkH Zmw];exact Xh (ixT rfl (SqT.of ha1) rfl ⟨rfl,_,rfl,JC (vne Zmx) (Xh ⟨Nat.zero_le _,fun L hL=>zero L hL rfl⟩)⟩)
  |hold h c n d=>
   have ha1:H1 a=some (.tup [.str "hold",.str h,.str (onW c),.str n,.int d]):=ha1;show if inV (.str "hold") [.str "put",.str "move"]=true then _ else _;rw[ZaY ZiU ZkI];cases c with
   |true=>exact Xh (ixT rfl (SqT.of ha1) rfl ⟨rfl,_,rfl,Zfa rfl (ixT rfl (SqT.of ha1) rfl ⟨rfl,_,rfl,JC (vne (show¬Str.ofString "record"=Str.ofString "series" by decide+kernel)) ⟨Nat.zero_le _,fun L hL=>zero L hL rfl⟩⟩)⟩)
   |false=>exact Xh (ixT rfl (SqT.of ha1) rfl ⟨rfl,_,rfl,Zfa rfl (ixT rfl (SqT.of ha1) rfl ⟨rfl,_,rfl,Zfa rfl (ixT rfl (SqT.of ha1) rfl ⟨show 1<=sizeLine from sl,fun L hL=>one n L hL rfl⟩)⟩)⟩)
def ZbW(cn ca cl ce:Addr)(n:Nat)(C:Addr):Sp:=fun vs H Q _=>∃(a d:Addr) (w:Rw) (s:Hs) (F:List Addr),vs=[.ref a,.ref d]/\0<n/\ZQ cn ca cl ce C H a s F/\ZbP H d w/\s.ws.length<=900/\
 ∀H' F',Zgv F H H'->(∀b∈F',b∈F\/H b=none)->(∀b∈F,b∈F')->ZQ cn ca cl ce C H' a {s with ws:=s.ws++[w]} F'->Q .non H'
theorem Zis{cn ca cl ce C:Addr}:∀vs H Q E,¬ZbW cn ca cl ce 0 C vs H Q E:=fun _ _ _ _ ⟨_,_,_,_,_,_,z,_⟩=>Nat.lt_irrefl 0 z
theorem ZfW:∀{os:List (Str×Addr)},(os.map (·.1)).Nodup->∀x∈os,YB (okv os) (Sum.inr x.1)=some (.ref x.2)
 |[],_,x,h=>nomatch h
 |y::os,nd,x,h=>by
  rw[List.map_cons] at nd
  obtain⟨off,rest⟩:=List.nodup_cons.mp nd;cases h with
  |head=>exact Yv rfl
  |tail _ m=>
   have ne:¬(Sum.inr y.1:Key)=Sum.inr x.1:=fun z=>off (List.mem_map.mpr ⟨x,m,by injection z with z;exact z.symm⟩)
   exact(Ys (p:=(Sum.inr y.1,V.ref y.2)) ne).trans (ZfW rest x m)
theorem ZgS:∀{os:List (Str×Addr)} {r:Str},r∉os.map (·.1)->YB (okv os) (Sum.inr r)=none
 |[],_,_=>rfl
 |y::os,r,h=>by
  rw[List.map_cons,List.mem_cons] at h
  have ne:¬(Sum.inr y.1:Key)=Sum.inr r:=fun z=>h (.inl (by injection z with z;exact z.symm))
  exact(Ys (p:=(Sum.inr y.1,V.ref y.2)) ne).trans (ZgS fun z=>h (.inr z))
theorem Zqe{os:List (Str×Addr)}{r:Str}{l:Addr}(h:r∉os.map (·.1)):Jo (okv os) (Sum.inr r) (.ref l)=okv (os++[(r,l)]):=by
 unfold Jo;rw[Za5,ZgS h,if_neg (by exact Bool.false_ne_true)];unfold okv;rw[List.map_append]
 rfl
theorem ZaL{ws:List Rw}{w:Rw}{r:Str}:YH (ws++[w]) r=YH ws r++(if ZaI r w=true then[w] else[]):=by
 unfold YH;rw[List.filter_append]
 congr 1
 by_cases h:ZaI r w=true
 ·rw[if_pos h,List.filter_cons_of_pos h]
  rfl
 ·rw[if_neg h,List.filter_cons_of_neg h]
  rfl
theorem ZmC{ws:List Rw}{w:Rw}:(ws++[w]).filter JH=ws.filter JH++(if JH w=true then[w] else[]):=by
 rw[List.filter_append]
 congr 1
 by_cases h:JH w=true
 ·rw[if_pos h,List.filter_cons_of_pos h]
  rfl
 ·rw[if_neg h,List.filter_cons_of_neg h]
  rfl
theorem ZjN(w:Rw):(JH w=true/\∀r,ZaI r w=false)\/(JH w=false/\∀r,ZaI r w=decide (w.one=r)):=by
 cases w with
 |put x s d=>exact .inr ⟨rfl,fun r=>rfl⟩
 |move x s d=>exact .inr ⟨rfl,fun r=>rfl⟩
 |deed x s d=>exact .inr ⟨rfl,fun r=>rfl⟩
 |lift x d=>exact .inl ⟨rfl,fun r=>rfl⟩
 |hold x c n d=>exact .inl ⟨rfl,fun r=>rfl⟩
def ZiW(H:Hp)(F:List Addr):Prop:=∀c∈F,(∃xs,H c=some (.lst xs))\/∃kv,H c=some (.dK kv)
theorem ZiW.tup{H H':Hp}{F:List Addr}(h:ZiW H F)(kp:Zgv F H H')(c:Addr)(xs:List V)(e:H c=some (.tup xs)):H' c=some (.tup xs):=kp c _ (fun m=>by
 rcases h c m with ⟨_,z⟩|⟨_,z⟩<;>rw[z] at e<;>cases e) e
theorem ZiW.ins{H H':Hp}{F:List Addr}(h:ZiW H F)(kp:Zgv F H H')(c C dx:Addr)(fs:List (Str×V))(e:H c=some (.ins C dx fs)):H' c=some (.ins C dx fs):=kp c _ (fun m=>by
 rcases h c m with ⟨_,z⟩|⟨_,z⟩<;>rw[z] at e<;>cases e) e
theorem Xc{H H':Hp}(s:∀b xs,H b=some (.tup xs)->H' b=some (.tup xs)):∀{ds:List Addr} {ws:List Rw},Paired (ZbP H) ds ws->Paired (ZbP H') ds ws
 |_,_,.nil=> .nil
 |_,_,.cons h t=> .cons (s _ _ h) (Xc s t)
theorem Zgk{H:Hp}{t o h r k w:Addr}{os:List (Str×Addr)}{ws hs:List Rw}{rn:List V}{ko kk_ kw:List (Key×V)}(ht:YG H t ws)(ho:H o=some (.dK ko))(oa:∀x∈os,∃us,YG H x.2 us)(hh:YG H h hs)(hr:H r=some (.lst rn))(hk:H k=some (.dK kk_))(hw:H w=some (.dK kw)):ZiW H (t::o::h::r::k::w::os.map (·.2)):=fun c hc=>by
 simp only [List.mem_cons] at hc
 rcases hc with rfl|rfl|rfl|rfl|rfl|rfl|m
 ·obtain⟨ds,e,_⟩:=ht;exact .inl ⟨_,e⟩
 ·exact .inr ⟨_,ho⟩
 ·obtain⟨ds,e,_⟩:=hh;exact .inl ⟨_,e⟩
 ·exact .inl ⟨_,hr⟩
 ·exact .inr ⟨_,hk⟩
 ·exact .inr ⟨_,hw⟩
 ·obtain⟨x,hx,rfl⟩:=List.mem_map.mp m;obtain⟨us,ds,e,_⟩:=oa x hx;exact .inl ⟨_,e⟩
theorem Zea{cn ca cl ce:Addr}{H H':Hp}{p:Addr}{rs:List Sr}(s1:∀b xs,H b=some (.tup xs)->H' b=some (.tup xs))(s2:∀b C dx fs,H b=some (.ins C dx fs)->H' b=some (.ins C dx fs))(s3:∀u,H p=some u->H' p=some u):Zff cn ca cl ce H p rs->Zff cn ca cl ce H' p rs
 |⟨ds,h,t⟩=>⟨ds,s3 _ h,Ze9 s1 s2 t⟩
theorem Zbm{α β:Type}:∀{os:List (α×β)} {x y:α×β},(os.map (·.1)).Nodup->x∈os->y∈os->x.1=y.1->x=y
 |z::os,x,y,nd,hx,hy,e=>by
  rw[List.map_cons] at nd
  obtain⟨off,rest⟩:=List.nodup_cons.mp nd;cases hx with
  |head=>
   cases hy with
   |head=>rfl
   |tail _ my=>exact absurd (List.mem_map.mpr ⟨y,my,e.symm⟩) off
  |tail _ mx=>
   cases hy with
   |head=>exact absurd (List.mem_map.mpr ⟨x,mx,e⟩) off
   |tail _ my=>exact Zbm rest mx my e
theorem ZiX{α β:Type}:∀{os:List (α×β)} {x y:α×β},(os.map (·.2)).Nodup->x∈os->y∈os->x.2=y.2->x=y
 |z::os,x,y,nd,hx,hy,e=>by
  rw[List.map_cons] at nd
  obtain⟨off,rest⟩:=List.nodup_cons.mp nd;cases hx with
  |head=>
   cases hy with
   |head=>rfl
   |tail _ my=>exact absurd (List.mem_map.mpr ⟨y,my,e.symm⟩) off
  |tail _ mx=>
   cases hy with
   |head=>exact absurd (List.mem_map.mpr ⟨x,mx,e⟩) off
   |tail _ my=>exact ZiX rest mx my e
theorem Zqf{H:Hp}{os:List (Str×Addr)}{ws:List Rw}(oa:ZoN H os ws):os.length<=ws.length:=by
 have sub:∀r∈os.map (·.1),r∈ws.map Rw.one:=fun r hr=>by
  obtain⟨w,hw⟩:=List.exists_mem_of_ne_nil _ ((oa.mem r).mp hr);obtain⟨h1,h2⟩:=List.mem_filter.mp hw;refine List.mem_map.mpr ⟨w,h1, ?_⟩;rcases ZjN w with ⟨_,no⟩|⟨_,yes⟩
  ·rw[no r] at h2;cases h2
  ·rw[yes r] at h2;exact of_decide_eq_true h2
 have:=oa.one.length_le_of_subset sub
 rwa [List.length_map,List.length_map] at this
theorem Zfm:ZC ["self","row"] ["self","row"] (Zu Zan):=⟨rfl,rfl,rfl,by decide+kernel,rfl,by decide+kernel,by decide+kernel⟩
theorem Zfn{f:Addr}{fd:FuncData}(F:Fun K "keep_row" "House.keep_row" Zan f fd)(T:Txt K mg Zg Zd Ze Zb Zk)(n:Nat):Yr P w K mg base CX0 (0+n+1+1) f fd ["self","row"] (ZbW Zg Zd Ze Zb (n+1) Zk):=by
 refine F.ok Zfm (fun vs H Q E h=> ?_) (fun cdv A outer s H vs Q E hr h=> ?_)
 ·obtain⟨a,d,w,s,F,rfl,_⟩:=h
  rfl
 ·obtain⟨a,d,w,s,F,rfl,_,⟨dx,b,t,o,h,r,k,wd,os,kvs,ha,hb,⟨ts,ht,pt⟩,ho,oa,⟨hs,hh,ph⟩,hr',hk,pk,hw,rfl,nd,nb⟩,hd,ls,q⟩:=h;have l5:=Xl;have hd:H d=some (.tup w.vs):=hd;have ki:=Zgk ⟨ts,ht,pt⟩ ho (fun x hx=>⟨_,oa.at_ x hx⟩) ⟨hs,hh,ph⟩ hr' hk hw;have lt:=Paired.length pt;refine⟨_,(Zi (Xf (ZaC PySem.F.plainAttrs_list PySem.F.slot_list_append PySem.F.type_list_append Yz (ZW (pv 0) rfl) (Za (pv 1) Zj))) (Zo (Ye (Zt Ze0 (Zz ZJ (pv 1) Zh (fun _ _=>rfl)) (YX (Za ZG (Za ZG Zj))) rfl) (Zo (Xf (ZaC PySem.F.plainAttrs_list PySem.F.slot_list_append PySem.F.type_list_append Yz (ZW (pv 0) rfl) (Za (pv 1) Zj)))) (Zo (Xf (ZaC PySem.F.plainAttrs_list PySem.F.slot_list_append PySem.F.type_list_append Yz (Zn9 (ZW (pv 0) rfl) (Zz ZJ (pv 1) Zh (fun _ _=>rfl)) (Yl Zj) ⟨rfl,rfl,rfl,rfl⟩) (Za (pv 1) Zj))))))), ?_⟩
  refine⟨_,rfl,a,_,dx,_,_,rfl,ha,T.cl_House,T.n_House_told,ZmB ..,.inl ⟨rfl,_,SqL.of ht⟩,_,rfl,t,_,V.ref d,rfl,rfl,ht,by rw[List.length_map];omega, ?_⟩
  have k1:∀c u,c≠t->H c=some u->upd H t (.lst (ts.map V.ref++[.ref d])) c=some u:=fun c u n e=>by rw[Zm n];exact e
  have t1:upd H t (.lst (ts.map V.ref++[.ref d])) t=some (.lst ((ts++[d]).map V.ref)):=by rw[Zc,List.map_append];rfl
  generalize upd H t (.lst (ts.map V.ref++[.ref d]))=H1 at k1 t1
  have kn:∀c u,(∀xs,u≠.lst xs)->H c=some u->H1 c=some u:=fun c u n e=>k1 c u (fun z=>by rw[z,ht] at e;exact n _ (Option.some.inj e).symm) e
  have hd1:=kn d (.tup w.vs) (fun _ z=>nomatch z) hd;have ha1:=kn a (.ins Zk dx (fH b t o h r k wd)) (fun _ z=>nomatch z) ha;refine(ixT rfl (SqT.of hd1) (Zab w) ⟨show 2<=sizeLine from sl,fun tt htt=>⟨tt,_,rfl,.inr (SqT.of Zc),rfl,rfl,_,rfl, ?_⟩⟩);have st:=Zn htt (o:=.tup [.str "hold",.str "lift"]);have k2:∀c u,c≠t->H c=some u->upd H1 tt (.tup [.str "hold",.str "lift"]) c=some u:=fun c u n e=>st _ _ (k1 c u n e)
  have t2:=st _ _ t1;have n2:∀{c:Addr},upd H1 tt (.tup [.str "hold",.str "lift"]) c=none->H c=none:=fun{c} z=>by
   cases e:H c with
   |none=>rfl
   |some u=>
    by_cases ct:c=t
    ·rw[ct,t2] at z;cases z
    ·rw[k2 c u ct e] at z;cases z
  have hd2:=st _ _ hd1;have ha2:=st _ _ ha1;generalize upd H1 tt (.tup [.str "hold",.str "lift"])=H2 at k2 t2 n2 hd2 ha2
  simp only [List.nodup_cons,List.mem_cons,not_or] at nd
  obtain⟨⟨nto,nth,ntr,ntk,ntw,nts⟩,⟨noh,nor,nok,now_,nos⟩,⟨nhr,nhk,nhw,nhs⟩,⟨nrk,nrw,nrs⟩,⟨nkw,nks⟩,nws,ndo⟩:=nd;simp only [List.mem_cons,not_or] at nb
  obtain⟨nbt,nbo,nbh,nbr,nbk,nbw,nbs⟩:=nb;have ho2:=k2 _ _ (Ne.symm nto) ho;have hh2:=k2 _ _ (Ne.symm nth) hh;have hr2:=k2 _ _ (Ne.symm ntr) hr';have hk2:=k2 _ _ (Ne.symm ntk) hk;have hw2:=k2 _ _ (Ne.symm ntw) hw;have lh:=Paired.length ph;have lh2:(s.ws.filter JH).length<=s.ws.length:=List.length_filter_le _ _;rcases ZjN w with ⟨hl,no⟩|⟨hl,ow⟩
  ·have inn:inV (.str w.word) [.str "hold",.str "lift"]=true:=by
    cases w with
    |hold x c n d=>exact ZgR _ _
    |lift x d=>exact Zfi _ _
    |_=>cases hl
   refine(show(if inV (.str w.word) [.str "hold",.str "lift"]=true then _ else _) from ?_);rw[inn];refine Zbb ⟨_,rfl,a,_,dx,_,_,rfl,ha2,T.cl_House,T.n_House_holdings,ZbU ..,.inl ⟨rfl,_,SqL.of hh2⟩,_,rfl,h,_,V.ref d,rfl,rfl,hh2,by rw[List.length_map];omega, ?_⟩
   have k3:∀c u,c≠t->c≠h->H c=some u->upd H2 h (.lst (hs.map V.ref++[.ref d])) c=some u:=fun c u n1 n2 e=>by rw[Zm n2];exact k2 c u n1 e
   have h3:upd H2 h (.lst (hs.map V.ref++[.ref d])) h=some (.lst ((hs++[d]).map V.ref)):=by rw[Zc,List.map_append];rfl
   have t3:upd H2 h (.lst (hs.map V.ref++[.ref d])) t=some (.lst ((ts++[d]).map V.ref)):=by rw[Zm nth];exact t2
   have hd3:upd H2 h (.lst (hs.map V.ref++[.ref d])) d=some (.tup w.vs):=by rw[Zm (Yi hd2 hh2 (fun z=>nomatch z))];exact hd2
   generalize upd H2 h (.lst (hs.map V.ref++[.ref d]))=H3 at k3 h3 t3 hd3
   have kp:Zgv (t::o::h::r::k::wd::os.map (·.2)) H H3:=fun c u m e=>k3 c u (fun z=>m (by rw[z];exact List.mem_cons_self ..)) (fun z=>m (by rw[z];simp)) e
   have kt:=ki.tup kp;refine q H3 _ kp (fun b hb=> .inl hb) (fun b hb=>hb) ⟨dx,b,t,o,h,r,k,wd,os,kvs,ki.ins kp _ _ _ _ ha,Zea kt (fun b C dx fs e=>ki.ins kp _ _ _ _ e) (fun u e=>k3 _ _ nbt nbh e) hb,⟨ts++[d],t3,Paired.snoc (Xc kt pt) hd3⟩,k3 _ _ (Ne.symm nto) noh ho,⟨oa.one,fun r=> ?_,fun x hx=> ?_⟩,⟨hs++[d],h3, ?_⟩,k3 _ _ (Ne.symm ntr) (Ne.symm nhr) hr',k3 _ _ (Ne.symm ntk) (Ne.symm nhk) hk,Jh kt pk,k3 _ _ (Ne.symm ntw) (Ne.symm nhw) hw,rfl, ?_, ?_⟩
   ·rw[ZaL,no r,if_neg Bool.false_ne_true,List.append_nil];exact oa.mem r
   ·obtain⟨us,e,pu⟩:=oa.at_ x hx;rw[ZaL,no x.1,if_neg Bool.false_ne_true,List.append_nil];exact⟨us,k3 _ _ (fun z=>nts (by rw[<-z];exact List.mem_map_of_mem hx)) (fun z=>nhs (by rw[<-z];exact List.mem_map_of_mem hx)) e,Xc kt pu⟩
   ·rw[ZmC,if_pos hl];exact Paired.snoc (Xc kt ph) hd3
   ·simp only [List.nodup_cons,List.mem_cons,not_or];exact⟨⟨nto,nth,ntr,ntk,ntw,nts⟩,⟨noh,nor,nok,now_,nos⟩,⟨nhr,nhk,nhw,nhs⟩,⟨nrk,nrw,nrs⟩,⟨nkw,nks⟩,nws,ndo⟩
   ·simp only [List.mem_cons,not_or];exact⟨nbt,nbo,nbh,nbr,nbk,nbw,nbs⟩
  ·have out:inV (.str w.word) [.str "hold",.str "lift"]=false:=by
    cases w with
    |put x s d=>exact ZaY ZqI ZqH
    |move x s d=>exact ZaY Zso Zsm
    |deed x s d=>exact ZaY Zsp Zsn
    |_=>cases hl
   refine(show(if inV (.str w.word) [.str "hold",.str "lift"]=true then _ else _) from ?_);rw[out];have hl2:∀{ws:List Rw},(ws++[w]).filter JH=ws.filter JH:=fun{ws}=>by rw[ZmC,if_neg (by rw[hl];exact Bool.false_ne_true),List.append_nil]
   have los:os.length<=s.ws.length:=Zqf oa;refine Xh ⟨_,rfl,a,_,dx,_,_,rfl,ha2,T.cl_House,T.n_House_own,ZhG ..,o,rfl,.inl ⟨_,.inl ho2⟩,ixT rfl (SqT.of hd2) (ZfU w) ⟨Nat.zero_le _,fun l hl0=> ?_⟩⟩;have sl0:=Zn hl0 (o:=.lst []);have k3:∀c u,c≠t->H c=some u->upd H2 l (.lst []) c=some u:=fun c u n e=>sl0 _ _ (k2 c u n e);have t3:=sl0 _ _ t2;have hd3:=sl0 _ _ hd2;have l3:upd H2 l (.lst []) l=some (.lst []):=Zc
   have nl:H l=none:=n2 hl0;generalize upd H2 l (.lst [])=H3 at k3 t3 hd3 l3
   have ho3:=k3 _ _ (Ne.symm nto) ho;refine⟨okv os,Sum.inr w.one,ho3,by unfold okv;rw[List.length_map];omega,rfl,fun v ev=> ?_,fun ev=> ?_⟩
   ·obtain⟨x,hx,x1⟩:∃x∈os,x.1=w.one:=by
     by_cases m:w.one∈os.map (·.1)
     ·obtain⟨x,hx,e⟩:=List.mem_map.mp m;exact⟨x,hx,e⟩
     ·rw[ZgS m] at ev
      cases ev
    rw[<-x1,ZfW oa.one x hx] at ev
    obtain rfl:=Option.some.inj ev;obtain⟨us,hu,pu⟩:=oa.at_ x hx;have xt:x.2≠t:=fun z=>nts (by rw[<-z];exact List.mem_map_of_mem hx)
    have hu3:=k3 _ _ xt hu;have lu:=Paired.length pu;have lu2:(YH s.ws x.1).length<=s.ws.length:=List.length_filter_le _ _;refine⟨.inl ⟨rfl,_,SqL.of hu3⟩,_,rfl,x.2,_,V.ref d,rfl,rfl,hu3,by rw[List.length_map];omega, ?_⟩
    have k4:∀c u,c≠t->c≠x.2->H c=some u->upd H3 x.2 (.lst (us.map V.ref++[.ref d])) c=some u:=fun c u n1 n2 e=>by rw[Zm n2];exact k3 c u n1 e
    have u4:upd H3 x.2 (.lst (us.map V.ref++[.ref d])) x.2=some (.lst ((us++[d]).map V.ref)):=by rw[Zc,List.map_append];rfl
    have t4:upd H3 x.2 (.lst (us.map V.ref++[.ref d])) t=some (.lst ((ts++[d]).map V.ref)):=by rw[Zm (Ne.symm xt)];exact t3
    have hd4:upd H3 x.2 (.lst (us.map V.ref++[.ref d])) d=some (.tup w.vs):=by rw[Zm (Yi hd3 hu3 (fun z=>nomatch z))];exact hd3
    generalize upd H3 x.2 (.lst (us.map V.ref++[.ref d]))=H4 at k4 u4 t4 hd4
    have mx:x.2∈os.map (·.2):=List.mem_map_of_mem hx;have kp:Zgv (t::o::h::r::k::wd::os.map (·.2)) H H4:=fun c u m e=>k4 c u (fun z=>m (by rw[z];exact List.mem_cons_self ..)) (fun z=>m (by rw[z];simp only [List.mem_cons];exact .inr (.inr (.inr (.inr (.inr (.inr mx))))))) e
    have kt:=ki.tup kp;have ne:∀{c:Addr},c∉os.map (·.2)->c≠x.2:=fun m z=>m (by rw[z];exact mx)
    refine q H4 _ kp (fun b hb=> .inl hb) (fun b hb=>hb) ⟨dx,b,t,o,h,r,k,wd,os,kvs,ki.ins kp _ _ _ _ ha,Zea kt (fun b C dx fs e=>ki.ins kp _ _ _ _ e) (fun u e=>k4 _ _ nbt (ne nbs) e) hb,⟨ts++[d],t4,Paired.snoc (Xc kt pt) hd4⟩,k4 _ _ (Ne.symm nto) (ne nos) ho,⟨oa.one,fun r=> ?_,fun y hy=> ?_⟩,⟨hs,k4 _ _ (Ne.symm nth) (ne nhs) hh,by rw[hl2];exact Xc kt ph⟩,k4 _ _ (Ne.symm ntr) (ne nrs) hr',k4 _ _ (Ne.symm ntk) (ne nks) hk,Jh kt pk,k4 _ _ (Ne.symm ntw) (ne nws) hw,rfl, ?_, ?_⟩
    ·rw[ZaL,ow r]
     by_cases z:w.one=r
     ·rw[if_pos (decide_eq_true z),<-z,<-x1];exact⟨fun _ y=>(List.append_ne_nil_of_right_ne_nil _ (List.cons_ne_nil _ _)) y,fun _=>List.mem_map_of_mem hx⟩
     ·rw[if_neg (by rw[decide_eq_false z];exact Bool.false_ne_true),List.append_nil]
      exact oa.mem r
    ·obtain⟨vs,ev2,pv⟩:=oa.at_ y hy;rw[ZaL,ow y.1]
     by_cases z:w.one=y.1
     ·obtain rfl:x=y:=Zbm oa.one hx hy (x1.trans z);rw[if_pos (decide_eq_true z)];exact⟨us++[d],u4,Paired.snoc (Xc kt pu) hd4⟩
     ·rw[if_neg (by rw[decide_eq_false z];exact Bool.false_ne_true),List.append_nil]
      exact⟨vs,k4 _ _ (fun q=>nts (by rw[<-q];exact List.mem_map_of_mem hy)) (fun q=>z (by rw[<-x1,ZiX ndo hx hy q.symm])) ev2,Xc kt pv⟩
    ·simp only [List.nodup_cons,List.mem_cons,not_or];exact⟨⟨nto,nth,ntr,ntk,ntw,nts⟩,⟨noh,nor,nok,now_,nos⟩,⟨nhr,nhk,nhw,nhs⟩,⟨nrk,nrw,nrs⟩,⟨nkw,nks⟩,nws,ndo⟩
    ·simp only [List.mem_cons,not_or];exact⟨nbt,nbo,nbh,nbr,nbk,nbw,nbs⟩
   ·have m:w.one∉os.map (·.1):=fun z=>by
     obtain⟨x,hx,e⟩:=List.mem_map.mp z;rw[<-e,ZfW oa.one x hx] at ev
     cases ev
    rw[Zqe m];have lo:l≠o:=Ne.symm (Zf ho nl);have lt_:l≠t:=Ne.symm (Zf ht nl);have l4:upd H3 o (.dK (okv (os++[(w.one,l)]))) l=some (.lst []):=by rw[Zm lo];exact l3
    refine⟨.inl ⟨rfl,_,SqL.of l4⟩,_,rfl,l,[],V.ref d,rfl,rfl,l4,by show 0<sizeLine;omega, ?_⟩
    have k4:∀c u,c≠t->c≠o->H c=some u->upd (upd H3 o (.dK (okv (os++[(w.one,l)])))) l (.lst [.ref d]) c=some u:=fun c u n1 n2 e=>by rw[Zm (Zf e nl),Zm n2];exact k3 c u n1 e
    have l5':upd (upd H3 o (.dK (okv (os++[(w.one,l)])))) l (.lst [.ref d]) l=some (.lst ([d].map V.ref)):=Zc;have o5:upd (upd H3 o (.dK (okv (os++[(w.one,l)])))) l (.lst [.ref d]) o=some (.dK (okv (os++[(w.one,l)]))):=by rw[Zm (Ne.symm lo),Zc]
    have t5:upd (upd H3 o (.dK (okv (os++[(w.one,l)])))) l (.lst [.ref d]) t=some (.lst ((ts++[d]).map V.ref)):=by rw[Zm (Ne.symm lt_),Zm nto];exact t3
    have hd5:upd (upd H3 o (.dK (okv (os++[(w.one,l)])))) l (.lst [.ref d]) d=some (.tup w.vs):=by rw[Zm (Zf hd nl),Zm (Yi hd3 ho3 (fun z=>nomatch z))];exact hd3
    show Q .non (upd (upd H3 o (.dK (okv (os++[(w.one,l)])))) l (.lst [.ref d]));generalize upd (upd H3 o (.dK (okv (os++[(w.one,l)])))) l (.lst [.ref d])=H5 at k4 l5' o5 t5 hd5
    have kp:Zgv (t::o::h::r::k::wd::os.map (·.2)) H H5:=fun c u m e=>k4 c u (fun z=>m (by rw[z];exact List.mem_cons_self ..)) (fun z=>m (by rw[z];simp)) e
    have kt:=ki.tup kp;have fre:∀{c:Addr} {u:HO},H c=some u->c≠l:=fun e=>Zf e nl;refine q H5 (t::o::h::r::k::wd::(os++[(w.one,l)]).map (·.2)) kp (fun c hc=> ?_) (fun c hc=>by simp only [List.map_append,List.mem_cons,List.mem_append] at hc⊢;rcases hc with z|z|z|z|z|z|z<;>simp[z]) ⟨dx,b,t,o,h,r,k,wd,os++[(w.one,l)],kvs,ki.ins kp _ _ _ _ ha,Zea kt (fun b C dx fs e=>ki.ins kp _ _ _ _ e) (fun u e=>k4 _ _ nbt nbo e) hb,⟨ts++[d],t5,Paired.snoc (Xc kt pt) hd5⟩,o5,⟨?_,fun r=> ?_,fun y hy=> ?_⟩,⟨hs,k4 _ _ (Ne.symm nth) (Ne.symm noh) hh,by rw[hl2];exact Xc kt ph⟩,k4 _ _ (Ne.symm ntr) (Ne.symm nor) hr',k4 _ _ (Ne.symm ntk) (Ne.symm nok) hk,Jh kt pk,k4 _ _ (Ne.symm ntw) (Ne.symm now_) hw,rfl, ?_, ?_⟩
    ·simp only [List.map_append,List.map_cons,List.map_nil,List.mem_cons,List.mem_append,List.mem_nil_iff,or_false] at hc⊢
     rcases hc with z|z|z|z|z|z|z|z
     ·exact .inl (.inl z)
     ·exact .inl (.inr (.inl z))
     ·exact .inl (.inr (.inr (.inl z)))
     ·exact .inl (.inr (.inr (.inr (.inl z))))
     ·exact .inl (.inr (.inr (.inr (.inr (.inl z)))))
     ·exact .inl (.inr (.inr (.inr (.inr (.inr (.inl z))))))
     ·exact .inl (.inr (.inr (.inr (.inr (.inr (.inr z))))))
     ·exact .inr (by rw[z];exact nl)
    ·rw[List.map_append];exact List.nodup_append.mpr ⟨oa.one,by simp,fun x hx y hy z=>m (by have e:y=w.one:=List.mem_singleton.mp hy;rw[<-e,<-z];exact hx)⟩
    ·rw[ZaL,ow r,List.map_append,List.mem_append,List.map_singleton,List.mem_singleton]
     by_cases z:w.one=r
     ·rw[if_pos (decide_eq_true z)];exact⟨fun _ y=>(List.append_ne_nil_of_right_ne_nil _ (List.cons_ne_nil _ _)) y,fun _=> .inr z.symm⟩
     ·rw[if_neg (by rw[decide_eq_false z];exact Bool.false_ne_true),List.append_nil]
      exact⟨fun y=>y.elim (oa.mem r).mp fun e=>absurd e.symm z,fun y=> .inl ((oa.mem r).mpr y)⟩
    ·rw[ZaL,ow y.1];rcases List.mem_append.mp hy with old|new
     ·have z:¬w.one=y.1:=fun z=>m (by rw[z];exact List.mem_map_of_mem old)
      obtain⟨vs,ev2,pv⟩:=oa.at_ y old;rw[if_neg (by rw[decide_eq_false z];exact Bool.false_ne_true),List.append_nil]
      exact⟨vs,k4 _ _ (fun q=>nts (by rw[<-q];exact List.mem_map_of_mem old)) (fun q=>nos (by rw[<-q];exact List.mem_map_of_mem old)) ev2,Xc kt pv⟩
     ·rw[List.mem_singleton.mp new];have em:YH s.ws w.one=[]:=Classical.not_not.mp fun z=>m ((oa.mem w.one).mpr z);show YG H5 l (YH s.ws w.one++if decide (w.one=w.one)=true then[w] else[]);rw[em,if_pos (decide_eq_true rfl)];exact⟨[d],l5',.cons hd5 .nil⟩
    ·have hl':h≠l:=fre hh;have rl:r≠l:=fre hr';have kl:k≠l:=fre hk;have wl:wd≠l:=fre hw;have sl':l∉os.map (·.2):=fun z=>by
      obtain⟨x,hx,e⟩:=List.mem_map.mp z;obtain⟨us,e2,_⟩:=oa.at_ x hx;rw[e] at e2
      exact fre e2 rfl
     simp only [List.map_append,List.map_cons,List.map_nil,List.nodup_cons,List.mem_cons,List.mem_append,List.mem_nil_iff,or_false,not_or];exact⟨⟨nto,nth,ntr,ntk,ntw,nts,Ne.symm lt_⟩,⟨noh,nor,nok,now_,nos,Ne.symm lo⟩,⟨nhr,nhk,nhw,nhs,hl'⟩,⟨nrk,nrw,nrs,rl⟩,⟨nkw,nks,kl⟩,⟨nws,wl⟩,List.nodup_append.mpr ⟨ndo,by simp,fun x hx y hy z=>sl' (by rw[<-List.mem_singleton.mp hy,<-z];exact hx)⟩⟩
    ·obtain⟨bds,hbl,_⟩:=hb;simp only [List.map_append,List.map_cons,List.map_nil,List.mem_cons,List.mem_append,List.mem_nil_iff,or_false,not_or];exact⟨nbt,nbo,nbh,nbr,nbk,nbw,nbs,fre hbl⟩
theorem ZiY:∀ws:List Str,(ws.map V.str).all Xk=true
 |[]=>rfl
 |w::ws=>by rw[List.map_cons,List.all_cons,ZiY ws];rfl
theorem Zqg(z:Str)(ws:List Str):inV (.str z) (ws.map V.str)=decide (z∈ws):=by
 unfold inV
 apply Bool.eq_iff_iff.mpr
 rw[List.any_eq_true,decide_eq_true_iff]
 constructor
 ·rintro⟨y,hy,e⟩;obtain⟨w,hw,rfl⟩:=List.mem_map.mp hy;have e:(w==z)=true:=e;exact eq_of_beq e▸hw
 ·exact fun h=>⟨.str z,List.mem_map.mpr ⟨z,h,rfl⟩,Ji rfl⟩
theorem Zrp(ws:List Rw)(r:Str)(x:Int):ZR (YH ws r) x=(ZR ws x).filter (ZaI r):=by
 unfold ZR YH;rw[List.filter_filter,List.filter_filter]
 congr 1
 funext w
 exact Bool.and_comm ..
theorem ZjO{r:Str}:∀{w:Rw},ZaI r w=false->Zcu r w=false/\Zdz r w=none/\∀l,Xb r l w=l
 | .put x s d,h=>by
  have h:¬x=r:=of_decide_eq_false h;exact⟨decide_eq_false h,if_neg h,fun l=>if_neg h⟩
 | .move x s d,h=>by
  have h:¬x=r:=of_decide_eq_false h;exact⟨rfl,if_neg h,fun l=>rfl⟩
 | .deed x s d,h=>by
  have h:¬x=r:=of_decide_eq_false h;exact⟨rfl,rfl,fun l=>if_neg h⟩
 | .lift _ _,_=>⟨rfl,rfl,fun _=>rfl⟩
 | .hold _ _ _ _,_=>⟨rfl,rfl,fun _=>rfl⟩
theorem ZjP(r:Str):∀us:List Rw,YM (us.filter (ZaI r)) r=YM us r
 |[]=>rfl
 |w::us=>by
  have ih:=ZjP r us;cases e:ZaI r w with
  |true=>
   rw[List.filter_cons_of_pos e];show(Zcu r w||YM (us.filter (ZaI r)) r)=(Zcu r w||YM us r);rw[ih]
  |false=>
   rw[List.filter_cons_of_neg (by rw[e];exact Bool.false_ne_true),ih]
   show YM us r=(Zcu r w||YM us r);rw[(ZjO e).1,Bool.false_or]
theorem ZiZ(r:Str):∀us:List Rw,Yd (us.filter (ZaI r)) r=Yd us r
 |[]=>rfl
 |w::us=>by
  have ih:=ZiZ r us;unfold Yd at ih⊢
  cases e:ZaI r w with
  |true=>
   rw[List.filter_cons_of_pos e];cases f:Zdz r w with
   |none=>rw[List.filterMap_cons_none f,List.filterMap_cons_none f,ih]
   |some y=>rw[List.filterMap_cons_some f,List.filterMap_cons_some f,ih]
  |false=>rw[List.filter_cons_of_neg (by rw[e];exact Bool.false_ne_true),ih,List.filterMap_cons_none (ZjO e).2.1]
theorem ZhH(r:Str):∀(us:List Rw) (l:Tb),(us.filter (ZaI r)).foldl (Xb r) l=us.foldl (Xb r) l
 |[],_=>rfl
 |w::us,l=>by
  cases e:ZaI r w with
  |true=>
   rw[List.filter_cons_of_pos e,List.foldl_cons,List.foldl_cons];exact ZhH r us _
  |false=>
   rw[List.filter_cons_of_neg (by rw[e];exact Bool.false_ne_true),List.foldl_cons,(ZjO e).2.2 l]
   exact ZhH r us l
theorem ZgT{ws:List Rw}{r:Str}{s x:Int}(e:ZR (YH ws r) x=ZR (YH ws r) s):YM (ZR ws x) r=YM (ZR (YH ws r) s) r/\Yd (ZR ws x) r=Yd (ZR (YH ws r) s) r/\Yg (ZR ws x) r=Yg (ZR (YH ws r) s) r:=by
 rw[<-e,Zrp];exact⟨(ZjP r _).symm,(ZiZ r _).symm,(ZhH r _ []).symm⟩
structure Zp3 (s:Hs) (w:Rw):Prop where
 put:w.word="put"->YM s.ws w.one=false
 held:w.word="hold"->s.ws.any (XS w.one)=false
 ser:∀n∈Zaa w,n∈s.rs.map Sr.nm
def Zaz(cn ca cl ce:Addr)(n:Nat)(C:Addr):Sp:=fun vs H Q _=>∃(a d:Addr) (w:Rw) (s:Hs) (F:List Addr),vs=[.ref a,.ref d]/\0<n/\ZQ cn ca cl ce C H a s F/\ZbP H d w/\s.ws.length<=900/\s.rs.length<=63/\Zp3 s w/\∀H',Zx H H'->Q .non H'
theorem ZgC{cn ca cl ce C:Addr}:∀vs H Q E,¬Zaz cn ca cl ce 0 C vs H Q E:=fun _ _ _ _ ⟨_,_,_,_,_,_,z,_⟩=>Nat.lt_irrefl 0 z
theorem ZmD(h:Str):∀ws:List Rw,(ws.filter JH).any (XS h)=ws.any (XS h)
 |[]=>rfl
 |w::ws=>by
  have ih:=ZmD h ws;cases e:JH w with
  |true=>rw[List.filter_cons_of_pos e,List.any_cons,List.any_cons,ih]
  |false=>
   rw[List.filter_cons_of_neg (by rw[e];exact Bool.false_ne_true),List.any_cons,ih]
   cases w with
   |hold _ _ _ _=>cases e
   |_=>rfl
theorem Zp4{cn ca cl ce:Addr}{H:Hp}{ds:List Addr}{rs:List Sr}(pr:Paired (Zct cn ca cl ce H) ds rs)(j:Nat)(d:Addr)(e:ds[j]? =some d):∃r v,rs[j]? =some r/\H d=some (.tup [.str r.nm,oS r.el,v]):=by
 obtain⟨r,er,v,row,_⟩:=Yq pr j d e;exact⟨r,v,er,row⟩
theorem JG:ZC ["self","row","name","series"] ["self","row"] (Zu JR):=⟨rfl,rfl,rfl,by decide+kernel,rfl,by decide+kernel,by decide+kernel⟩
theorem Zee{f:Addr}{fd:FuncData}(F:Fun K "refuse_row" "House.refuse_row" JR f fd)(T:Txt K mg Zg Zd Ze Zb Zk)(n:Nat)(ZfX:Cal P w K mg base CX0 1 "is_laid" ["rows","hold"] Zey)(Zac:Cal P w K mg base CX0 1 "is_put" ["rows","record"] Zcv)(ZbH:Cal P w K mg base CX0 1 "series_named" ["row"] ZaX):Yr P w K mg base CX0 (1+n+1+1) f fd ["self","row"] (Zaz Zg Zd Ze Zb (n+1) Zk):=by
 refine F.ok JG (fun vs H Q E h=> ?_) (fun cdv A outer s H vs Q E hr h=> ?_)
 ·obtain⟨a,d,w,s,F,rfl,_⟩:=h
  rfl
 ·obtain⟨a,d,w,s,F,rfl,_,⟨dx,b,t,o,h,r,k,wd,os,kvs,ha,⟨bs,hb,pb⟩,⟨ts,ht,pt⟩,ho,oa,⟨hs,hh,ph⟩,hr',hk,pk,hw,_⟩,hd,ls,lr,tk,q⟩:=h;have l5:=Xl;have hu:=Zcp hr;have hd:H d=some (.tup w.vs):=hd;have lbs:=Paired.length pb;refine⟨_,(Zi (Zv (i:=2) JG.nd rfl (Or.inl rfl) (Zz ZJ (pv 1) Zh (fun _ _=>rfl))) (Zi (Ye (PW.pt (Za4 (Zt Yo (Zz ZJ (pv 1) Zh (fun _ _=>rfl)) ZG (Zy _)) (Jl (ZgY (ZX Zac (hr.mono (by omega)) rfl ZD (Za (Zkp hu (ZW (pv 0) rfl) (pv 2) (Yl Zj) ⟨rfl,rfl,rfl,rfl⟩) (Za (pv 2) Zj))))))) (Zo ZeU) ZF) (Zi (Ye (PW.pt (Za4 (Zt Yo (Zz ZJ (pv 1) Zh (fun _ _=>rfl)) ZG (Zy _)) (Jl (ZgY (ZX ZfX (hr.mono (by omega)) rfl ZD (Za (ZW (pv 0) rfl) (Za (pv 2) Zj))))))) (Zo ZeU) ZF) (Zo (XQ PassesOwn.never rfl (Yy (ZX ZbH (hr.mono (by omega)) rfl ZD (Za (pv 1) Zj))) (ZK (i:=3) JG.nd rfl (Or.inl rfl)) (Zo (Ye (Zt ZeY (pv 3) (Je ["known"] [] rfl (Yy (ZW (pv 0) rfl)) (by rfl) (by exact trivial) (by rfl) (by exact trivial) (fun _ _ _ _=>(ZK (i:=0) (show(nmY ["known"] []).Nodup by decide+kernel) rfl (Or.inl rfl))) (fun _ _ _ _=>Ze3) (fun _ _ _ _=>(Zz (XD (K:=K) rfl) (pv 0) Zh (fun _ _=>rfl)))) rfl) (Zo ZeU) ZF))))))), ?_⟩
  refine(ixT rfl (SqT.of hd) (ZfU w) ?_);refine(fun(rest:∀(σ':L2.St) (H1:Hp),σ'=[some (.ref a),some (.ref d),some (.str w.one),none]->Zx H H1->(_:L2.St->Hp->Prop) σ' H1)=>
   ixT rfl (SqT.of hd) (Zab w) ⟨rfl,_,rfl,YZ (fun e=> ?yes) (fun e=>Xh (rest _ H rfl (Zx.refl _)))⟩) ?rest
  case yes=>
   have e:w.word="put":=by injection of_decide_eq_true e
   have no:=tk.put e;refine⟨_,rfl,a,_,dx,_,_,rfl,ha,T.cl_House,T.n_House_own,ZhG ..,o,rfl,.inl ⟨_,.inl ho⟩,_,rfl,Nat.zero_le _,fun l hl=> ?_⟩;have sl0:=Zn hl (o:=.lst []);have ho1:=sl0 _ _ ho;refine⟨YB (okv os) (Sum.inr w.one),.inl ⟨okv os,Sum.inr w.one,.inl ho1,rfl,rfl⟩, ?_⟩
   by_cases m:w.one∈os.map (·.1)
   ·obtain⟨x,hx,e2⟩:=List.mem_map.mp m;have ev:=ZfW oa.one x hx;rw[e2] at ev
    rw[ev];have at2:=Yj sl0 (oa.at_ x hx);have lu2:(YH s.ws x.1).length<=s.ws.length:=List.length_filter_le _ _;refine⟨_,rfl,x.2,YH s.ws x.1,w.one,rfl,at2,by omega,fun H2 s2=>⟨_,rfl, ?_⟩⟩;have nu:YM (YH s.ws x.1) w.one=false:=by rw[e2];exact(ZjP w.one s.ws).trans no
    rw[nu];exact Xh (rest _ H2 rfl (sl0.trans s2))
   ·rw[ZgS m];exact⟨_,rfl,l,[],w.one,rfl,⟨[],Zc,.nil⟩,Nat.zero_le _,fun H2 s2=>⟨_,rfl,Xh (rest _ H2 rfl (sl0.trans s2))⟩⟩
  case rest=>
   rintro σ' H1 rfl s1;have hd1:=s1 _ _ hd;have ha1:=s1 _ _ ha;refine(fun(rest2:∀(σ':L2.St) (H2:Hp),σ'=[some (.ref a),some (.ref d),some (.str w.one),none]->Zx H H2->(_:L2.St->Hp->Prop) σ' H2)=>
    ixT rfl (SqT.of hd1) (Zab w) ⟨rfl,_,rfl,YZ (fun e=> ?yes2) (fun e=>Xh (rest2 _ H1 rfl s1))⟩) ?rest2
   case yes2=>
    have e:w.word="hold":=by injection of_decide_eq_true e
    have lh2:(s.ws.filter JH).length<=s.ws.length:=List.length_filter_le _ _;refine⟨_,rfl,a,_,dx,_,_,rfl,ha1,T.cl_House,T.n_House_holdings,ZbU ..,_,rfl,h,_,w.one,rfl,Yj s1 ⟨hs,hh,ph⟩,by omega,fun H2 s2=>⟨_,rfl, ?_⟩⟩;rw[ZmD,tk.held e];exact Xh (rest2 _ H2 rfl (s1.trans s2))
   case rest2=>
    rintro σ' H2 rfl s2;have hd2:=s2 _ _ hd;refine⟨_,rfl,d,w,rfl,hd2,fun L H3 hL s3 hL3=> ?_⟩;have s23:=s2.trans s3;refine⟨L,rfl,⟨_,SqL.of hL3⟩,Xm (xs:=(Zaa w).map V.str) (fun i σ H'=>∃v3:Option V,σ=[some (.ref a),some (.ref d),some (.str w.one),v3]/\Zx H3 H') ?_ ?_ ?_ ?_⟩
    ·exact⟨none,rfl,Zx.refl _⟩
    ·rintro i σ H4 _ ⟨v3,rfl,s4⟩;exact SqL.of (s4 _ _ hL3)
    ·rintro i x σ H4 hx ⟨v3,rfl,s4⟩;obtain⟨n,rfl,en⟩:∃n,x=V.str n/\n∈Zaa w:=by
      rw[List.getElem?_map] at hx
      cases e:(Zaa w)[i]? with
      |none=>rw[e] at hx;cases hx
      |some y=>rw[e] at hx;exact⟨y,(Option.some.inj hx).symm,List.mem_of_getElem? e⟩
     have s24:=s23.trans s4;have ha4:=s24 _ _ ha;have hb4:=s24 _ _ hb;refine⟨_,rfl,_,rfl,a,_,dx,_,_,rfl,ha4,T.cl_House,T.n_House_book,Zfl ..,b,rfl,⟨_,SqL.of hb4⟩,XC bs.length (fun j=>[((s.rs[j]?).map fun r=>V.str r.nm).getD .non]) (by omega) (fun j=>Nat.le_refl 1) (fun j H5 s5 lt=>⟨_,_,SqL.of (s5 _ _ hb4),List.getElem?_eq_getElem (by rw[List.length_map];exact lt)⟩) (fun H5 s5=>⟨_,SqL.of (s5 _ _ hb4),by rw[List.length_map];exact Nat.le_refl _⟩) (fun j y H5 H6 s5 lt yl RT RF rt rf=> ?_) fun D H5 hD s5 d5=> ?_⟩
     ·obtain⟨rfl,yl⟩:=yl;obtain⟨dd,rfl,ed⟩:=Xq (yl _ (SqL.of (s5 _ _ hb4)));obtain⟨r1,v,er,row⟩:=Zp4 (Zbj (s24.trans s5) pb) j dd ed;rw[er] at rt
      exact⟨trivial,Zmp (ixT rfl (SqT.of row) rfl (rt _ _ rfl (Zx.refl _)))⟩
     have e6:(List.range bs.length).flatMap (fun j=>[((s.rs[j]?).map fun r=>V.str r.nm).getD .non])=(s.rs.map Sr.nm).map V.str:=by
      rw[JW,lbs,ZfG s.rs (fun r=>V.str r.nm) .non,List.map_map]
      rfl
     rw[e6] at d5
     refine⟨D,_,rfl,.inl (SqL.of d5),rfl,ZiY _,_,rfl, ?_⟩;show if(!inV (.str n) ((s.rs.map Sr.nm).map V.str))=true then _ else _;rw[Zqg,decide_eq_true (tk.ser n en)];exact Xh ⟨_,rfl,s4.trans s5⟩
    ·rintro σ H4 ⟨v3,rfl,s4⟩;exact q H4 (s23.trans s4)
def Zbe(z:Str)(wd:List (Str×Str)):List Str:=(wd.filter fun x=>decide (x.2=z)).map (·.1)
def ZbX(s:Hs)(w:Rw):List Str:=match w with
 | .hold _ _ _ _=>Zbe "due" s.wd
 | .lift _ _=>Zbe "held" s.wd
 | .put x _ _=>if x∈s.wd.map (·.1) then[x] else[]
 | .move x _ _=>if x∈s.wd.map (·.1) then[x] else[]
 | .deed x _ _=>if x∈s.wd.map (·.1) then[x] else[]
def ZaA(cn ca cl ce:Addr)(n:Nat)(C:Addr):Sp:=fun vs H Q _=>∃(a d:Addr) (w:Rw) (s:Hs) (F:List Addr),vs=[.ref a,.ref d]/\0<n/\ZQ cn ca cl ce C H a s F/\ZbP H d w/\s.wd.length<=900/\∀L H',H L=none->Zx H H'->H' L=some (.lst ((ZbX s w).map V.str))->Q (.ref L) H'
theorem ZgD{cn ca cl ce C:Addr}:∀vs H Q E,¬ZaA cn ca cl ce 0 C vs H Q E:=fun _ _ _ _ ⟨_,_,_,_,_,_,z,_⟩=>Nat.lt_irrefl 0 z
def Zb8(z:Str)(kv:Key×V):List V:=if kv.2=V.str z then[kV kv.1] else[]
theorem ZeE(z:Str):∀wd:List (Str×Str),(wkv wd).flatMap (Zb8 z)=(Zbe z wd).map V.str
 |[]=>rfl
 |x::wd=>by
  show Zb8 z (Sum.inr x.1,V.str x.2)++(wkv wd).flatMap (Zb8 z)=_;rw[ZeE z wd];unfold Zb8 Zbe
  by_cases e:x.2=z
  ·rw[if_pos (by rw[e]),List.filter_cons_of_pos (by exact decide_eq_true e)]
   rfl
  ·rw[if_neg (by exact vne e),List.filter_cons_of_neg (by exact fun y=>e (of_decide_eq_true y))]
   rfl
theorem Zeb:∀{wd:List (Str×Str)} {r:Str},(YB (wkv wd) (Sum.inr r)).isSome=decide (r∈wd.map (·.1))
 |[],_=>rfl
 |x::wd,r=>by
  show(YB ((Sum.inr x.1,V.str x.2)::wkv wd) (Sum.inr r)).isSome=_
  by_cases e:x.1=r
  ·rw[Yv (by rw[e])];exact(decide_eq_true (by rw[List.map_cons,e];exact List.mem_cons_self ..)).symm
  ·rw[Ys (by exact fun z=>e (by injection z)),Zeb];refine decide_eq_decide.mpr ⟨fun m=> ?_,fun m=> ?_⟩
   ·rw[List.map_cons];exact List.mem_cons_of_mem _ m
   ·rw[List.map_cons] at m
    cases m with
    |head=>exact absurd rfl e
    |tail _ m=>exact m
theorem Zef:ZC ["self","row"] ["self","row"] (Zu JS):=⟨rfl,rfl,rfl,by decide+kernel,rfl,by decide+kernel,by decide+kernel⟩
theorem Zeg{f:Addr}{fd:FuncData}(F:Fun K "touched_by" "House.touched_by" JS f fd)(T:Txt K mg Zg Zd Ze Zb Zk)(n:Nat):Yr P w K mg base CX0 (0+n+1+1) f fd ["self","row"] (ZaA Zg Zd Ze Zb (n+1) Zk):=by
 refine F.ok Zef (fun vs H Q E h=> ?_) (fun cdv A outer s H vs Q E hr h=> ?_)
 ·obtain⟨a,d,w,s,F,rfl,_⟩:=h
  rfl
 ·obtain⟨a,d,w,s,F,rfl,_,⟨dx,b,t,o,h,r,k,wd,os,kvs,ha,_,_,_,_,_,_,_,_,hw,_⟩,hd,lw,q⟩:=h;have l5:=Xl;have hu:=Zcp hr;have hd:H d=some (.tup w.vs):=hd;have lk1:(wkv s.wd).length<=sizeLine:=by
   unfold wkv;rw[List.length_map];omega
  have nf:∀o u,H wd≠some (.frz o u):=fun o u z=>by rw[hw] at z;cases z
  have fin:∀(z:Str) (D v:Addr) (o:Obj) (H2:Hp),H v=none->Zx (upd (upd H v (Xw v wd)) wd (.frz o (.dK (wkv s.wd)))) H2->upd (upd H v (Xw v wd)) wd (.frz o (.dK (wkv s.wd))) D=none->H2 D=some (.lst ((Zbe z s.wd).map V.str))->ZbX s w=Zbe z s.wd->∃c H3,Zr5 H c H2 H3/\Q (.ref D) H3:=fun z D v o H2 hv0 s2 hD d2 e=>by
   have hva:v≠wd:=fun y=>by rw[y,hw] at hv0;cases hv0
   have hDa:D≠wd:=fun y=>by rw[y,Zc] at hD;cases hD
   have hDv:D≠v:=fun y=>by rw[y,Zm hva,Zc] at hD;cases hD
   have fs:Zhe wd (wkv s.wd) H H2:=⟨fun b u n y=>s2 b u (by rw[Zm n,Zm (Zf y hv0)];exact y),o,s2 _ _ Zc⟩
   obtain⟨t1,t2⟩:=fs.thaw hw nf;exact⟨wd,_,t1,q D _ (by rw[Zm hDa,Zm hDv] at hD;exact hD) t2 (by rw[Zm hDa,d2,e])⟩
  refine⟨_,(Zi (Ye (Zt Yo (Zz ZJ (pv 1) Zh (fun _ _=>rfl)) ZG (Zy _)) (Zo (Zw (Zf7 (Je ["record","word"] [] rfl (Zhc (Zhb (ZW (pv 0) rfl))) (by rfl) (by exact trivial) (by rfl) (by exact trivial) (fun _ _ _ _=>(Zjt (K:=K) 2 rfl rfl (Jm (ZK (i:=0) (show(nmY ["record","word"] []).Nodup by decide+kernel) rfl (Or.inl rfl) (Or.inr rfl)) (Jm (ZK (i:=1) (show(nmY ["record","word"] []).Nodup by decide+kernel) rfl (Or.inl rfl) (Or.inr rfl)) ZeV)) rfl rfl)) (fun _ _ _ _=>(JM (Zt Yo (pv 1) ZG (Zy _)))) (fun _ _ _ _=>(pv 0)))))) ZF) (Zi (Ye (Zt Yo (Zz ZJ (pv 1) Zh (fun _ _=>rfl)) ZG (Zy _)) (Zo (Zw (Zf7 (Je ["record","word"] [] rfl (Zhc (Zhb (ZW (pv 0) rfl))) (by rfl) (by exact trivial) (by rfl) (by exact trivial) (fun _ _ _ _=>(Zjt (K:=K) 2 rfl rfl (Jm (ZK (i:=0) (show(nmY ["record","word"] []).Nodup by decide+kernel) rfl (Or.inl rfl) (Or.inr rfl)) (Jm (ZK (i:=1) (show(nmY ["record","word"] []).Nodup by decide+kernel) rfl (Or.inl rfl) (Or.inr rfl)) ZeV)) rfl rfl)) (fun _ _ _ _=>(JM (Zt Yo (pv 1) ZG (Zy _)))) (fun _ _ _ _=>(pv 0)))))) ZF) (Zo (Zw (Je ["record"] [("self",0)] rfl (Yy (Yl (Za (Zz ZJ (pv 1) Zh (fun _ _=>rfl)) Zj))) (by rfl) (by exact⟨rfl,trivial⟩) (by rfl) (by exact⟨⟨rfl,rfl,rfl⟩,trivial⟩) (fun _ _ _ _=>(ZK (i:=0) (show(nmY ["record"] [("self",0)]).Nodup by decide+kernel) rfl (Or.inl rfl))) (fun _ _ _ _=>(JM (ZfB (Zlu hu (pv 0) (Zjx (K:=K) rfl (pv 1) rfl))))) (fun _ _ _ _=>(pv 0))))))), ?_⟩
  cases w with
  |hold x c n y=>
   refine(ixT rfl (SqT.of hd) rfl ⟨rfl,_,rfl,Zfa rfl ?_⟩);refine⟨_,rfl,a,_,dx,_,_,rfl,ha,T.cl_House,T.n_House_words,Zad ..,wd,_,rfl,hw,fun v hv0=>⟨v,wd,_,rfl,Zc,by rw[Zm (Zf hw hv0)];exact hw,fun ob=> ?_⟩⟩
   refine XC (wkv s.wd).length (fun i=>(((wkv s.wd)[i]?).map (Zb8 "due")).getD []) lk1 (fun i=> ?_) (fun i H2 s lt=>⟨s _ _ Zc,lt⟩) (fun H2 s=>⟨s _ _ Zc,Nat.le_refl _⟩) (fun i x H2 H3 s2 lt y RT RF rt rf=> ?_) fun D H2 hD s2 d2=> ?_
   ·cases(wkv s.wd)[i]? with
    |none=>exact Nat.zero_le _
    |some kv=>
     show(Zb8 "due" kv).length<=1;unfold Zb8
     split
     ·exact Nat.le_refl _
     ·exact Nat.zero_le _
   ·obtain⟨kv,p,e2,hp,e3,e4⟩:=y;subst e3 e4;rw[e2] at rt rf
    have rt:∀v H6,Zb8 "due" kv=[v]->_:=rt;have rf:∀H5,Zb8 "due" kv=[]->_:=rf;obtain⟨x0,_,rfl⟩:=List.mem_map.mp (List.mem_of_getElem? e2);have s3:Zx H2 (upd H2 p (.tup [kV (Sum.inr x0.1),V.str x0.2])):=Zn hp;exact⟨p,_,rfl,SqT.of Zc,rfl,_,_,rfl,_,_,rfl,rfl,trivial,_,rfl,rfl,_,rfl,YZ (fun e=>⟨_,rfl,rt _ _ (if_pos (of_decide_eq_true e)) s3⟩) (fun e=>rf _ (if_neg fun y=>e (decide_eq_true y)) s3)⟩
   ·rw[Jp (Zb8 "due") (wkv s.wd),ZeE] at d2
    exact fin "due" D v ob H2 hv0 s2 hD d2 rfl
  |lift x y=>
   refine(ixT rfl (SqT.of hd) rfl ⟨rfl,_,rfl,JC (vne Zmx) (ixT rfl (SqT.of hd) rfl ⟨rfl,_,rfl,Zfa rfl ?_⟩)⟩);refine⟨_,rfl,a,_,dx,_,_,rfl,ha,T.cl_House,T.n_House_words,Zad ..,wd,_,rfl,hw,fun v hv0=>⟨v,wd,_,rfl,Zc,by rw[Zm (Zf hw hv0)];exact hw,fun ob=> ?_⟩⟩
   refine XC (wkv s.wd).length (fun i=>(((wkv s.wd)[i]?).map (Zb8 "held")).getD []) lk1 (fun i=> ?_) (fun i H2 s lt=>⟨s _ _ Zc,lt⟩) (fun H2 s=>⟨s _ _ Zc,Nat.le_refl _⟩) (fun i x H2 H3 s2 lt y RT RF rt rf=> ?_) fun D H2 hD s2 d2=> ?_
   ·cases(wkv s.wd)[i]? with
    |none=>exact Nat.zero_le _
    |some kv=>
     show(Zb8 "held" kv).length<=1;unfold Zb8
     split
     ·exact Nat.le_refl _
     ·exact Nat.zero_le _
   ·obtain⟨kv,p,e2,hp,e3,e4⟩:=y;subst e3 e4;rw[e2] at rt rf
    have rt:∀v H6,Zb8 "held" kv=[v]->_:=rt;have rf:∀H5,Zb8 "held" kv=[]->_:=rf;obtain⟨x0,_,rfl⟩:=List.mem_map.mp (List.mem_of_getElem? e2);have s3:Zx H2 (upd H2 p (.tup [kV (Sum.inr x0.1),V.str x0.2])):=Zn hp;exact⟨p,_,rfl,SqT.of Zc,rfl,_,_,rfl,_,_,rfl,rfl,trivial,_,rfl,rfl,_,rfl,YZ (fun e=>⟨_,rfl,rt _ _ (if_pos (of_decide_eq_true e)) s3⟩) (fun e=>rf _ (if_neg fun y=>e (decide_eq_true y)) s3)⟩
   ·rw[Jp (Zb8 "held") (wkv s.wd),ZeE] at d2
    exact fin "held" D v ob H2 hv0 s2 hD d2 rfl
  |put x sr y=>
   refine(ixT rfl (SqT.of hd) rfl ⟨rfl,_,rfl,JC (vne ZiU) (ixT rfl (SqT.of hd) rfl ⟨rfl,_,rfl,JC (vne ZkH) ?_⟩)⟩);refine(ixT rfl (SqT.of hd) rfl ⟨show 1<=sizeLine from sl,fun t1 ht1=> ?_⟩);have s1:=Zn ht1 (o:=.lst [.str x]);have g1:upd H t1 (.lst [.str x]) t1=some (.lst [.str x]):=Zc;generalize upd H t1 (.lst [.str x])=H1 at s1 g1
   refine⟨t1,rfl,⟨_,SqL.of g1⟩,XC 1 (fun _=>if x∈s.wd.map (·.1) then[V.str x] else[]) (show 1<=sizeLine from sl) (fun _=>by split<;>simp) (fun i H2 s2 lt=>⟨_,_,SqL.of (s2 _ _ g1),List.getElem?_eq_getElem lt⟩) (fun H2 s2=>⟨_,SqL.of (s2 _ _ g1),Nat.le_refl _⟩) (fun i z H2 H3 s2 lt yl RT RF rt rf=> ?_) fun D H2 hD s2 d2=> ?_⟩
   ·obtain⟨rfl,yl⟩:=yl;have zx:=yl _ (SqL.of (s2 _ _ g1));obtain rfl:i=0:=Nat.lt_one_iff.mp lt;obtain rfl:=Option.some.inj zx;have s13:=s1.trans s2;have w3:=s13 _ _ hw;refine⟨⟨rfl,trivial⟩,_,rfl,_,rfl,a,_,dx,_,_,rfl,s13 _ _ ha,T.cl_House,T.n_House_words,Zad ..,wd,_,rfl,.inl ⟨wkv s.wd,Sum.inr x,.inl w3,rfl,rfl⟩,_,rfl, ?_⟩;rw[Zeb];exact YZ (fun e=>⟨_,rfl,rt _ _ (if_pos (of_decide_eq_true e)) (Zx.refl _)⟩) (fun e=>rf _ (if_neg fun y=>e (decide_eq_true y)) (Zx.refl _))
   ·refine q D H2 (YK s1 hD) (s1.trans s2) ?_;rw[d2];show some (HO.lst ((if x∈s.wd.map (·.1) then[V.str x] else[])++[]))=some (HO.lst ((if x∈s.wd.map (·.1) then[x] else[]).map V.str));rw[List.append_nil]
    split<;>rfl
  |move x sr y=>
   refine(ixT rfl (SqT.of hd) rfl ⟨rfl,_,rfl,JC (vne ZkI) (ixT rfl (SqT.of hd) rfl ⟨rfl,_,rfl,JC (vne Zmw) ?_⟩)⟩);refine(ixT rfl (SqT.of hd) rfl ⟨show 1<=sizeLine from sl,fun t1 ht1=> ?_⟩);have s1:=Zn ht1 (o:=.lst [.str x]);have g1:upd H t1 (.lst [.str x]) t1=some (.lst [.str x]):=Zc;generalize upd H t1 (.lst [.str x])=H1 at s1 g1
   refine⟨t1,rfl,⟨_,SqL.of g1⟩,XC 1 (fun _=>if x∈s.wd.map (·.1) then[V.str x] else[]) (show 1<=sizeLine from sl) (fun _=>by split<;>simp) (fun i H2 s2 lt=>⟨_,_,SqL.of (s2 _ _ g1),List.getElem?_eq_getElem lt⟩) (fun H2 s2=>⟨_,SqL.of (s2 _ _ g1),Nat.le_refl _⟩) (fun i z H2 H3 s2 lt yl RT RF rt rf=> ?_) fun D H2 hD s2 d2=> ?_⟩
   ·obtain⟨rfl,yl⟩:=yl;have zx:=yl _ (SqL.of (s2 _ _ g1));obtain rfl:i=0:=Nat.lt_one_iff.mp lt;obtain rfl:=Option.some.inj zx;have s13:=s1.trans s2;have w3:=s13 _ _ hw;refine⟨⟨rfl,trivial⟩,_,rfl,_,rfl,a,_,dx,_,_,rfl,s13 _ _ ha,T.cl_House,T.n_House_words,Zad ..,wd,_,rfl,.inl ⟨wkv s.wd,Sum.inr x,.inl w3,rfl,rfl⟩,_,rfl, ?_⟩;rw[Zeb];exact YZ (fun e=>⟨_,rfl,rt _ _ (if_pos (of_decide_eq_true e)) (Zx.refl _)⟩) (fun e=>rf _ (if_neg fun y=>e (decide_eq_true y)) (Zx.refl _))
   ·refine q D H2 (YK s1 hD) (s1.trans s2) ?_;rw[d2];show some (HO.lst ((if x∈s.wd.map (·.1) then[V.str x] else[])++[]))=some (HO.lst ((if x∈s.wd.map (·.1) then[x] else[]).map V.str));rw[List.append_nil]
    split<;>rfl
  |deed x c y=>
   refine(ixT rfl (SqT.of hd) rfl ⟨rfl,_,rfl,JC (vne ZkJ) (ixT rfl (SqT.of hd) rfl ⟨rfl,_,rfl,JC (vne ZoY) ?_⟩)⟩);refine(ixT rfl (SqT.of hd) rfl ⟨show 1<=sizeLine from sl,fun t1 ht1=> ?_⟩);have s1:=Zn ht1 (o:=.lst [.str x]);have g1:upd H t1 (.lst [.str x]) t1=some (.lst [.str x]):=Zc;generalize upd H t1 (.lst [.str x])=H1 at s1 g1
   refine⟨t1,rfl,⟨_,SqL.of g1⟩,XC 1 (fun _=>if x∈s.wd.map (·.1) then[V.str x] else[]) (show 1<=sizeLine from sl) (fun _=>by split<;>simp) (fun i H2 s2 lt=>⟨_,_,SqL.of (s2 _ _ g1),List.getElem?_eq_getElem lt⟩) (fun H2 s2=>⟨_,SqL.of (s2 _ _ g1),Nat.le_refl _⟩) (fun i z H2 H3 s2 lt yl RT RF rt rf=> ?_) fun D H2 hD s2 d2=> ?_⟩
   ·obtain⟨rfl,yl⟩:=yl;have zx:=yl _ (SqL.of (s2 _ _ g1));obtain rfl:i=0:=Nat.lt_one_iff.mp lt;obtain rfl:=Option.some.inj zx;have s13:=s1.trans s2;have w3:=s13 _ _ hw;refine⟨⟨rfl,trivial⟩,_,rfl,_,rfl,a,_,dx,_,_,rfl,s13 _ _ ha,T.cl_House,T.n_House_words,Zad ..,wd,_,rfl,.inl ⟨wkv s.wd,Sum.inr x,.inl w3,rfl,rfl⟩,_,rfl, ?_⟩;rw[Zeb];exact YZ (fun e=>⟨_,rfl,rt _ _ (if_pos (of_decide_eq_true e)) (Zx.refl _)⟩) (fun e=>rf _ (if_neg fun y=>e (decide_eq_true y)) (Zx.refl _))
   ·refine q D H2 (YK s1 hD) (s1.trans s2) ?_;rw[d2];show some (HO.lst ((if x∈s.wd.map (·.1) then[V.str x] else[])++[]))=some (HO.lst ((if x∈s.wd.map (·.1) then[x] else[]).map V.str));rw[List.append_nil]
    split<;>rfl
def XF(ws:List Rw)(day:Int):List Rw:=Yk (ZR (ws.filter JH) day)
theorem Zss(ws:List Rw)(day:Int):ZR (ws.filter JH) day=(ZR ws day).filter JH:=by
 unfold ZR;rw[List.filter_filter,List.filter_filter]
 congr 1
 funext w
 exact Bool.and_comm ..
theorem Zj0:∀us:List Rw,YF (us.filter JH)=YF us
 |[]=>rfl
 |w::us=>by
  have ih:=Zj0 us;unfold YF at ih⊢
  cases e:JH w with
  |true=>
   rw[List.filter_cons_of_pos e];cases f:Zap w with
   |none=>rw[List.filterMap_cons_none f,List.filterMap_cons_none f,ih]
   |some z=>rw[List.filterMap_cons_some f,List.filterMap_cons_some f,ih]
  |false=>
   rw[List.filter_cons_of_neg (by rw[e];exact Bool.false_ne_true),ih]
   cases w with
   |lift _ _=>cases e
   |_=>rfl
theorem ZkT(us:List Rw):Yk (us.filter JH)=Yk us:=by
 unfold Yk;rw[Zj0,List.filter_filter];refine List.filter_congr fun w _=> ?_;cases w with
 |hold a b c d=>exact Bool.and_true _
 |_=>rfl
theorem ZhI(ws:List Rw)(day:Int):XF ws day=Yk (ZR ws day):=by
 unfold XF;rw[Zss,ZkT]
theorem Zd3{ws:List Rw}{day:Int}{w:Rw}(h:w∈XF ws day):(∃hh c n d,w=.hold hh c n d)/\w.day<=day/\w∈ws:=by
 rw[ZhI] at h
 obtain⟨h1,h2⟩:=List.mem_filter.mp h;obtain⟨h3,h4⟩:=List.mem_filter.mp h1;exact⟨ZbE h2,of_decide_eq_true h4,h3⟩
theorem Zfo{ws:List Rw}{r:Str}{w:Rw}(h:w∈YH ws r):JH w=false:=by
 have:=(List.mem_filter.mp h).2;cases w with
 |hold _ _ _ _=>cases this
 |lift _ _=>cases this
 |_=>rfl
def Xr(ws:List Rw)(r:Str)(day:Int):List Rw:=YH ws r++XF ws day
theorem Zm3(ws:List Rw)(r:Str)(day:Int):ZR (Xr ws r day) day=ZR (YH ws r) day++XF ws day:=by
 unfold Xr;show(YH ws r++XF ws day).filter _=(YH ws r).filter _++XF ws day;rw[List.filter_append]
 congr 1
 exact List.filter_eq_self.mpr fun w hw=>decide_eq_true (Zd3 hw).2.1
theorem Zit{us:List Rw}{r:Str}(h:∀w∈us,∃hh c n d,w=Rw.hold hh c n d):YM us r=false/\Yd us r=[]/\(∀l,us.foldl (Xb r) l=l)/\YF us=[]:=by
 induction us with
 |nil=>exact⟨rfl,rfl,fun _=>rfl,rfl⟩
 |cons w us ih=>
  obtain⟨hh,c,n,d,rfl⟩:=h w (List.mem_cons_self ..);obtain⟨a1,a2,a3,a4⟩:=ih fun x hx=>h x (List.mem_cons_of_mem _ hx);exact⟨a1,a2,a3,a4⟩
theorem Zfp(ws:List Rw)(r:Str)(day:Int):YM (ZR (Xr ws r day) day) r=YM (ZR ws day) r/\Yd (ZR (Xr ws r day) day) r=Yd (ZR ws day) r/\Yg (ZR (Xr ws r day) day) r=Yg (ZR ws day) r/\∀line,Yt (ZR (Xr ws r day) day) r line=Yt (ZR ws day) r line:=by
 obtain⟨a1,a2,a3,a4⟩:=Zit (r:=r) fun w hw=>(Zd3 (ws:=ws) (day:=day) hw).1;obtain⟨b1,b2,b3⟩:=ZgT (ws:=ws) (r:=r) (x:=day) (s:=day) rfl;rw[Zm3];refine⟨?_, ?_, ?_,fun line=> ?_⟩
 ·rw[b1];unfold YM at a1⊢
  rw[List.any_append,a1,Bool.or_false]
 ·rw[b2];unfold Yd at a2⊢
  rw[List.filterMap_append,a2,List.append_nil]
 ·rw[b3];unfold Yg;rw[List.foldl_append,a3]
 ·have own0:∀w∈ZR (YH ws r) day,JH w=false:=fun w hw=>Zfo (List.mem_filter.mp hw).1;have l0:YF (ZR (YH ws r) day)=[]:=List.filterMap_eq_nil_iff.mpr fun w hw=>by
   have:=own0 w hw;cases w with
   |lift _ _=>cases this
   |_=>rfl
  have l1:YF (ZR (YH ws r) day++XF ws day)=[]:=by
   unfold YF at l0 a4⊢
   rw[List.filterMap_append,l0,a4]
   rfl
  have st:Yk (ZR (YH ws r) day++XF ws day)=XF ws day:=by
   unfold Yk;rw[l1,List.filter_append,List.filter_eq_nil_iff.mpr fun w hw=>by
    have:=own0 w hw;cases w with
    |hold _ _ _ _=>cases this
    |_=>exact Bool.false_ne_true,List.nil_append]
   refine List.filter_eq_self.mpr fun w hw=> ?_;obtain⟨⟨hh,c,n,d,rfl⟩,_⟩:=Zd3 hw;show decide (hh∉([]:List Str))=true;exact decide_eq_true List.not_mem_nil
  unfold Yt;rw[st,ZhI]
theorem Zj1{rs:List Sr}{ws:List Rw}{r:Str}{day:Int}{j:Jd}(is:IsJ rs (Xr ws r day) r day j):IsJ rs ws r day j:=by
 obtain⟨e1,e2,e3,e4⟩:=Zfp ws r day;refine⟨fun z=>is.no (e1.trans z),fun z=> ?_⟩;obtain⟨y,r0,t,top,ow,ht,c4,c5,c6,c7,c8,c9⟩:=is.yes (e1.trans z);rw[e2] at top
 rw[e3] at c6
 rw[e4] at c7
 exact⟨y,r0,t,top,ow,ht,c4,c5,c6,c7,c8,c9⟩
theorem ZkU{rs:List Sr}{ws:List Rw}{r:Str}{day:Int}{H:Hp}{v:V}(is:Zhw rs (Xr ws r day) r day H v):Zhw rs ws r day H v:=by
 obtain⟨e1,e2,e3,e4⟩:=Zfp ws r day;refine⟨fun z=>is.no (e1.trans z),fun z=> ?_⟩;obtain⟨y,r0,t,top,ow,ht,no,yes⟩:=is.yes (e1.trans z);rw[e2] at top
 rw[e3] at no yes
 exact⟨y,r0,t,top,ow,ht,no,yes⟩
theorem ZhJ{rs:List Sr}{ws:List Rw}{r:Str}{day:Int}(ro:ZcY rs ws)(l:ws.length<=500):ZcY rs (Xr ws r day):=by
 have l1:(YH ws r).length<=ws.length:=List.length_filter_le _ _;have l2:(XF ws day).length<=(ws.filter Xn).length:=by
  rw[ZhI];have:(Yk (ZR ws day)).length<=((ZR ws day).filter Xn).length:=by
   unfold Yk;rw[<-List.countP_eq_length_filter,<-List.countP_eq_length_filter];refine List.countP_mono_left fun w _ h=> ?_;obtain⟨a,b,c,d,rfl⟩:=ZbE h
   rfl
  refine Nat.le_trans this ?_;unfold ZR;rw[List.filter_filter,<-List.countP_eq_length_filter,<-List.countP_eq_length_filter];exact List.countP_mono_left fun w _ h=>(Bool.and_eq_true_iff.mp h).1
 have l3:=ro.held;have l4:(ws.filter Xn).length<=ws.length:=List.length_filter_le _ _;refine⟨?_, ?_,fun q y hy=> ?_⟩
 ·unfold Xr;rw[List.length_append];omega
 ·unfold Xr;rw[List.filter_append,List.length_append,List.filter_eq_nil_iff.mpr fun w hw=>by
   have:=Zfo hw;cases w with
   |hold _ _ _ _=>cases this
   |_=>exact Bool.false_ne_true]
  have:=List.length_filter_le Xn (XF ws day);rw[List.length_nil];omega
 ·obtain⟨w,hw,e⟩:=List.mem_filterMap.mp hy;refine ro.ser q y (List.mem_filterMap.mpr ⟨w, ?_,e⟩);rcases List.mem_append.mp hw with z|z
  ·exact(List.mem_filter.mp z).1
  ·exact(Zd3 z).2.2
structure Zau (rs:List Sr) (ws:List Rw) (r:Str) (day:Int) (z:Str):Prop where
 no:YM (ZR ws day) r=false->z="absent"
 yes:YM (ZR ws day) r=true->∃(y:Za3) (r0:Sr) (t:Tr),Top (Yd (ZR ws day) r) y/\Zdx rs.reverse (some y.2)=some r0/\r0.tm=some t/\z=Jy (t.due (Yg (ZR ws day) r)) (Yt (ZR ws day) r (Zbz rs.reverse (some y.2))).length day
theorem IsJ.word{rs:List Sr}{ws:List Rw}{r:Str}{day:Int}{j:Jd}(is:IsJ rs ws r day j):Zau rs ws r day j.word:=by
 refine⟨fun z=>by rw[is.no z];rfl,fun z=> ?_⟩
 obtain⟨y,r0,t,top,ow,ht,c4,c5,c6,c7,c8,c9⟩:=is.yes z;exact⟨y,r0,t,top,ow,ht,by rw[c9,c6,c7.length_eq]⟩
def ZjQ(s:Hs)(f:Str×Str):Prop:=∃n day,(f.1,n,day)∈s.gs/\Zau s.rs s.ws f.1 day f.2
def Znr(H:Hp)(f:Str×Str)(v:V):Prop:=∃p,v=.ref p/\H p=some (.tup [.str f.1,.str f.2])
structure ZdH (s:Hs):Prop where
 bk:JD [] s.rs
 lr:s.rs.length<=63
 rows:ZcY s.rs s.ws
 few:s.ws.length<=400
 one:(s.gs.map (·.1)).Nodup
 own:∀g∈s.gs,YH s.ws g.1≠[]
def Zbf(cn ca cl ce:Addr)(n:Nat)(C:Addr):Sp:=fun vs H Q _=>∃(a l:Addr) (recs:List Str) (s:Hs) (F:List Addr),vs=[.ref a,.ref l]/\0<n/\ZQ cn ca cl ce C H a s F/\ZdH s/\H l=some (.lst (recs.map V.str))/\recs.length<=900/\(∀r∈recs,r∈s.gs.map (·.1))/\
 ∀L us fs H',H L=none->Zx H H'->H' L=some (.lst us)->Paired (Znr H') fs us->fs.map (·.1)=recs->(∀f∈fs,ZjQ s f)->Q (.ref L) H'
theorem ZhK{cn ca cl ce C:Addr}:∀vs H Q E,¬Zbf cn ca cl ce 0 C vs H Q E:=fun _ _ _ _ ⟨_,_,_,_,_,_,z,_⟩=>Nat.lt_irrefl 0 z
theorem ZjR{H:Hp}:∀{gs:List Gn} {kvs:List (Key×V)},Paired (ZfR H) gs kvs->(gs.map (·.1)).Nodup->∀g∈gs,∃p,YB kvs (Sum.inr g.1)=some (.ref p)/\H p=some (.tup [.int g.2.1,.int g.2.2])
 |_,_,.nil,_,g,h=>nomatch h
 |_,_,.cons (a:=y) ⟨p,e,hp⟩ t,nd,g,h=>by
  rw[List.map_cons] at nd
  obtain⟨off,rest⟩:=List.nodup_cons.mp nd;subst e;cases h with
  |head=>exact⟨p,Yv rfl,hp⟩
  |tail _ m=>
   obtain⟨p',e',h'⟩:=ZjR t rest g m;have ne:¬(Sum.inr y.1:Key)=Sum.inr g.1:=fun z=>off (List.mem_map.mpr ⟨g,m,by injection z with z;exact z.symm⟩)
   exact⟨p',(Ys (p:=(Sum.inr y.1,V.ref p)) ne).trans e',h'⟩
theorem ZjS{H H':Hp}(s:∀b xs,H b=some (.tup xs)->H' b=some (.tup xs)):∀{fs:List (Str×Str)} {us:List V},Paired (Znr H) fs us->Paired (Znr H') fs us
 |_,_,.nil=> .nil
 |_,_,.cons ⟨p,e,h⟩ t=> .cons ⟨p,e,s _ _ h⟩ (ZjS s t)
def Zqh(H:Hp)(S D:Addr)(ws:List Rw)(n:Nat):Prop:=∃kvs:List (Key×V),H S=some (.dK kvs)/\kvs.length<=n/\∀day v,YB kvs (Sum.inl day)=some v->∃l,v=.ref l/\l≠D/\YG H l (XF ws day)
theorem Zf0{kvs:List (Key×V)}{k j:Key}{y:V}:YB (Jo kvs k y) j=if j=k then some y else YB kvs j:=by
 unfold Jo;cases e:(kvs.any fun kv=>decide (kv.1=k)) with
 |true=>
  rw[if_pos rfl,Zh6]
  by_cases z:j=k
  ·subst z;rw[Za5] at e
   obtain⟨v,ev⟩:=Option.isSome_iff_exists.mp e;rw[if_pos rfl,ev];exact congrArg some (if_pos rfl)
  ·rw[if_neg z];cases YB kvs j with
   |none=>rfl
   |some v=>exact congrArg some (if_neg z)
 |false=>
  rw[if_neg Bool.false_ne_true];have no:YB kvs k=none:=by
   rw[Za5] at e
   cases q:YB kvs k with
   |none=>rfl
   |some v=>rw[q] at e;cases e
  have app:∀l:List (Key×V),YB (l++[(k,y)]) j=match YB l j with|some v=>some v|none=>if j=k then some y else none:=fun l=>by
   induction l with
   |nil=>
    by_cases z:k=j
    ·show YB [(k,y)] j=_;rw[Yv z,if_pos z.symm]
     rfl
    ·show YB [(k,y)] j=_;rw[Ys z,if_neg (Ne.symm z)]
     rfl
   |cons p l ih=>
    by_cases z:p.1=j
    ·rw[List.cons_append,Yv z,Yv z]
    ·rw[List.cons_append,Ys z,Ys z,ih]
  rw[app]
  by_cases z:j=k
  ·rw[z,no,if_pos rfl]
  ·rw[if_neg z,if_neg z];cases YB kvs j<;>rfl
theorem Zp5(kvs:List (Key×V))(k:Key)(v:V):(Jo kvs k v).length<=kvs.length+1:=by
 unfold Jo
 split
 ·rw[List.length_map];exact Nat.le_succ _
 ·rw[List.length_append];exact Nat.le_refl _
theorem YL:ZC ["self","records","found","stays","record","day","rows"] ["self","records"] (Zu Za7):=⟨rfl,rfl,rfl,by decide+kernel,rfl,by decide+kernel,by decide+kernel⟩
theorem ZeF{f:Addr}{fd:FuncData}(F:Fun K "words_now" "House.words_now" Za7 f fd)(T:Txt K mg Zg Zd Ze Zb Zk)(n:Nat)(Xy:Cal P w K mg base CX0 1 "counted" ["rows","day"] Zaq)(Zcz:Cal P w K mg base CX0 14 "judged" ["book","rows","record","day"] (Ze7 Zg Zd Ze Zb))(Jg:Cal P w K mg base CX0 1 "standing" ["rows"] ZaH):Yr P w K mg base CX0 (14+n+1+1) f fd ["self","records"] (Zbf Zg Zd Ze Zb (n+1) Zk):=by
 refine F.ok YL (fun vs H Q E h=> ?_) (fun cdv A outer s H vs Q E hr h=> ?_)
 ·obtain⟨a,l,recs,s,F,rfl,_⟩:=h
  rfl
 ·obtain⟨a,l,recs,s,F,rfl,_,⟨dx,b,t,o,h,r,k,wd,os,kvs,ha,hb,⟨ts,ht,pt⟩,ho,oa,hh,hr',hk,pk,hw,_⟩,ok,hl,lrc,sub,q⟩:=h;have l5:=Xl;have hu:=Zcp hr;have few:=ok.few;refine⟨_,(Zi (Zv (i:=2) YL.nd rfl (Or.inl rfl) (Yl Zj)) (Zi (Zv (i:=3) YL.nd rfl (Or.inl rfl) Zbq) (Zi (XQ PassesOwn.never rfl (Yy (pv 1)) (ZK (i:=4) YL.nd rfl (Or.inl rfl)) (Zi (Zv (i:=5) YL.nd rfl (Or.inl rfl) (Zz ZJ (Zba hu (ZW (pv 0) rfl) (pv 4) (fun _ _=>rfl)) Zh (fun _ _=>rfl))) (Zi (Ye (ZfB (Ze1 hu (pv 5) (pv 3))) (Zo (ZcI hu (pv 3) (pv 5) (ZX Jg (hr.mono (by omega)) rfl ZD (Za (ZX Xy (hr.mono (by omega)) rfl ZD (Za (ZW (pv 0) rfl) (Za (pv 5) Zj))) Zj)) rfl)) ZF) (Zi (Zv (i:=6) YL.nd rfl (Or.inl rfl) (Zr ZcK (Zba hu (ZW (pv 0) rfl) (pv 4) (fun _ _=>rfl)) (Zba hu (pv 3) (pv 5) (fun _ _=>rfl)))) (Zo (Xf (ZaC PySem.F.plainAttrs_list PySem.F.slot_list_append PySem.F.type_list_append Yz (pv 2) (Za (YX (Za (pv 4) (Za (Zz ZJ (ZX Zcz (hr.mono (by omega)) rfl ZD (Za (ZW (pv 0) rfl) (Za (pv 6) (Za (pv 4) (Za (pv 5) Zj))))) Zh (fun _ _=>rfl)) Zj))) Zj)))))))) (Zo (Zw (pv 2)))))), ?_⟩
  refine⟨Nat.zero_le _,fun Fd hFd=> ?_⟩;have sF:=Zn hFd (o:=.lst []);refine(fun S hS=> ?_);have sS:=Zn hS (o:=.dK []);have nFS:Fd≠S:=Zf (show upd H Fd (.lst []) Fd=some (.lst []) from Zc) hS;have nS:H S=none:=YK sF hS;refine⟨_,rfl,l,rfl,⟨_,SqL.of ((sF.trans sS) _ _ hl)⟩,Xm (xs:=recs.map V.str) (fun i σ H'=>∃(v4 v5 v6:Option V) (us:List V) (fs:List (Str×Str)),σ=[some (.ref a),some (.ref l),some (.ref Fd),some (.ref S),v4,v5,v6]/\H' Fd=some (.lst us)/\Paired (Znr H') fs us/\fs.map (·.1)=recs.take i/\(∀f∈fs,ZjQ s f)/\Zqh H' S Fd s.ws i/\Zx H H') ?_ ?_ ?_ ?_⟩
  ·exact⟨none,none,none,[],[],rfl,by rw[Zm nFS];exact Zc,.nil,rfl,(fun f hf=>nomatch hf),⟨[],Zc,Nat.le_refl _,fun d v z=>nomatch z⟩,sF.trans sS⟩
  ·rintro i σ H1 _ ⟨v4,v5,v6,us,fs,rfl,_,_,_,_,_,s1⟩;exact SqL.of (s1 _ _ hl)
  ·rintro i x σ H1 hx ⟨v4,v5,v6,us,fs,rfl,hF1,pf,ef,wf,⟨ks,hS1,lks,st⟩,s1⟩;have hi:i<recs.length:=by
    have:=(List.getElem?_eq_some_iff.mp hx).1
    rwa [List.length_map] at this
   obtain⟨rc,rfl,erc⟩:∃rc,x=V.str rc/\recs[i]? =some rc:=by
    rw[List.getElem?_map] at hx
    cases e:recs[i]? with
    |none=>rw[e] at hx;cases hx
    |some y=>rw[e] at hx;exact⟨y,(Option.some.inj hx).symm,rfl⟩
   obtain⟨⟨g1,n,day⟩,hg,e1⟩:=List.mem_map.mp (sub rc (List.mem_of_getElem? erc));have e1:g1=rc:=e1;subst e1;obtain⟨pg,vg,hpg⟩:=ZjR (Jh (fun b xs e=>s1 _ _ e) pk) ok.one _ hg;have hk1:=s1 _ _ hk;have ha1:=s1 _ _ ha;have lfs:us.length<=900:=by
    have h1:=Paired.length pf;have h2:=congrArg List.length ef;rw[List.length_map,List.length_take] at h2
    omega
   refine⟨_,rfl,a,_,dx,_,_,rfl,ha1,T.cl_House,T.n_House_taken,ZdG ..,_,rfl,k,_,rfl,.inl ⟨kvs,Sum.inr g1,.inl hk1,rfl,vg.symm⟩,pg,_,_,_,rfl,rfl,SqT.of hpg,rfl, ?_⟩;refine(fun(rest:∀(σ':L2.St) (H2:Hp),σ'=[some (.ref a),some (.ref l),some (.ref Fd),some (.ref S),some (.str g1),some (.int day),v6]->H2 Fd=some (.lst us)->Paired (Znr H2) fs us->(∃ks:List (Key×V),H2 S=some (.dK ks)/\ks.length<=i+1/\(∀day v,YB ks (Sum.inl day)=some v->∃l,v=.ref l/\l≠Fd/\YG H2 l (XF s.ws day))/\YB ks (Sum.inl day)≠none)->Zx H H2->(_:L2.St->Hp->Prop) σ' H2)=>
    ⟨_,rfl,_,rfl,S,_,rfl,.inl ⟨ks,Sum.inl day,.inl hS1,rfl,rfl⟩,_,rfl,YZ (fun e=> ?yes) (fun e=>rest _ H1 rfl hF1 pf ⟨ks,hS1,by omega,st,fun z=>e (by rw[z];rfl)⟩ s1)⟩) ?rest
   case yes=>
    have lh:(s.ws.filter JH).length<=s.ws.length:=List.length_filter_le _ _;refine⟨_,rfl,a,_,dx,_,_,rfl,ha1,T.cl_House,T.n_House_holdings,ZbU ..,_,rfl,h,s.ws.filter JH,day,rfl,Yj s1 hh,by omega,fun C H2 hC s2 rc=> ?_⟩;have lu:(ZR (s.ws.filter JH) day).length<=(s.ws.filter JH).length:=List.length_filter_le _ _;refine⟨C,_,rfl,rc,by omega,fun L H3 hL s3 rl=> ?_⟩;have s23:=s2.trans s3;have hS3:=s23 _ _ hS1
    have hF3:=s23 _ _ hF1;have nLF:L≠Fd:=fun z=>by rw[z,s2 _ _ hF1] at hL;cases hL
    have kp:∀c u,c≠S->H3 c=some u->upd H3 S (.dK (Jo ks (Sum.inl day) (.ref L))) c=some u:=fun c u n e=>by rw[Zm n];exact e
    have kt:∀c xs,H3 c=some (.tup xs)->upd H3 S (.dK (Jo ks (Sum.inl day) (.ref L))) c=some (.tup xs):=fun c xs e=>kp c _ (Yi e hS3 (fun z=>nomatch z)) e;have krw:∀{p:Addr} {us:List Rw},YG H3 p us->YG (upd H3 S (.dK (Jo ks (Sum.inl day) (.ref L)))) p us:=fun{p us} ⟨ds,e,pp⟩=>⟨ds,kp _ _ (Yi e hS3 (fun z=>nomatch z)) e,Xc kt pp⟩
    refine⟨_,rfl,_,rfl,S,_,rfl,Zid.k (k:=Sum.inl day) hS3 (by omega),rest _ _ rfl (kp _ _ nFS hF3) (ZjS (fun b xs e=>kt _ _ (s23 _ _ e)) pf) ⟨Jo ks (Sum.inl day) (.ref L),Zc,Nat.le_trans (Zp5 ks _ _) (by omega),fun d v ev=> ?_, ?_⟩ fun c u e=>kp c u (Zf e nS) (s23 _ _ (s1 _ _ e))⟩
    ·rw[Zf0] at ev
     by_cases z:(Sum.inl d:Key)=Sum.inl day
     ·rw[if_pos z] at ev
      obtain rfl:=Option.some.inj ev;obtain rfl:d=day:=by injection z
      exact⟨L,rfl,nLF,krw rl⟩
     ·rw[if_neg z] at ev
      obtain⟨l',e,nl,at_⟩:=st d v ev;exact⟨l',e,nl,krw (Yj s23 at_)⟩
    ·rw[Zf0,if_pos rfl];exact fun z=>nomatch z
   case rest=>
    rintro σ' H2 rfl hF2 pf2 ⟨ks2,hS2,lk2,st2,has⟩ s2;obtain⟨v,ev⟩:=Option.ne_none_iff_exists'.mp has;obtain⟨ly,rfl,nly,at_⟩:=st2 day v ev;obtain⟨ys,hy,py⟩:=at_;have m:g1∈os.map (·.1):=(oa.mem g1).mpr (ok.own _ hg);obtain⟨⟨xo,xl⟩,hxo,e2⟩:=List.mem_map.mp m;have e2:xo=g1:=e2;subst e2;obtain⟨zs,hz,pz⟩:=Yj s2 (oa.at_ _ hxo);have vo:=ZfW oa.one _ hxo;have lz:zs.length=(YH s.ws xo).length:=Paired.length pz
    have lz2:(YH s.ws xo).length<=s.ws.length:=List.length_filter_le _ _;have ly1:=Paired.length py;have rof:=ZhJ (r:=xo) (day:=day) ok.rows (by omega);have lyr:=rof.len;have elen:(Xr s.ws xo day).length=(YH s.ws xo).length+(XF s.ws day).length:=List.length_append;have ha2:=s2 _ _ ha;refine⟨_,rfl,a,_,dx,_,_,rfl,ha2,T.cl_House,T.n_House_own,ZhG ..,_,rfl,o,_,rfl,.inl ⟨okv os,Sum.inr xo,.inl (s2 _ _ ho),rfl,vo.symm⟩,_,rfl,_,rfl,S,_,rfl,.inl ⟨ks2,Sum.inl day,.inl hS2,rfl,ev.symm⟩,xl,ly,_,_,rfl,rfl,SqL.of hz,SqL.of hy,by rw[List.length_map,List.length_map];omega,fun R hR=> ?_⟩
    have s3:=Zn hR (o:=.lst (zs.map V.ref++ys.map V.ref));have hR3:YG (upd H2 R (.lst (zs.map V.ref++ys.map V.ref))) R (Xr s.ws xo day):=⟨zs++ys,by rw[Zc,List.map_append],Zfk (ZS s3 pz) (ZS s3 py)⟩
    have hF3:=s3 _ _ hF2;generalize upd H2 R (.lst (zs.map V.ref++ys.map V.ref))=H3 at s3 hR3 hF3
    have s23:=s2.trans s3;refine⟨_,rfl,.inl ⟨rfl,_,SqL.of hF3⟩,_,rfl,_,rfl,a,_,dx,_,_,rfl,s23 _ _ ha,T.cl_House,T.n_House_book,Zfl ..,_,rfl,_,rfl,_,rfl,b,R,s.rs,Xr s.ws xo day,xo,day,rfl,JB s23 hb,ok.bk,ok.lr,hR3,rof,fun ja j H4 hja0 s4 ⟨Lh,hja,_⟩ _ is=>⟨ja,_,_,_,rfl,rfl,SqT.of hja,rfl,show 2<=sizeLine from sl,fun tt htt=> ?_⟩⟩;have hF4:=s4 _ _ hF3;have s5:=Zn htt (o:=.tup [.str xo,.str j.word]);refine⟨Fd,_,V.ref tt,rfl,rfl,s5 _ _ hF4,by omega, ?_⟩
    have nF:Fd≠tt:=Zf hF4 htt;have kp:∀c u,c≠Fd->H4 c=some u->upd (upd H4 tt (.tup [.str xo,.str j.word])) Fd (.lst (us++[.ref tt])) c=some u:=fun c u n e=>by rw[Zm n,Zm (Zf e htt)];exact e
    have kt:∀c xs,H4 c=some (.tup xs)->upd (upd H4 tt (.tup [.str xo,.str j.word])) Fd (.lst (us++[.ref tt])) c=some (.tup xs):=fun c xs e=>kp c _ (Yi e hF4 (fun z=>nomatch z)) e;have s34:=s3.trans s4;refine⟨_,_,_,us++[.ref tt],fs++[(xo,j.word)],rfl,Zc,Paired.snoc (ZjS (fun b xs e=>kt _ _ (s34 _ _ e)) pf2) ⟨tt,rfl,by rw[Zm (Ne.symm nF),Zc]⟩,by rw[List.map_append,ef,List.take_add_one,erc];rfl,fun f hf=> ?_,⟨ks2,kp _ _ (Ne.symm nFS) (s34 _ _ hS2),lk2,fun d v ev2=> ?_⟩,fun c u e=>kp c u (Zf e hFd) (s34 _ _ (s2 _ _ e))⟩
    ·rcases List.mem_append.mp hf with old|new
     ·exact wf f old
     ·rw[List.mem_singleton.mp new];exact⟨n,day,hg,(Zj1 is).word⟩
    ·obtain⟨l',e,nl,ds,hd',pd⟩:=st2 d v ev2;exact⟨l',e,nl,ds,kp _ _ nl (s34 _ _ hd'),Xc (fun c xs e=>kt _ _ (s34 _ _ e)) pd⟩
  ·rintro σ H1 ⟨v4,v5,v6,us,fs,rfl,hF1,pf,ef,wf,_,s1⟩;rw[List.length_map,List.take_length] at ef
   exact⟨_,rfl,q Fd us fs H1 hFd s1 hF1 pf ef wf⟩
theorem ZkV{o:Option Int}{m n:Nat}{x:Int}:(Jy o m x≠"due"->m<=n->Jy o n x=Jy o m x)/\(Jy o m x≠"held"->n<=m->Jy o n x=Jy o m x):=by
 cases o with
 |none=>exact⟨fun _ _=>rfl,fun _ _=>rfl⟩
 |some D=>
  show((if x<D then Str.ofString "kept" else if 0<m then Str.ofString "held" else Str.ofString "due")≠Str.ofString "due"->m<=n->(if x<D then Str.ofString "kept" else if 0<n then Str.ofString "held" else Str.ofString "due")=(if x<D then Str.ofString "kept" else if 0<m then Str.ofString "held" else Str.ofString "due"))/\((if x<D then Str.ofString "kept" else if 0<m then Str.ofString "held" else Str.ofString "due")≠Str.ofString "held"->n<=m->(if x<D then Str.ofString "kept" else if 0<n then Str.ofString "held" else Str.ofString "due")=(if x<D then Str.ofString "kept" else if 0<m then Str.ofString "held" else Str.ofString "due"))
  by_cases h:x<D
  ·simp only [if_pos h];exact⟨fun _ _=>trivial,fun _ _=>trivial⟩
  ·simp only [if_neg h]
   constructor
   ·intro a b
    by_cases g:0<m
    ·rw[if_pos g,if_pos (by omega)]
    ·rw[if_neg g] at a
     exact absurd rfl a
   ·intro a b
    by_cases g:0<m
    ·rw[if_pos g] at a
     exact absurd rfl a
    ·rw[if_neg g,if_neg (by omega)]
theorem Zns{rs:List Sr}{ws:List Rw}{w:Rw}{r:Str}{day:Int}{z:Str}(no:ZaI r w=false)(h:Zau rs ws r day z)
  (f:∀(o:Option Int) (line:List Str),z=Jy o (Yt (ZR ws day) r line).length day->Jy o (Yt (ZR (ws++[w]) day) r line).length day=z):Zau rs (ws++[w]) r day z:=by
 have e:ZR (YH (ws++[w]) r) day=ZR (YH ws r) day:=by rw[ZaL,no,if_neg Bool.false_ne_true,List.append_nil]
 obtain⟨a1,a2,a3⟩:=ZgT (ws:=ws) (r:=r) (x:=day) (s:=day) rfl;obtain⟨b1,b2,b3⟩:=ZgT (ws:=ws++[w]) (r:=r) (x:=day) (s:=day) rfl;rw[e] at b1 b2 b3
 rw[<-a1] at b1
 rw[<-a2] at b2
 rw[<-a3] at b3
 refine⟨fun y=>h.no (b1.symm.trans y),fun y=> ?_⟩;obtain⟨y0,r0,t,top,ow,ht,ez⟩:=h.yes (b1.symm.trans y);refine⟨y0,r0,t,by rw[b2];exact top,ow,ht, ?_⟩
 rw[b3];exact(f _ _ ez).symm
theorem Zqi(ws:List Rw)(w:Rw)(day:Int):ZR (ws++[w]) day=if w.day<=day then ZR ws day++[w] else ZR ws day:=by
 unfold ZR;rw[List.filter_append]
 by_cases h:w.day<=day
 ·simp[h]
 ·simp[h]
theorem Znt{us:List Rw}{w:Rw}{r:Str}{line:List Str}:(JH w=false->Yt (us++[w]) r line=Yt us r line)/\(Zap w=none->(Yt us r line).length<=(Yt (us++[w]) r line).length)/\(Xn w=false->(Yt (us++[w]) r line).length<=(Yt us r line).length):=by
 have lf:YF (us++[w])=YF us++(match Zap w with|some h=>[h]|none=>[]):=Zgj;refine⟨fun h=> ?_,fun h=> ?_,fun h=> ?_⟩
 ·have l0:Zap w=none:=by cases w<;>first|rfl|cases h
  have s0:∀ls,JF ls w=false:=fun ls=>by cases w<;>first|rfl|cases h
  unfold Yt Yk;rw[lf,l0,List.append_nil,List.filter_append,List.filter_cons_of_neg (by rw[s0];exact Bool.false_ne_true),List.filter_nil,List.append_nil]
 ·unfold Yt Yk;rw[lf,h,List.append_nil,List.filter_append,List.filter_append,List.map_append,List.length_append];exact Nat.le_add_right _ _
 ·have s0:∀ls,JF ls w=false:=fun ls=>by cases w<;>first|rfl|cases h
  unfold Yt Yk;rw[List.length_map,List.length_map,List.filter_append,List.filter_cons_of_neg (by rw[s0];exact Bool.false_ne_true),List.filter_nil,List.append_nil,lf,List.filter_filter,List.filter_filter,<-List.countP_eq_length_filter,<-List.countP_eq_length_filter]
  refine List.countP_mono_left fun x _ hx=> ?_;obtain⟨h1,h2⟩:=Bool.and_eq_true_iff.mp hx;refine Bool.and_eq_true_iff.mpr ⟨h1, ?_⟩;obtain⟨a,b,c,d,rfl⟩:=ZbE h2;have h2:a∉YF us++_:=of_decide_eq_true h2;exact decide_eq_true fun y=>h2 (List.mem_append_left _ y)
theorem Zm4{rs:List Sr}{ws:List Rw}{w:Rw}{r:Str}{day:Int}{z:Str}(no:ZaI r w=false)(h1:Xn w=true->z≠"due")(h2:(Zap w).isSome=true->z≠"held")(h:Zau rs ws r day z):Zau rs (ws++[w]) r day z:=by
 refine Zns no h fun o line ez=> ?_;rw[Zqi]
 by_cases le:w.day<=day
 ·rw[if_pos le];obtain⟨a1,a2,a3⟩:=Znt (us:=ZR ws day) (w:=w) (r:=r) (line:=line);cases w with
  |hold a b c d=>rw[(ZkV (n:=_)).1 (by rw[<-ez];exact h1 rfl) (a2 rfl),ez]
  |lift a d=>rw[(ZkV (n:=_)).2 (by rw[<-ez];exact h2 rfl) (a3 rfl),ez]
  |put a b c=>rw[a1 rfl,ez]
  |move a b c=>rw[a1 rfl,ez]
  |deed a b c=>rw[a1 rfl,ez]
 ·rw[if_neg le,ez]
theorem Zb9{b t o h r k w:Addr}{m:Str}(c:¬m="words"/\¬m="taken"/\¬m="run_days"/\¬m="holdings"/\¬m="own"/\¬m="told"/\¬m="book"):(fH b t o h r k w).lookup m=none:=by
 unfold fH;rw[Zq,if_neg c.1,Zq,if_neg c.2.1,Zq,if_neg c.2.2.1,Zq,if_neg c.2.2.2.1,Zq,if_neg c.2.2.2.2.1,Zq,if_neg c.2.2.2.2.2.1,Zq,if_neg c.2.2.2.2.2.2]
 rfl
theorem ZQ.kinds{cn ca cl ce C a:Addr}{H:Hp}{s:Hs}{F:List Addr}:ZQ cn ca cl ce C H a s F->ZiW H F
 |⟨dx,b,t,o,h,r,k,w,os,kvs,ha,hb,ht,ho,oa,hh,hr,hk,pk,hw,e,_,_⟩=>by
  subst e;exact Zgk ht ho (fun x hx=>⟨_,oa.at_ x hx⟩) hh hr hk hw
theorem ZQ.same{cn ca cl ce C a:Addr}{H H':Hp}{s:Hs}{F:List Addr}(sm:Zx H H'):ZQ cn ca cl ce C H a s F->ZQ cn ca cl ce C H' a s F
 |⟨dx,b,t,o,h,r,k,w,os,kvs,ha,hb,ht,ho,oa,hh,hr,hk,pk,hw,e,nd,nb⟩=>
  ⟨dx,b,t,o,h,r,k,w,os,kvs,sm _ _ ha,JB sm hb,Yj sm ht,sm _ _ ho,⟨oa.one,oa.mem,fun x hx=>Yj sm (oa.at_ x hx)⟩,Yj sm hh,sm _ _ hr,sm _ _ hk,Jh (fun b xs e=>sm _ _ e) pk,sm _ _ hw,e,nd,nb⟩
theorem ZQ.ins{cn ca cl ce C a:Addr}{H:Hp}{s:Hs}{F:List Addr}:ZQ cn ca cl ce C H a s F->∃dx b t o h r k w,H a=some (.ins C dx (fH b t o h r k w))/\H w=some (.dK (wkv s.wd))/\w∈F
 |⟨dx,b,t,o,h,r,k,w,os,kvs,ha,hb,ht,ho,oa,hh,hr,hk,pk,hw,e,nd,nb⟩=>⟨dx,b,t,o,h,r,k,w,ha,hw,by rw[e];simp⟩
structure ZcA (s:Hs):Prop where
 keys:s.wd.map (·.1)=s.gs.map (·.1)
 ok:∀f∈s.wd,ZjQ s f
def Ziu(wd:List (Str×Str))(f:Str×Str):List (Str×Str):=wd.map fun x=>if x.1=f.1 then(x.1,f.2) else x
theorem Znu(wd:List (Str×Str))(f:Str×Str):(Ziu wd f).map (·.1)=wd.map (·.1):=by
 unfold Ziu;rw[List.map_map];refine List.map_congr_left fun x _=> ?_;show(if x.1=f.1 then(x.1,f.2) else x).1=x.1
 split<;>rfl
theorem Zp6{wd:List (Str×Str)}{f:Str×Str}(m:f.1∈wd.map (·.1)):Jo (wkv wd) (Sum.inr f.1) (.str f.2)=wkv (Ziu wd f):=by
 unfold Jo;rw[Za5,Zeb,if_pos (decide_eq_true m)];unfold wkv Ziu;rw[List.map_map,List.map_map];refine List.map_congr_left fun x _=> ?_;show(if(Sum.inr x.1:Key)=Sum.inr f.1 then((Sum.inr x.1:Key),V.str f.2) else(Sum.inr x.1,V.str x.2))=(Sum.inr (if x.1=f.1 then(x.1,f.2) else x).1,V.str (if x.1=f.1 then(x.1,f.2) else x).2)
 by_cases e:x.1=f.1
 ·rw[if_pos (by rw[e]),if_pos e]
 ·rw[if_neg (by exact fun z=>e (by injection z)),if_neg e]
theorem ZmE:∀{wd:List (Str×Str)},(wd.map (·.1)).Nodup->∀x∈wd,YB (wkv wd) (Sum.inr x.1)=some (.str x.2)
 |[],_,x,h=>nomatch h
 |y::wd,nd,x,h=>by
  rw[List.map_cons] at nd
  obtain⟨off,rest⟩:=List.nodup_cons.mp nd;cases h with
  |head=>exact Yv rfl
  |tail _ m=>
   have ne:¬(Sum.inr y.1:Key)=Sum.inr x.1:=fun z=>off (List.mem_map.mpr ⟨x,m,by injection z with z;exact z.symm⟩)
   exact(Ys (p:=(Sum.inr y.1,V.str y.2)) ne).trans (ZmE rest x m)
def Zav(wd fs:List (Str×Str)):List (Str×Str):=fs.foldl Ziu wd
theorem ZaM:∀(fs wd:List (Str×Str)),(Zav wd fs).map (·.1)=wd.map (·.1)
 |[],_=>rfl
 |f::fs,wd=>(ZaM fs (Ziu wd f)).trans (Znu wd f)
theorem Zp7{wd:List (Str×Str)}{f x:Str×Str}(h:x∈Ziu wd f):(x.1=f.1/\x.2=f.2)\/(x∈wd/\¬x.1=f.1):=by
 obtain⟨y,hy,e⟩:=List.mem_map.mp h
 by_cases z:y.1=f.1
 ·rw[if_pos z] at e
  exact .inl ⟨by rw[<-e];exact z,by rw[<-e]⟩
 ·rw[if_neg z] at e
  exact .inr ⟨e▸hy,e▸z⟩
theorem ZhL:∀{fs wd:List (Str×Str)} {x:Str×Str},x∈Zav wd fs->x∈fs\/(x∈wd/\x.1∉fs.map (·.1))
 |[],wd,x,h=> .inr ⟨h,fun z=>nomatch z⟩
 |f::fs,wd,x,h=>by
  rcases ZhL (fs:=fs) (wd:=Ziu wd f) h with a|⟨a,b⟩
  ·exact .inl (List.mem_cons_of_mem _ a)
  ·rcases Zp7 a with ⟨c,d⟩|⟨c,d⟩
   ·exact .inl (by rw[show x=f from Prod.ext c d];exact List.mem_cons_self ..)
   ·exact .inr ⟨c,fun z=>by
     rw[List.map_cons] at z
     exact(List.mem_cons.mp z).elim d b⟩
def Zae(wd:List (Str×Str))(f:Str×Str):Bool:=decide ((f.1,Str.ofString "due")∈wd)&& !decide (f.2=Str.ofString "due")
def Zaf(wd fs:List (Str×Str)):List Str:=(fs.filter (Zae wd)).map (·.1)
def ZgU(cn ca cl ce:Addr)(n:Nat)(C:Addr):Sp:=fun vs H Q _=>∃(a d:Addr) (w:Rw) (s:Hs) (F:List Addr),vs=[.ref a,.ref d]/\0<n/\ZQ cn ca cl ce C H a s F/\ZbP H d w/\Zp3 s w/\s.rs.length<=63/\ZdH {s with ws:=s.ws++[w]}/\ZcA s/\s.gs.length<64/\
 ∀L zs wd H' F',Zgv F H H'->(∀b∈F',b∈F\/H b=none)->(∀b∈F,b∈F')->ZQ cn ca cl ce C H' a {s with ws:=s.ws++[w],wd:=wd} F'->ZcA {s with ws:=s.ws++[w],wd:=wd}->H L=none->L∉F'->H' L=some (.lst (zs.map V.str))->sortedS zs=true->(∃fs,(fs.map (·.1)).Nodup/\(∀f∈fs,f.1∈s.wd.map (·.1))/\zs.Perm (Zaf s.wd fs)/\wd=Zav s.wd fs)->Q (.ref L) H'
theorem Znv{cn ca cl ce C:Addr}:∀vs H Q E,¬ZgU cn ca cl ce 0 C vs H Q E:=fun _ _ _ _ ⟨_,_,_,_,_,_,z,_⟩=>Nat.lt_irrefl 0 z
theorem ZdI{s:Hs}{w:Rw}:∀r∈ZbX s w,r∈s.wd.map (·.1):=by
 have go:∀z,∀r∈Zbe z s.wd,r∈s.wd.map (·.1):=fun z r hr=>by
  obtain⟨x,hx,e⟩:=List.mem_map.mp hr;exact List.mem_map.mpr ⟨x,(List.mem_filter.mp hx).1,e⟩
 have one:∀x,∀r∈(if x∈s.wd.map (·.1) then[x] else[]),r∈s.wd.map (·.1):=fun x r hr=>by
  by_cases m:x∈s.wd.map (·.1)
  ·rw[if_pos m] at hr
   rw[List.mem_singleton.mp hr];exact m
  ·rw[if_neg m] at hr
   cases hr
 cases w with
 |hold a b c d=>exact go "due"
 |lift a d=>exact go "held"
 |put x b c=>exact one x
 |move x b c=>exact one x
 |deed x b c=>exact one x
theorem Ziv{s:Hs}{w:Rw}(nd:(s.wd.map (·.1)).Nodup):(ZbX s w).Nodup:=by
 have go:∀z,(Zbe z s.wd).Nodup:=fun z=>List.Nodup.sublist (List.Sublist.map _ List.filter_sublist) nd;have one:∀x,(if x∈s.wd.map (·.1) then[x] else[]:List Str).Nodup:=fun x=>by split<;>simp
 cases w with
 |hold a b c d=>exact go "due"
 |lift a d=>exact go "held"
 |put x b c=>exact one x
 |move x b c=>exact one x
 |deed x b c=>exact one x
theorem Znw{s:Hs}{w:Rw}{f:Str×Str}(h:f∈s.wd)(no:f.1∉ZbX s w):ZaI f.1 w=false/\(Xn w=true->f.2≠"due")/\((Zap w).isSome=true->f.2≠"held"):=by
 have k:f.1∈s.wd.map (·.1):=List.mem_map_of_mem h;have one:∀x,f.1∉(if x∈s.wd.map (·.1) then[x] else[]:List Str)->decide (x=f.1)=false:=fun x n=>decide_eq_false fun z=>n (by rw[z,if_pos k];exact List.mem_singleton_self _)
 have are:∀z:Str,f.1∉Zbe z s.wd->f.2≠z:=fun z n e=>n (List.mem_map.mpr ⟨f,List.mem_filter.mpr ⟨h,decide_eq_true e⟩,rfl⟩);cases w with
 |hold a b c d=>exact⟨rfl,fun _=>are _ no,(fun z=>nomatch z)⟩
 |lift a d=>exact⟨rfl,(fun z=>nomatch z),fun _=>are _ no⟩
 |put x b c=>exact⟨one x no,(fun z=>nomatch z),(fun z=>nomatch z)⟩
 |move x b c=>exact⟨one x no,(fun z=>nomatch z),(fun z=>nomatch z)⟩
 |deed x b c=>exact⟨one x no,(fun z=>nomatch z),(fun z=>nomatch z)⟩
theorem Zm5{s:Hs}{w:Rw}{fs:List (Str×Str)}(wo:ZcA s)(ef:fs.map (·.1)=ZbX s w)(wf:∀f∈fs,ZjQ {s with ws:=s.ws++[w]} f):ZcA {s with ws:=s.ws++[w],wd:=Zav s.wd fs}:=by
 refine⟨(ZaM fs s.wd).trans wo.keys,fun f hf=> ?_⟩;rcases ZhL hf with a|⟨a,b⟩
 ·exact wf f a
 ·rw[ef] at b
  obtain⟨n,day,hg,wi⟩:=wo.ok f a;obtain⟨c1,c2,c3⟩:=Znw a b;exact⟨n,day,hg,Zm4 c1 c2 c3 wi⟩
theorem Znx{wd:List (Str×Str)}{f x:Str×Str}(h:x∈wd)(n:¬x.1=f.1):x∈Ziu wd f:=List.mem_map.mpr ⟨x,h,if_neg n⟩
theorem Zgl:∀{fs wd:List (Str×Str)} {x:Str×Str},x∈wd->x.1∉fs.map (·.1)->x∈Zav wd fs
 |[],_,_,h,_=>h
 |f::fs,wd,x,h,n=>by
  rw[List.map_cons,List.mem_cons,not_or] at n
  exact Zgl (fs:=fs) (Znx h n.1) n.2
theorem ZkW(wd fs:List (Str×Str))(f:Str×Str):Zav wd (fs++[f])=Ziu (Zav wd fs) f:=by
 unfold Zav;rw[List.foldl_append]
 rfl
theorem Zm6(wd fs:List (Str×Str))(f:Str×Str):Zaf wd (fs++[f])=Zaf wd fs++(if Zae wd f=true then[f.1] else[]):=by
 unfold Zaf;rw[List.filter_append,List.map_append]
 congr 1
 by_cases h:Zae wd f=true
 ·rw[if_pos h,List.filter_cons_of_pos h]
  rfl
 ·rw[if_neg h,List.filter_cons_of_neg h]
  rfl
theorem ZqJ{H:Hp}:∀{fs:List (Str×Str)} {us:List V},Paired (Znr H) fs us->∀(i:Nat) (u:V),us[i]? =some u->∃f p,fs[i]? =some f/\u=.ref p/\H p=some (.tup [.str f.1,.str f.2])
 |_,_,.nil,i,u,h=>by simp at h
 |_,_,.cons (a:=f) (b:=v) ⟨p,e,r⟩ t,0,u,h=>by
  have h:v=u:=by simpa using h
  subst h;exact⟨f,p,rfl,e,r⟩
 |_,_,.cons _ t,i+1,u,h=>by
  obtain⟨f,p,e,z⟩:=ZqJ t i u (by simpa using h);exact⟨f,p,by simpa using e,z⟩
theorem JK:ZC ["self","row","found","fresh","record","word"] ["self","row"] (Zu ZcT):=⟨rfl,rfl,rfl,by decide+kernel,rfl,by decide+kernel,by decide+kernel⟩
theorem Ziw{f:Addr}{fd:FuncData}(F:Fun K "tell" "House.tell" ZcT f fd)(T:Txt K mg Zg Zd Ze Zb Zk)(n:Nat)(ZeG:Za2 P w K mg base CX0 13 "keep_row" ["self","row"] (ZbW Zg Zd Ze Zb 12) (fun C=>C=Zk))(Zd4:Za2 P w K mg base CX0 14 "refuse_row" ["self","row"] (Zaz Zg Zd Ze Zb 12) (fun C=>C=Zk))(Zd5:Za2 P w K mg base CX0 13 "touched_by" ["self","row"] (ZaA Zg Zd Ze Zb 12) (fun C=>C=Zk))(ZdJ:Za2 P w K mg base CX0 27 "words_now" ["self","records"] (Zbf Zg Zd Ze Zb 12) (fun C=>C=Zk)):Yr P w K mg base CX0 (27+n+1+1) f fd ["self","row"] (ZgU Zg Zd Ze Zb (n+1) Zk):=by
 refine F.ok JK (fun vs H Q E h=> ?_) (fun cdv A outer s H vs Q E hr h=> ?_)
 ·obtain⟨a,d,w,s,F,rfl,_⟩:=h
  rfl
 ·obtain⟨a,d,w,s,F,rfl,_,hA,hd,tk,lrs,ok,wo,lg,q⟩:=h;have l5:=Xl;have hu:=Zcp hr;have few:(s.ws++[w]).length<=400:=ok.few;rw[List.length_append,List.length_singleton] at few
  have kw:s.wd.length=s.gs.length:=by
   have:=congrArg List.length wo.keys
   rwa [List.length_map,List.length_map] at this
  have ndw:(s.wd.map (·.1)).Nodup:=by rw[wo.keys];exact ok.one
  have hd:H d=some (.tup w.vs):=hd;refine⟨_,(Zi (Xf (JQ (pv 0) Zd4 (hr.mono (by omega)) ZD (Za (pv 1) Zj))) (Zi (Xf (JQ (pv 0) ZeG (hr.mono (by omega)) ZD (Za (JV Zic (by rfl) T.z_tuple Zoe (Za (pv 1) Zj)) Zj))) (Zi (Zv (i:=2) JK.nd rfl (Or.inl rfl) (JQ (pv 0) ZdJ (hr.mono (by omega)) ZD (Za (JQ (pv 0) Zd5 (hr.mono (by omega)) ZD (Za (pv 1) Zj)) Zj))) (Zi (Zv (i:=3) JK.nd rfl (Or.inl rfl) (Yl Zj)) (Zi (XQ PassesOwn.never rfl (Yy (pv 2)) (Zlh rfl (Jm (ZK (i:=4) JK.nd rfl (Or.inl rfl)) (Jm (ZK (i:=5) JK.nd rfl (Or.inl rfl)) ZeV))) (Zi (Ye (PW.pt (Za4 (Zt Yo (Zba hu (ZW (pv 0) rfl) (pv 4) (fun _ _=>rfl)) ZG (Zy _)) (Jl (Zt Zqv (pv 5) ZG (Zy _))))) (Zo (Xf (ZaC PySem.F.plainAttrs_list PySem.F.slot_list_append PySem.F.type_list_append Yz (pv 3) (Za (pv 4) Zj)))) ZF) (Zo (ZcI hu (ZW (pv 0) rfl) (pv 4) (pv 5) rfl)))) (Zo (Zw (ZM ZcM (by rfl) T.z_sorted Zbh (Za (pv 3) Zj))))))))), ?_⟩
  obtain⟨dx,b,t,o,h,r,k,wa,ha,_⟩:=hA.ins;refine⟨_,rfl,a,_,dx,_,rfl,ha,rfl,Zb9 (by decide+kernel),_,rfl,a,d,w,s,F,rfl,by decide,hA,hd,by omega,lrs,tk,fun H1 s1=> ?_⟩;have hA1:=hA.same s1;have hd1:=s1 _ _ hd;refine⟨_,rfl,a,_,dx,_,rfl,s1 _ _ ha,rfl,Zb9 (by decide+kernel),_,rfl,d,_,rfl,.inr ⟨SqT.of hd1,a,d,w,s,F,rfl,by decide,hA1,hd1,by omega,fun H2 F2 kp2 sub2 sup2 hA2=> ?_⟩⟩;have hd2:=hA1.kinds.tup kp2 _ _ hd1
  obtain⟨dx2,b2,t2,o2,h2,r2,k2,wa2,os2,kvs2,ha2,hb2,ht2,ho2,oa2,hh2,hr2,hk2,pk2,hw2,eF2,nd2,nb2⟩:=id hA2;have tsub:∀r∈ZbX {s with ws:=s.ws++[w]} w,r∈s.gs.map (·.1):=fun r hr=>by
   rw[<-wo.keys];exact ZdI (s:={s with ws:=s.ws++[w]}) r hr
  have tnd:=Ziv (s:={s with ws:=s.ws++[w]}) (w:=w) ndw;have tlen:(ZbX {s with ws:=s.ws++[w]} w).length<=s.gs.length:=by
   have:=tnd.length_le_of_subset tsub
   rwa [List.length_map] at this
  refine⟨_,rfl,a,_,dx2,_,rfl,ha2,rfl,Zb9 (by decide+kernel),_,rfl,a,_,dx2,_,rfl,ha2,rfl,Zb9 (by decide+kernel),_,rfl,a,d,w,{s with ws:=s.ws++[w]},F2,rfl,by decide,hA2,hd2,by show s.wd.length<=900;omega,fun L3 H3 hL3 s3 hl3=> ?_⟩
  have hA3:=hA2.same s3;refine⟨a,L3,_,{s with ws:=s.ws++[w]},F2,rfl,by decide,hA3,ok,hl3,by omega,tsub,fun L4 us fs H4 hL4 s4 hl4 pf ef wf=> ?_⟩;have s24:=s3.trans s4;have lfs:fs.length<64:=by
   have:=congrArg List.length ef;rw[List.length_map] at this
   omega
  have lus:=Paired.length pf;refine⟨Nat.zero_le _,fun Fr hFr=> ?_⟩;have sFr:=Zn hFr (o:=.lst []);have hw4:=s24 _ _ hw2;have nWF:wa2≠Fr:=Zf hw4 hFr;have nfs:(fs.map (·.1)).Nodup:=by rw[ef];exact tnd
  refine⟨_,rfl,L4,rfl,⟨_,SqL.of (sFr _ _ hl4)⟩,Xm (xs:=us) (fun i σ H'=>∃v4 v5:Option V,σ=[some (.ref a),some (.ref d),some (.ref L4),some (.ref Fr),v4,v5]/\H' Fr=some (.lst ((Zaf s.wd (fs.take i)).map V.str))/\H' wa2=some (.dK (wkv (Zav s.wd (fs.take i))))/\∀c u,c≠Fr->c≠wa2->H4 c=some u->H' c=some u) ?_ ?_ ?_ ?_⟩
  ·exact⟨none,none,rfl,Zc,by rw[Zm nWF];exact hw4,fun c u n1 n2 e=>by rw[Zm n1];exact e⟩
  ·rintro i σ H5 _ ⟨v4,v5,rfl,_,_,fr⟩;exact SqL.of (fr _ _ (Zf hl4 hFr) (Yi hl4 hw4 (fun z=>nomatch z)) hl4)
  ·rintro i x σ H5 hx ⟨v4,v5,rfl,hf5,hw5,fr⟩;obtain⟨f,p,ei,rfl,row4⟩:=ZqJ pf i x hx;have row:H5 p=some (.tup [.str f.1,.str f.2]):=fr _ _ (Zf row4 hFr) (Yi row4 hw4 (fun z=>nomatch z)) row4;have ha5:=fr _ _ (Zf (s24 _ _ ha2) hFr) (Yi (s24 _ _ ha2) hw4 (fun z=>nomatch z)) (s24 _ _ ha2);have tkf:fs.take (i+1)=fs.take i++[f]:=by rw[List.take_add_one,ei];rfl
   have fin:f.1∈s.wd.map (·.1):=ZdI (s:={s with ws:=s.ws++[w]}) (w:=w) f.1 (by rw[<-ef];exact List.mem_map_of_mem (List.mem_of_getElem? ei))
   obtain⟨x0,hx0,ex0⟩:=List.mem_map.mp fin;have nin:x0.1∉(fs.take i).map (·.1):=fun z=>by
    rw[ex0] at z
    have hi:i<fs.length:=(List.getElem?_eq_some_iff.mp ei).1;have ei2:fs[i]=f:=(List.getElem?_eq_some_iff.mp ei).2;obtain⟨y,hy,ey⟩:=List.mem_map.mp z;obtain⟨m,hm,em⟩:=List.getElem_of_mem hy;have hm2:m<i:=by rw[List.length_take] at hm;omega
    rw[List.getElem_take] at em
    have:=(List.pairwise_iff_getElem.mp (List.nodup_iff_pairwise_ne.mp nfs)) m i (by rw[List.length_map];omega) (by rw[List.length_map];exact hi) hm2
    rw[List.getElem_map,List.getElem_map,em,ei2] at this
    exact this ey
   have xin:x0∈Zav s.wd (fs.take i):=Zgl hx0 nin;have ndk:((Zav s.wd (fs.take i)).map (·.1)).Nodup:=by rw[ZaM];exact ndw
   have val:=ZmE ndk x0 xin;rw[ex0] at val
   have due_in:decide ((f.1,Str.ofString "due")∈s.wd)=decide (x0.2=Str.ofString "due"):=decide_eq_decide.mpr ⟨fun m=>by rw[Zbm ndw hx0 m ex0],fun e=>by rw[<-ex0,<-e];exact hx0⟩
   have lwd:(wkv (Zav s.wd (fs.take i))).length<sizeLine:=by
    have:=congrArg List.length (ZaM (fs.take i) s.wd);rw[List.length_map,List.length_map] at this
    unfold wkv;rw[List.length_map];omega
   rw[tkf];simp only [ZkW,Zm6];rw[<-Zp6 (by rw[ZaM];exact fin)]
   have lfr:(Zaf s.wd (fs.take i)).length<=64:=by
    unfold Zaf;rw[List.length_map];have h1:=List.length_filter_le (Zae s.wd) (fs.take i);have h2:=List.length_take_le' i fs;omega
   refine⟨p,_,rfl,SqT.of row,rfl,_,_,rfl,_,_,rfl,rfl, ?_⟩;refine(fun(rest:∀(σ':L2.St) (H6:Hp),σ'=[some (.ref a),some (.ref d),some (.ref L4),some (.ref Fr),some (.str f.1),some (.str f.2)]->H6 Fr=some (.lst ((Zaf s.wd (fs.take i)++(if Zae s.wd f=true then[f.1] else[])).map V.str))->(∀c u,c≠Fr->H5 c=some u->H6 c=some u)->(_:L2.St->Hp->Prop) σ' H6)=>
    ⟨_,rfl,a,_,dx2,_,_,rfl,ha5,T.cl_House,T.n_House_words,Zad ..,_,rfl,wa2,_,rfl,.inl ⟨_,Sum.inr f.1,.inl hw5,rfl,val.symm⟩,rfl,_,rfl,YZ (fun e=> ?yes) (fun e=>Xh (rest _ H5 rfl (by unfold Zae;rw[due_in,Bool.eq_false_iff.mpr (show¬decide (x0.2=Str.ofString "due")=true from fun y=>e (decide_eq_true (congrArg V.str (of_decide_eq_true y)))),Bool.false_and,if_neg Bool.false_ne_true,List.append_nil];exact hf5) (fun c u _ y=>y)))⟩) ?rest
   case yes=>
    have e:x0.2=Str.ofString "due":=by injection of_decide_eq_true e
    refine⟨_,rfl,rfl,_,rfl,YZ (fun e2=> ?_) (fun e2=>rest _ H5 rfl ?_ (fun c u _ y=>y))⟩
    ·have gd:Zae s.wd f=true:=by
      unfold Zae;rw[due_in,decide_eq_true e,Bool.true_and];cases q2:decide (f.2=Str.ofString "due") with
      |false=>rfl
      |true=>
       rw[decide_eq_true (congrArg V.str (of_decide_eq_true q2))] at e2
       cases e2
     refine⟨_,rfl,.inl ⟨rfl,_,SqL.of hf5⟩,_,rfl,Fr,_,V.str f.1,rfl,rfl,hf5,by rw[List.length_map];omega,rest _ _ rfl (by rw[Zc,if_pos gd,List.map_append];rfl) fun c u n y=>by rw[Zm n];exact y⟩
    ·have gd:Zae s.wd f=false:=by
      unfold Zae;cases q2:decide (f.2=Str.ofString "due") with
      |true=>exact Bool.and_false _
      |false=>
       refine absurd ?_ e2;rw[decide_eq_false (vne (of_decide_eq_false q2))]
       rfl
     rw[gd,if_neg Bool.false_ne_true,List.append_nil];exact hf5
   case rest=>
    rintro σ' H6 rfl hf6 k6;have hw6:=k6 _ _ nWF hw5;refine⟨_,rfl,_,rfl,a,_,dx2,_,_,rfl,k6 _ _ (Yi ha5 hf5 (fun z=>nomatch z)) ha5,T.cl_House,T.n_House_words,Zad ..,_,rfl,wa2,_,rfl,Zid.k (k:=Sum.inr f.1) hw6 lwd,_,_,rfl,by rw[Zm (Ne.symm nWF)];exact hf6,Zc,fun c u n1 n2 y=>by rw[Zm n2];exact k6 _ _ n1 (fr c u n1 n2 y)⟩
  ·rintro σ H5 ⟨v4,v5,rfl,hf5,hw5,fr⟩;rw[<-lus,List.take_length] at hf5 hw5
   have lfr:(Zaf s.wd fs).length<64:=by
    unfold Zaf;rw[List.length_map];have h1:=List.length_filter_le (Zae s.wd) fs;omega
   refine⟨_,rfl,Fr,Zaf s.wd fs,rfl,SqL.of hf5,lfr,fun zs pz sz D hD=> ?_⟩;have s6:=Zn hD (o:=.lst (zs.map V.str));have fr6:∀c u,c≠Fr->c≠wa2->H4 c=some u->upd H5 D (.lst (zs.map V.str)) c=some u:=fun c u n1 n2 e=>s6 _ _ (fr c u n1 n2 e);have hw6:=s6 _ _ hw5;have d6:upd H5 D (.lst (zs.map V.str)) D=some (.lst (zs.map V.str)):=Zc;have n4:∀{c:Addr},H5 c=none->H4 c=none:=fun{c} z=>by
    cases e:H4 c with
    |none=>rfl
    |some u=>
     by_cases c1:c=Fr
     ·rw[c1,hf5] at z;cases z
     ·by_cases c2:c=wa2
      ·rw[c2,hw5] at z;cases z
      ·rw[fr c u c1 c2 e] at z;cases z
   have nD4:=n4 hD;generalize upd H5 D (.lst (zs.map V.str))=H6 at fr6 hw6 d6
   have hA4:=hA2.same s24;have ki4:=hA4.kinds;have inF:∀{c:Addr},c∈F2->c≠Fr:=fun m z=>by
    rcases ki4 _ m with ⟨_,y⟩|⟨_,y⟩<;>rw[z,hFr] at y<;>cases y
   have kp46:Zgv F2 H4 H6:=fun c u m e=>fr6 c u (Zf e hFr) (fun z=>m (by rw[z,eF2];simp)) e
   have t6:=ki4.tup kp46;have i6:=ki4.ins kp46;have none2:∀{c:Addr},H4 c=none->H1 c=none\/c∈F:=fun{c} z=>by
    have z2:=YK s24 z;cases e:H1 c with
    |none=>exact .inl rfl
    |some u=>
     by_cases m:c∈F
     ·exact .inr m
     ·rw[kp2 c u m e] at z2;cases z2
   have kinds1:=hA1.kinds;have noneH:∀{c:Addr},H4 c=none->H c=none:=fun{c} z=>by
    rcases none2 z with e|m
    ·exact YK s1 e
    ·rcases ki4 c (sup2 c m) with ⟨_,y⟩|⟨_,y⟩<;>rw[y] at z<;>cases z
   have k5:∀{c:Addr},c∈F2->c≠wa2->∀u,H4 c=some u->H6 c=some u:=fun m n u e=>fr6 _ _ (inF m) n e;have nd:=nd2;rw[eF2] at nd
   simp only [List.nodup_cons,List.mem_cons,not_or] at nd
   obtain⟨⟨nto,nth,ntr,ntk,ntw,nts⟩,⟨noh,nor,nok,now_,nos⟩,⟨nhr,nhk,nhw,nhs⟩,⟨nrk,nrw,nrs⟩,⟨nkw,nks⟩,nws,ndo⟩:=nd;have mt:t2∈F2:=by rw[eF2];simp
   have mo:o2∈F2:=by rw[eF2];simp
   have mh:h2∈F2:=by rw[eF2];simp
   have mr:r2∈F2:=by rw[eF2];simp
   have mk:k2∈F2:=by rw[eF2];simp
   have mx:∀x∈os2,x.2∈F2:=fun x hx=>by
    rw[eF2];simp only [List.mem_cons];exact .inr (.inr (.inr (.inr (.inr (.inr (List.mem_map_of_mem hx))))))
   have rw6:∀{c:Addr} {rows:List Rw},c∈F2->c≠wa2->YG H2 c rows->YG H6 c rows:=fun m n ⟨ds,e,pp⟩=>⟨ds,k5 m n _ (s24 _ _ e),Xc t6 (ZS s24 pp)⟩
   refine q D zs (Zav s.wd fs) H6 F2 (fun c u m e=> ?_) (fun c m=> ?_) sup2 ⟨dx2,b2,t2,o2,h2,r2,k2,wa2,os2,kvs2,i6 _ _ _ _ (s24 _ _ ha2),Zea t6 (fun c C dx fs e=>i6 _ _ _ _ e) (fun u e=>fr6 _ _ (Zf e hFr) (fun z=>nb2 (by rw[z,eF2];simp)) e) (JB s24 hb2),rw6 mt ntw ht2,k5 mo now_ _ (s24 _ _ ho2),⟨oa2.one,oa2.mem,fun x hx=>rw6 (mx x hx) (fun z=>nws (by rw[<-z];exact List.mem_map_of_mem hx)) (oa2.at_ x hx)⟩,rw6 mh nhw hh2,k5 mr nrw _ (s24 _ _ hr2),k5 mk nkw _ (s24 _ _ hk2),Jh t6 (Jh (fun c xs e=>s24 _ _ e) pk2),hw6,eF2,nd2,nb2⟩ (Zm5 wo ef wf) (noneH nD4) (fun m=> ?_) d6 sz ⟨fs,nfs,(fun f hf=>ZdI (s:={s with ws:=s.ws++[w]}) (w:=w) f.1 (by rw[<-ef];exact List.mem_map_of_mem hf)),pz,rfl⟩
   ·have c2:c∉F2:=fun y=>by
     rcases sub2 c y with z|z
     ·exact m z
     ·rw[s1 _ _ e] at z;cases z
    exact kp46 c u c2 (s24 _ _ (kp2 c u m (s1 _ _ e)))
   ·rcases sub2 c m with z|z
    ·exact .inl z
    ·exact .inr (YK s1 z)
   ·rcases ki4 _ m with ⟨_,y⟩|⟨_,y⟩<;>rw[nD4] at y<;>cases y
theorem ZhM:∀(xs:List Str) (p:Str),risingS p xs=true->(∀x∈xs,Yw x p=false)/\M4.Asc Yw xs
 |[],_,_=>⟨(fun _ h=>nomatch h),.nil⟩
 |x::r,p,h=>by
  have h:(!ltCps x.cps.toList p.cps.toList&&risingS x r)=true:=h;rw[ltCps_eq] at h
  have h:(!Yw x p&&risingS x r)=true:=h;rw[Bool.and_eq_true] at h
  have hx:Yw x p=false:=by simpa using h.1
  obtain⟨k1,k2⟩:=ZhM r x h.2;refine⟨fun y hy=> ?_,List.pairwise_cons.mpr ⟨fun y hy=>k1 y hy,k2⟩⟩;obtain rfl|hr:=List.mem_cons.mp hy
  ·exact hx
  ·cases e:Yw y p with
   |false=>rfl
   |true=>
    rcases Yn.tri x y with a|a|a
    ·rw[Yn.tr _ _ _ a e] at hx;cases hx
    ·subst a;rw[e] at hx;cases hx
    ·rw[k1 y hr] at a;cases a
theorem ZeH{zs:List Str}(h:sortedS zs=true):M4.Asc Yw zs:=by
 cases zs with
 |nil=>exact .nil
 |cons x r=>
  obtain⟨k1,k2⟩:=ZhM r x h;exact List.pairwise_cons.mpr ⟨k1,k2⟩
theorem Zm7{a b c:List Str}(pa:a.Perm c)(pb:b.Perm c)(ha:sortedS a=true)(hb:sortedS b=true):a=b:=M4.ZgM Yn (pa.trans pb.symm) (ZeH ha) (ZeH hb)
theorem IsJ.one{rs:List Sr}{ws:List Rw}{rec:Str}{day:Int}{j k:Jd}(h:IsJ rs ws rec day j)(h':IsJ rs ws rec day k):j=k:=by
 cases e:YM (ZR ws day) rec with
 |false=>rw[h.no e,h'.no e]
 |true=>
  obtain⟨y,r0,t,a1,a2,a3,a4,a5,a6,a7,a8,a9⟩:=h.yes e;obtain⟨y',r0',t',b1,b2,b3,b4,b5,b6,b7,b8,b9⟩:=h'.yes e;obtain rfl:=a1.one b1;rw[a2] at b2
  cases b2;rw[a3] at b3
  cases b3;have eh:=Zm7 a7 b7 a8 b8;obtain⟨jw,js,jo,jd,jh⟩:=j;obtain⟨kw,ks,ko,kd,kh⟩:=k;simp only at a4 a5 a6 a9 b4 b5 b6 b9 eh
  subst a4 a5 a6 b4 b5 b6 eh;rw[a9,b9]
def Zcd(s:Hs)(day:Int)(r:Str):Prop:=∃j,IsJ s.rs s.ws r day j/\j.word="due"
def ZbY(s:Hs)(day:Int)(H:Hp)(r:Str)(v:V):Prop:=∃p j v5,v=.ref p/\H p=some (.tup [.str r,oS j.ser,oS j.own,oV j.due,v5])/\IsJ s.rs s.ws r day j/\j.word="due"/\Zhw s.rs s.ws r day H v5
def Zm8(ws:List Rw):Prop:=∃ns:List Str,ns.length<64/\∀r,YH ws r≠[]->r∈ns
def Zec(cn ca cl ce:Addr)(n:Nat)(C:Addr):Sp:=fun vs H Q _=>∃(a:Addr) (day:Int) (s:Hs) (F:List Addr),vs=[.ref a,.int day]/\0<n/\ZQ cn ca cl ce C H a s F/\ZdH s/\Zm8 s.ws/\
 ∀L us zs H',H L=none->Zx H H'->H' L=some (.lst us)->Paired (ZbY s day H') zs us->zs.Pairwise (fun a b=>Yw a b=true)->(∀r,r∈zs↔r∉s.gs.map (·.1)/\Zcd s day r)->Q (.ref L) H'
theorem ZkX{cn ca cl ce C:Addr}:∀vs H Q E,¬Zec cn ca cl ce 0 C vs H Q E:=fun _ _ _ _ ⟨_,_,_,_,_,z,_⟩=>Nat.lt_irrefl 0 z
def Zfq(gs:List Gn)(kv:Key×V):List V:=match kv.1 with
 | .inr r=>if r∈gs.map (·.1) then[] else[V.str r]
 | .inl _=>[]
theorem ZhN(gs:List Gn):∀os:List (Str×Addr),(okv os).flatMap (Zfq gs)=((os.map (·.1)).filter fun r=> !decide (r∈gs.map (·.1))).map V.str
 |[]=>rfl
 |x::os=>by
  show Zfq gs (Sum.inr x.1,V.ref x.2)++(okv os).flatMap (Zfq gs)=_;rw[ZhN gs os,List.map_cons];show(if x.1∈gs.map (·.1) then[] else[V.str x.1])++_=_
  by_cases h:x.1∈gs.map (·.1)
  ·rw[if_pos h,List.filter_cons_of_neg (by rw[decide_eq_true h];exact Bool.false_ne_true)]
   rfl
  ·rw[if_neg h,List.filter_cons_of_pos (by rw[decide_eq_false h];rfl)]
   rfl
theorem Zm9{H:Hp}:∀{gs:List Gn} {kvs:List (Key×V)},Paired (ZfR H) gs kvs->∀r,(YB kvs (Sum.inr r)).isSome=decide (r∈gs.map (·.1))
 |_,_,.nil,r=>rfl
 |_,_,.cons (a:=g) ⟨p,e,hp⟩ t,r=>by
  subst e
  by_cases z:g.1=r
  ·rw[Yv (by rw[z])];exact(decide_eq_true (by rw[List.map_cons,z];exact List.mem_cons_self ..)).symm
  ·rw[Ys (by exact fun y=>z (by injection y)),Zm9 t r];refine decide_eq_decide.mpr ⟨fun m=> ?_,fun m=> ?_⟩
   ·rw[List.map_cons];exact List.mem_cons_of_mem _ m
   ·rw[List.map_cons] at m
    exact(List.mem_cons.mp m).elim (fun y=>absurd y.symm z) id
theorem ZdK{s:Hs}{day:Int}{H H':Hp}(sm:∀b xs,H b=some (.tup xs)->H' b=some (.tup xs)):∀{zs:List Str} {us:List V},Paired (ZbY s day H) zs us->Paired (ZbY s day H') zs us
 |_,_,.nil=> .nil
 |_,_,.cons ⟨p,j,v5,e,h,is,wd,wy⟩ t=> .cons ⟨p,j,v5,e,sm _ _ h,is,wd,⟨wy.no,fun z=>by
   obtain⟨y,r0,t,top,ow,ht,no,yes⟩:=wy.yes z;refine⟨y,r0,t,top,ow,ht,no,fun D e=> ?_⟩;obtain⟨a,k,d,n,e1,ha,r⟩:=yes D e;exact⟨a,k,d,n,e1,sm _ _ ha,r⟩⟩⟩ (ZdK sm t)
theorem ZjT{s:Hs}{day:Int}{r:Str}(h:Zcd s day r):YH s.ws r≠[]:=fun z=>by
 obtain⟨j,is,e⟩:=h;have np:YM (ZR s.ws day) r=false:=by
  obtain⟨a1,_⟩:=ZgT (ws:=s.ws) (r:=r) (x:=day) (s:=day) rfl;rw[a1,z]
  rfl
 rw[is.no np] at e
 exact absurd e (by decide+kernel:¬Str.ofString "absent"=Str.ofString "due")
theorem ZkY{zs xs:List Str}(p:zs.Perm xs)(nd:xs.Nodup)(h:M4.Asc Yw zs):zs.Pairwise fun a b=>Yw a b=true:=by
 have nz:zs.Pairwise (· ≠ ·):=List.nodup_iff_pairwise_ne.mp (p.nodup_iff.mpr nd);have h:zs.Pairwise fun a b=>Yw b a=false:=h;refine(h.and nz).imp fun{a b} ⟨h1,h2⟩=> ?_;rcases Yn.tri a b with q|q|q
 ·exact q
 ·exact absurd q h2
 ·rw[h1] at q;cases q
theorem ZeI{α:Type}{zs:List α}{i:Nat}{x:α}(nd:zs.Nodup)(e:zs[i]? =some x):x∉zs.take i:=fun m=>by
 obtain⟨hi,ei⟩:=List.getElem?_eq_some_iff.mp e;obtain⟨k,hk,ek⟩:=List.getElem_of_mem m;have hk2:k<i:=by rw[List.length_take] at hk;omega
 rw[List.getElem_take] at ek
 have:=(List.pairwise_iff_getElem.mp (List.nodup_iff_pairwise_ne.mp nd)) k i (by omega) hi hk2;rw[ek,ei] at this
 exact this rfl
theorem Xz:ZC ["self","day","found","stays","record","rows","told"] ["self","day"] (Zu Zbx):=⟨rfl,rfl,rfl,by decide+kernel,rfl,by decide+kernel,by decide+kernel⟩
theorem ZgE{f:Addr}{fd:FuncData}(F:Fun K "due_on" "House.due_on" Zbx f fd)(T:Txt K mg Zg Zd Ze Zb Zk)(n:Nat)(Xy:Cal P w K mg base CX0 1 "counted" ["rows","day"] Zaq)(Zcz:Cal P w K mg base CX0 14 "judged" ["book","rows","record","day"] (Ze7 Zg Zd Ze Zb))(ZhO:Cal P w K mg base CX0 14 "reason" ["book","rows","record","day"] (ZfQ Zg Zd Ze Zb))(Jg:Cal P w K mg base CX0 1 "standing" ["rows"] ZaH):Yr P w K mg base CX0 (14+n+1+1) f fd ["self","day"] (Zec Zg Zd Ze Zb (n+1) Zk):=by
 refine F.ok Xz (fun vs H Q E h=> ?_) (fun cdv A outer s H vs Q E hr h=> ?_)
 ·obtain⟨a,day,s,F,rfl,_⟩:=h
  rfl
 ·obtain⟨a,day,s,F,rfl,_,⟨dx,b,t,o,h,r,k,wd,os,kvs,ha,hb,ht,ho,oa,hh,hr',hk,pk,hw,eF,nd,nb⟩,ok,l64,q⟩:=h;have l5:=Xl;have hu:=Zcp hr;have few:=ok.few;refine⟨_,(Zi (Zv (i:=2) Xz.nd rfl (Or.inl rfl) (Yl Zj)) (Zi (Zv (i:=3) Xz.nd rfl (Or.inl rfl) (ZX Jg (hr.mono (by omega)) rfl ZD (Za (ZX Xy (hr.mono (by omega)) rfl ZD (Za (ZW (pv 0) rfl) (Za (pv 1) Zj))) Zj))) (Zi (XQ PassesOwn.never rfl (Yy (ZM ZcM (by rfl) T.z_sorted Zbh (Za (Zf7 (Je ["name"] [("self",0)] rfl (ZpP (ZW (pv 0) rfl)) (by rfl) (by exact⟨rfl,trivial⟩) (by rfl) (by exact⟨⟨rfl,rfl,rfl⟩,trivial⟩) (fun _ _ _ _=>(ZK (i:=0) (show(nmY ["name"] [("self",0)]).Nodup by decide+kernel) rfl (Or.inl rfl))) (fun _ _ _ _=>(JM (ZfB (Ze1 hu (pv 0) (Zjx (K:=K) rfl (pv 1) rfl))))) (fun _ _ _ _=>(pv 0)))) Zj))) (ZK (i:=4) Xz.nd rfl (Or.inl rfl)) (Zi (Zv (i:=5) Xz.nd rfl (Or.inl rfl) (Zr ZcK (Zba hu (ZW (pv 0) rfl) (pv 4) (fun _ _=>rfl)) (pv 3))) (Zi (Zv (i:=6) Xz.nd rfl (Or.inl rfl) (ZX Zcz (hr.mono (by omega)) rfl ZD (Za (ZW (pv 0) rfl) (Za (pv 5) (Za (pv 4) (Za (pv 1) Zj)))))) (Zo (Ye (Zt Yo (Zz ZJ (pv 6) Zh (fun _ _=>rfl)) ZG (Zy _)) (Zo (Xf (ZaC PySem.F.plainAttrs_list PySem.F.slot_list_append PySem.F.type_list_append Yz (pv 2) (Za (YX (Za (pv 4) (Za (Zz ZJ (pv 6) Zh (fun _ _=>rfl)) (Za (Zz ZJ (pv 6) Zh (fun _ _=>rfl)) (Za (Zz ZJ (pv 6) Zh (fun _ _=>rfl)) (Za (ZX ZhO (hr.mono (by omega)) rfl ZD (Za (ZW (pv 0) rfl) (Za (pv 5) (Za (pv 4) (Za (pv 1) Zj))))) Zj)))))) Zj)))) ZF))))) (Zo (Zw (pv 2)))))), ?_⟩
  refine⟨Nat.zero_le _,fun Fd hFd=> ?_⟩;have sF:=Zn hFd (o:=.lst []);have hF1:upd H Fd (.lst []) Fd=some (.lst []):=Zc;generalize upd H Fd (.lst [])=H1 at sF hF1
  have lh:(s.ws.filter JH).length<=s.ws.length:=List.length_filter_le _ _;refine⟨_,rfl,a,_,dx,_,_,rfl,sF _ _ ha,T.cl_House,T.n_House_holdings,ZbU ..,_,rfl,h,s.ws.filter JH,day,rfl,Yj sF hh,by omega,fun C H2 hC s2 rc=> ?_⟩;have lu:(ZR (s.ws.filter JH) day).length<=(s.ws.filter JH).length:=List.length_filter_le _ _;refine⟨C,_,rfl,rc,by omega,fun St H3 hSt s3 rl=> ?_⟩;have s03:=sF.trans (s2.trans s3)
  have hF3:=s3 _ _ (s2 _ _ hF1);have ho3:=s03 _ _ ho;have los:os.length<64:=by
   obtain⟨ns,l,sub⟩:=l64;have:=oa.one.length_le_of_subset fun r hr=>sub r ((oa.mem r).mp hr);rw[List.length_map] at this
   omega
  have nSF:St≠Fd:=fun z=>by rw[z,s2 _ _ hF1] at hSt;cases hSt
  have lok:(okv os).length=os.length:=List.length_map ..;refine⟨_,rfl,a,_,dx,_,_,rfl,s03 _ _ ha,T.cl_House,T.n_House_own,ZhG ..,o,okv os,rfl,ho3,fun ob=> ?_⟩;refine XC (okv os).length (fun i=>(((okv os)[i]?).map (Zfq s.gs)).getD []) (by omega) (fun i=> ?_) (fun i H2 s lt=>⟨s _ _ Zc,lt⟩) (fun H2 s=>⟨s _ _ Zc,Nat.le_refl _⟩) (fun i x H4 H5 s4 lt y RT RF rt rf=> ?_) fun D H4 hD s4 d4=> ?_
  ·cases(okv os)[i]? with
   |none=>exact Nat.zero_le _
   |some kv=>
    show(Zfq s.gs kv).length<=1;unfold Zfq;cases kv.1 with
    |inl _=>exact Nat.zero_le _
    |inr z=>
     show(if z∈s.gs.map (·.1) then[] else[V.str z]).length<=1
     split
     ·exact Nat.zero_le _
     ·exact Nat.le_refl _
  ·obtain⟨rfl,kv,e2,rfl⟩:=y;rw[e2] at rt rf
   have rt:∀v H6,Zfq s.gs kv=[v]->_:=rt;have rf:∀H5,Zfq s.gs kv=[]->_:=rf;obtain⟨x0,_,rfl⟩:=List.mem_map.mp (List.mem_of_getElem? e2);have nko:k≠o:=by
    rw[eF] at nd
    simp only [List.nodup_cons,List.mem_cons,not_or] at nd
    exact Ne.symm nd.2.1.2.2.1
   have hk5:=s4 _ _ (show upd H3 o (.frz ob (.dK (okv os))) k=some (.dK kvs) by rw[Zm nko];exact s03 _ _ hk)
   have ha5:=s4 _ _ (show upd H3 o (.frz ob (.dK (okv os))) a=some (.ins Zk dx (fH b t o h r k wd)) by rw[Zm (Yi ha ho (fun z=>nomatch z))];exact s03 _ _ ha)
   refine⟨⟨rfl,trivial⟩,_,rfl,_,rfl,a,_,dx,_,_,rfl,ha5,T.cl_House,T.n_House_taken,ZdG ..,k,_,rfl,.inl ⟨kvs,Sum.inr x0.1,.inl hk5,rfl,rfl⟩,_,rfl, ?_⟩;rw[Zm9 pk]
   by_cases z:x0.1∈s.gs.map (·.1)
   ·rw[decide_eq_true z];exact Xh (rf _ (if_pos z) (Zx.refl _))
   ·rw[decide_eq_false z];exact Zbb ⟨_,rfl,rt _ _ (if_neg z) (Zx.refl _)⟩
  ·rw[Jp (Zfq s.gs) (okv os),ZhN] at d4
   have hDo:D≠o:=fun e=>by rw[e,Zc] at hD;cases hD
   obtain⟨t1,t2⟩:=(Zhe.of s4).thaw (H₀:=H) ho3 (fun ob u z=>by rw[ho] at z;cases z)
   have hD3:H3 D=none:=by rw[Zm hDo] at hD;exact hD
   have dD:upd H4 o (.dK (okv os)) D=some (.lst (((os.map (·.1)).filter fun r=> !decide (r∈s.gs.map (·.1))).map V.str)):=by rw[Zm hDo];exact d4
   refine⟨o,_,t1, ?_⟩;generalize upd H4 o (.dK (okv os))=H5 at t1 t2 dD
   have ln:((os.map (·.1)).filter fun r=> !decide (r∈s.gs.map (·.1))).length<=(os.map (·.1)).length:=List.length_filter_le _ _;rw[List.length_map] at ln
   refine⟨D,_,rfl,SqL.of dD,by omega,fun zs pz sz D2 hD2=> ?_⟩;have s05:=s03.trans (t2.trans (Zn hD2 (o:=.lst (zs.map V.str))));have hF6:=(t2.trans (Zn hD2 (o:=.lst (zs.map V.str)))) _ _ hF3;have rl6:=Yj (t2.trans (Zn hD2 (o:=.lst (zs.map V.str)))) rl;have z6:upd H5 D2 (.lst (zs.map V.str)) D2=some (.lst (zs.map V.str)):=Zc;have nD2F:D2≠Fd:=fun y=>by rw[y,t2 _ _ hF3] at hD2;cases hD2
   generalize upd H5 D2 (.lst (zs.map V.str))=H6 at s05 hF6 rl6 z6
   have nds:((os.map (·.1)).filter fun r=> !decide (r∈s.gs.map (·.1))).Nodup:=oa.one.filter _;have strict:=ZkY pz nds (ZeH sz);have lzs:zs.length<=64:=by rw[pz.length_eq];omega
   have mz:∀rc,rc∈zs↔rc∈os.map (·.1)/\rc∉s.gs.map (·.1):=fun rc=>by
    rw[pz.mem_iff,List.mem_filter];exact⟨fun⟨x,y⟩=>⟨x,fun z=>by rw[decide_eq_true z] at y;cases y⟩,fun⟨x,y⟩=>⟨x,by rw[decide_eq_false y];rfl⟩⟩
   refine⟨D2,rfl,⟨_,SqL.of z6⟩,Xm (xs:=zs.map V.str) (fun i σ H'=>∃(v4 v5 v6:Option V) (us:List V) (ys:List Str),σ=[some (.ref a),some (.int day),some (.ref Fd),some (.ref St),v4,v5,v6]/\H' Fd=some (.lst us)/\Paired (ZbY s day H') ys us/\ys.Sublist (zs.take i)/\(∀rc∈zs.take i,rc∈ys↔Zcd s day rc)/\∀c u,c≠Fd->H6 c=some u->H' c=some u) ?_ ?_ ?_ ?_⟩
   ·exact⟨none,none,none,[],[],rfl,hF6,.nil,List.Sublist.refl _,(fun rc hrc=>nomatch hrc),fun c u _ e=>e⟩
   ·rintro i σ H7 _ ⟨v4,v5,v6,us,ys,rfl,_,_,_,_,fr⟩;exact SqL.of (fr _ _ nD2F z6)
   ·rintro i x σ H7 hx ⟨v4,v5,v6,us,ys,rfl,hF7,po,sl1,iff,fr⟩;obtain⟨rc,rfl,erc⟩:∃rc,x=V.str rc/\zs[i]? =some rc:=by
     rw[List.getElem?_map] at hx
     cases e:zs[i]? with
     |none=>rw[e] at hx;cases hx
     |some y=>rw[e] at hx;exact⟨y,(Option.some.inj hx).symm,rfl⟩
    have hrc:=(mz rc).mp (List.mem_of_getElem? erc);obtain⟨⟨xo,xl⟩,hxo,e2⟩:=List.mem_map.mp hrc.1;have e2:xo=rc:=e2;subst e2;have tkz:zs.take (i+1)=zs.take i++[xo]:=by rw[List.take_add_one,erc];rfl
    have s07:Zx H H7:=fun c u e=>fr c u (Zf e hFd) (s05 _ _ e);obtain⟨ps,hz,pz2⟩:=Yj s07 (oa.at_ _ hxo);obtain⟨yy,hy,py⟩:=rl6;have hy7:=fr _ _ nSF hy;have py7:Paired (ZbP H7) yy (XF s.ws day):=Xc (fun c xs e=>fr _ _ (fun z=>by rw[z,hF6] at e;cases e) e) py
    have vo:=ZfW oa.one _ hxo;have lz2:(YH s.ws xo).length<=s.ws.length:=List.length_filter_le _ _;have lps:ps.length=(YH s.ws xo).length:=Paired.length pz2;have lyy:=Paired.length py7;have rof:=ZhJ (r:=xo) (day:=day) ok.rows (by omega);have lyr:=rof.len;have elen:(Xr s.ws xo day).length=(YH s.ws xo).length+(XF s.ws day).length:=List.length_append;refine⟨_,rfl,a,_,dx,_,_,rfl,s07 _ _ ha,T.cl_House,T.n_House_own,ZhG ..,_,rfl,o,_,rfl,.inl ⟨okv os,Sum.inr xo,.inl (s07 _ _ ho),rfl,vo.symm⟩,_,rfl,xl,St,_,_,rfl,rfl,SqL.of hz,SqL.of hy7,by rw[List.length_map,List.length_map];omega,fun R hR=> ?_⟩
    have s8:=Zn hR (o:=.lst (ps.map V.ref++yy.map V.ref));have hR8:YG (upd H7 R (.lst (ps.map V.ref++yy.map V.ref))) R (Xr s.ws xo day):=⟨ps++yy,by rw[Zc,List.map_append],Zfk (ZS s8 pz2) (ZS s8 py7)⟩
    generalize upd H7 R (.lst (ps.map V.ref++yy.map V.ref))=H8 at s8 hR8
    have s08:=s07.trans s8;refine⟨_,rfl,a,_,dx,_,_,rfl,s08 _ _ ha,T.cl_House,T.n_House_book,Zfl ..,_,rfl,_,rfl,_,rfl,b,R,s.rs,Xr s.ws xo day,xo,day,rfl,JB s08 hb,ok.bk,ok.lr,hR8,rof,fun ja j H9 hja0 s9 ⟨Lh,hja,_⟩ _ is=> ?_⟩;have isj:=Zj1 is;have s89:=s8.trans s9;have next:(Zcd s day xo->False)->∃(v4 v5 v6:Option V) (us:List V) (ys:List Str),[some (V.ref a),some (.int day),some (.ref Fd),some (.ref St),some (.str xo),some (.ref R),some (.ref ja)]=[some (V.ref a),some (.int day),some (.ref Fd),some (.ref St),v4,v5,v6]/\H9 Fd=some (.lst us)/\Paired (ZbY s day H9) ys us/\ys.Sublist (zs.take (i+1))/\(∀rc∈zs.take (i+1),rc∈ys↔Zcd s day rc)/\∀c u,c≠Fd->H6 c=some u->H9 c=some u:=fun no=>by
     refine⟨_,_,_,us,ys,rfl,s89 _ _ hF7,ZdK (fun c xs e=>s89 _ _ e) po,by rw[tkz];exact sl1.trans (List.sublist_append_left _ _),fun rc m=> ?_,fun c u n e=>s89 _ _ (fr c u n e)⟩
     rw[tkz] at m
     rcases List.mem_append.mp m with old|new
     ·exact iff rc old
     ·rw[List.mem_singleton.mp new];exact⟨fun y=>absurd (sl1.subset y) (ZeI (pz.nodup_iff.mpr nds) erc),fun y=>(no y).elim⟩
    refine(ixT rfl (SqT.of hja) rfl ⟨rfl,_,rfl,YZ (fun e=> ?_) (fun e=>next fun⟨j',is',e'⟩=>e (decide_eq_true (by rw[isj.one is',e'])))⟩);have e:j.word="due":=by injection of_decide_eq_true e
    have s09:=s08.trans s9;have hF9:=s89 _ _ hF7;have lus:us.length<=64:=by
     have h1:=Paired.length po;have h2:=sl1.length_le;have h3:=List.length_take_le' i zs;omega
    refine⟨_,rfl,.inl ⟨rfl,_,SqL.of hF9⟩,_,rfl,ixT rfl (SqT.of hja) rfl (ixT rfl (SqT.of hja) rfl (ixT rfl (SqT.of hja) rfl ⟨_,rfl,a,_,dx,_,_,rfl,s09 _ _ ha,T.cl_House,T.n_House_book,Zfl ..,_,rfl,_,rfl,_,rfl,b,R,s.rs,Xr s.ws xo day,xo,day,rfl,JB s09 hb,ok.bk,ok.lr,Yj s9 hR8,rof,fun v5 H10 s10 why=>⟨show 5<=sizeLine from sl,fun tt htt=> ?_⟩⟩))⟩;have hF10:=s10 _ _ hF9;have s810:=s89.trans s10;refine⟨Fd,_,V.ref tt,rfl,rfl,Zn htt _ _ hF10,by omega, ?_⟩
    have nF:Fd≠tt:=Zf hF10 htt;have kp:∀c u,c≠Fd->H10 c=some u->upd (upd H10 tt (.tup [.str xo,oS j.ser,oS j.own,oV j.due,v5])) Fd (.lst (us++[.ref tt])) c=some u:=fun c u n e=>by rw[Zm n,Zm (Zf e htt)];exact e
    have kt:∀c xs,H10 c=some (.tup xs)->upd (upd H10 tt (.tup [.str xo,oS j.ser,oS j.own,oV j.due,v5])) Fd (.lst (us++[.ref tt])) c=some (.tup xs):=fun c xs e=>kp c _ (Yi e hF10 (fun z=>nomatch z)) e;have why2:=ZkU why;refine⟨_,_,_,us++[.ref tt],ys++[xo],rfl,Zc,Paired.snoc (ZdK (fun c xs e=>kt _ _ (s810 _ _ e)) po) ⟨tt,j,v5,rfl,by rw[Zm (Ne.symm nF),Zc],isj,e,⟨why2.no,fun z=> ?_⟩⟩,by rw[tkz];exact List.Sublist.append sl1 (List.Sublist.refl _),fun rc m=> ?_,fun c u n y=>kp c u n (s810 _ _ (fr c u n y))⟩
    ·obtain⟨y,r0,t,top,ow,ht,no,yes⟩:=why2.yes z;refine⟨y,r0,t,top,ow,ht,no,fun D e=> ?_⟩;obtain⟨a,k,d,n,e1,ha,r⟩:=yes D e;exact⟨a,k,d,n,e1,kt _ _ ha,r⟩
    ·rw[tkz] at m
     rcases List.mem_append.mp m with old|new
     ·have ne:rc≠xo:=fun z=>ZeI (pz.nodup_iff.mpr nds) erc (z▸old);rw[List.mem_append,iff rc old];exact⟨fun y=>y.elim id fun z=>absurd (List.mem_singleton.mp z) ne,fun y=> .inl y⟩
     ·rw[List.mem_singleton.mp new];exact⟨fun _=>⟨j,isj,e⟩,fun _=>List.mem_append_right _ (List.mem_singleton_self _)⟩
   ·rintro σ H7 ⟨v4,v5,v6,us,ys,rfl,hF7,po,sl1,iff,fr⟩;rw[List.length_map,List.take_length] at sl1 iff
    refine⟨_,rfl,q Fd us ys H7 hFd (fun c u e=>fr c u (Zf e hFd) (s05 _ _ e)) hF7 po (strict.sublist sl1) fun rc=> ?_⟩
    constructor
    ·intro m;have mzs:=sl1.subset m;exact⟨((mz rc).mp mzs).2,(iff rc mzs).mp m⟩
    ·rintro⟨n1,dn⟩;exact(iff rc ((mz rc).mpr ⟨(oa.mem rc).mpr (ZjT dn),n1⟩)).mpr dn
def Zfr(s:Hs)(day:Int)(zs:List Str):Hs:={s with runs:=s.runs++[day],gs:=s.gs++zs.map fun r=>(r,((s.runs.length+1:Nat):Int),day),wd:=s.wd++zs.map fun r=>(r,Str.ofString "due")}
def ZjU(cn ca cl ce:Addr)(n:Nat)(C:Addr):Sp:=fun vs H Q _=>∃(a:Addr) (day:Int) (s:Hs) (F:List Addr),vs=[.ref a,.int day]/\0<n/\ZQ cn ca cl ce C H a s F/\ZdH s/\Zm8 s.ws/\s.wd.map (·.1)=s.gs.map (·.1)/\s.runs.length<=900/\s.gs.length<=900/\(∀d,s.runs.getLast? =some d->d<=day)/\
 ∀L us zs H',Zgv F H H'->ZQ cn ca cl ce C H' a (Zfr s day zs) F->H L=none->L∉F->H' L=some (.lst us)->Paired (ZbY s day H') zs us->zs.Pairwise (fun a b=>Yw a b=true)->(∀r,r∈zs↔r∉s.gs.map (·.1)/\Zcd s day r)->Q (.ref L) H'
theorem Zp8{cn ca cl ce C:Addr}:∀vs H Q E,¬ZjU cn ca cl ce 0 C vs H Q E:=fun _ _ _ _ ⟨_,_,_,_,_,z,_⟩=>Nat.lt_irrefl 0 z
theorem ZkZ{kvs:List (Key×V)}{k:Key}{v:V}(h:(YB kvs k).isSome=false):Jo kvs k v=kvs++[(k,v)]:=by
 unfold Jo;rw[Za5,h,if_neg Bool.false_ne_true]
theorem Zqj{xs:List Int}{x:Int}(h:xs.getLast? =some x):atI (xs.map V.int) (-1)=some (.int x):=by
 obtain⟨ys,rfl⟩:=List.getLast?_eq_some_iff.mp h;rw[List.map_append];exact ZnZ _ _
theorem Zj2{cn ca cl ce C a dx b t o h r k w:Addr}{H H':Hp}{s:Hs}{F:List Addr}{os:List (Str×Addr)}{kvs kvs':List (Key×V)}{rn':List Int}{gs':List Gn}{wd':List (Str×Str)}
  (ha:H a=some (.ins C dx (fH b t o h r k w)))(hb:Zff cn ca cl ce H b s.rs)(ht:YG H t s.ws)(ho:H o=some (.dK (okv os)))(oa:ZoN H os s.ws)(hh:YG H h (s.ws.filter JH))(hr:H r=some (.lst (s.runs.map V.int)))(hk:H k=some (.dK kvs))(hw:H w=some (.dK (wkv s.wd)))
  (eF:F=t::o::h::r::k::w::os.map (·.2))(nd:F.Nodup)(nb:b∉F)(mv:∀c u,c≠r->c≠k->c≠w->H c=some u->H' c=some u)(hr':H' r=some (.lst (rn'.map V.int)))(hk':H' k=some (.dK kvs'))(pk':Paired (ZfR H') gs' kvs')(hw':H' w=some (.dK (wkv wd'))):
  ZQ cn ca cl ce C H' a {s with runs:=rn',gs:=gs',wd:=wd'} F:=by
 subst eF;have n:=nd;simp only [List.nodup_cons,List.mem_cons,not_or] at n
 obtain⟨⟨_,_,ntr,ntk,ntw,nts⟩,⟨_,nor,nok,now_,nos⟩,⟨nhr,nhk,nhw,nhs⟩,⟨nrk,nrw,nrs⟩,⟨nkw,nks⟩,nws,ndo⟩:=n;have n2:=nb;simp only [List.mem_cons,not_or] at n2
 obtain⟨_,_,_,nbr,nbk,nbw,_⟩:=n2;have kt:∀c xs,H c=some (.tup xs)->H' c=some (.tup xs):=fun c xs e=>mv c _ (Yi e hr (fun z=>nomatch z)) (Yi e hk (fun z=>nomatch z)) (Yi e hw (fun z=>nomatch z)) e;have ki:∀c C dx fs,H c=some (.ins C dx fs)->H' c=some (.ins C dx fs):=fun c C dx fs e=>mv c _ (Yi e hr (fun z=>nomatch z)) (Yi e hk (fun z=>nomatch z)) (Yi e hw (fun z=>nomatch z)) e;have rw_:∀{p:Addr} {us:List Rw},p≠r->p≠k->p≠w->YG H p us->YG H' p us:=fun n1 n2 n3 ⟨ds,e,pp⟩=>⟨ds,mv _ _ n1 n2 n3 e,Xc kt pp⟩
 exact⟨dx,b,t,o,h,r,k,w,os,kvs',ki _ _ _ _ ha,Zea kt ki (fun u e=>mv _ _ nbr nbk nbw e) hb,rw_ ntr ntk ntw ht,mv _ _ nor nok now_ ho,⟨oa.one,oa.mem,fun x hx=>rw_ (fun z=>nrs (z▸List.mem_map_of_mem hx)) (fun z=>nks (z▸List.mem_map_of_mem hx)) (fun z=>nws (z▸List.mem_map_of_mem hx)) (oa.at_ x hx)⟩,rw_ nhr nhk nhw hh,hr',hk',pk',hw',rfl,nd,nb⟩
theorem Zp9{s:Hs}{day:Int}{H:Hp}:∀{zs:List Str} {us:List V},Paired (ZbY s day H) zs us->∀(i:Nat) (u:V),us[i]? =some u->∃r,zs[i]? =some r/\ZbY s day H r u
 |_,_,.nil,i,u,h=>by simp at h
 |_,_,.cons (a:=r) (b:=v) x t,0,u,h=>by
  have h:v=u:=by simpa using h
  subst h;exact⟨r,rfl,x⟩
 |_,_,.cons _ t,i+1,u,h=>by
  obtain⟨r,e,z⟩:=Zp9 t i u (by simpa using h);exact⟨r,by simpa using e,z⟩
theorem Zd6:ZC ["self","day","leaving","told"] ["self","day"] (Zu Zdv):=⟨rfl,rfl,rfl,by decide+kernel,rfl,by decide+kernel,by decide+kernel⟩
theorem ZjV{f:Addr}{fd:FuncData}(F:Fun K "run" "House.run" Zdv f fd)(T:Txt K mg Zg Zd Ze Zb Zk)(n:Nat)(ZhP:Za2 P w K mg base CX0 27 "due_on" ["self","day"] (Zec Zg Zd Ze Zb 12) (fun C=>C=Zk)):Yr P w K mg base CX0 (27+n+1+1) f fd ["self","day"] (ZjU Zg Zd Ze Zb (n+1) Zk):=by
 refine F.ok Zd6 (fun vs H Q E h=> ?_) (fun cdv A outer s H vs Q E hr h=> ?_)
 ·obtain⟨a,day,s,F,rfl,_⟩:=h
  rfl
 ·obtain⟨a,day,s,F,rfl,_,hA,ok,l64,ek,lru,lgs,lst_,q⟩:=h;have l5:=Xl;have hu:=Zcp hr;obtain⟨dx,b,t,o,h,r,k,wd,os,kvs,ha,hb,ht,ho,oa,hh,hr',hk,pk,hw,eF,nd,nb⟩:=id hA;have ki:=hA.kinds;refine⟨_,(Zi (Ye (PW.pt (Za4 (Zt Zh1 (ZM YJ (by rfl) T.z_len Jk (Za (ZW (pv 0) rfl) Zj)) Zh (Zy _)) (Jl (Zt Zgd (pv 1) (Zz YC (ZW (pv 0) rfl) (Zqu ZnQ Zh) (fun _ _=>rfl)) (Zy _))))) (Zo ZeU) ZF) (Zi (Xf (ZaC PySem.F.plainAttrs_list PySem.F.slot_list_append PySem.F.type_list_append Yz (ZW (pv 0) rfl) (Za (pv 1) Zj))) (Zi (Zv (i:=2) Zd6.nd rfl (Or.inl rfl) (JQ (pv 0) ZhP (hr.mono (by omega)) ZD (Za (pv 1) Zj))) (Zi (XQ PassesOwn.never rfl (Yy (pv 2)) (ZK (i:=3) Zd6.nd rfl (Or.inl rfl)) (Zi (ZcI hu (ZW (pv 0) rfl) (Zz ZJ (pv 3) Zh (fun _ _=>rfl)) (YX (Za (ZM YJ (by rfl) T.z_len Jk (Za (ZW (pv 0) rfl) Zj)) (Za (pv 1) Zj))) rfl) (Zo (ZcI hu (ZW (pv 0) rfl) (Zz ZJ (pv 3) Zh (fun _ _=>rfl)) ZG rfl)))) (Zo (Zw (pv 2))))))), ?_⟩
  refine(fun(rest:∀σ':L2.St,σ'=[some (.ref a),some (.int day),none,none]->(_:L2.St->Hp->Prop) σ' H)=>
   ⟨_,rfl,a,_,dx,_,_,rfl,ha,T.cl_House,T.n_House_run_days,ZbV ..,_,_,rfl,.inl ⟨_,SqL.of hr',rfl⟩,_,_,rfl,rfl,_,rfl,YZ (fun e=> ?yes) (fun e=>Xh (rest _ rfl))⟩) ?rest
  case yes=>
   have ne:s.runs≠[]:=fun z=>by rw[z] at e;cases e
   obtain⟨d,ed⟩:∃d,s.runs.getLast? =some d:=⟨_,List.getLast?_eq_some_getLast ne⟩
   have le:=lst_ d ed;refine⟨_,rfl,_,rfl,a,_,dx,_,_,rfl,ha,T.cl_House,T.n_House_run_days,ZbV ..,_,rfl,r,_,_,_,rfl,rfl,SqL.of hr',Zqj ed,_,_,rfl,rfl,_,rfl, ?_⟩;rw[decide_eq_false (by omega)];exact Xh (rest _ rfl)
  case rest=>
   rintro σ' rfl;refine⟨_,rfl,a,_,dx,_,_,rfl,ha,T.cl_House,T.n_House_run_days,ZbV ..,.inl ⟨rfl,_,SqL.of hr'⟩,_,rfl,r,_,V.int day,rfl,rfl,hr',by rw[List.length_map];omega, ?_⟩
   have n:=nd;rw[eF] at n
   simp only [List.nodup_cons,List.mem_cons,not_or] at n
   obtain⟨⟨_,_,ntr,ntk,ntw,nts⟩,⟨_,nor,nok,now_,nos⟩,⟨nhr,nhk,nhw,nhs⟩,⟨nrk,nrw,nrs⟩,⟨nkw,nks⟩,nws,ndo⟩:=n;have e1:s.runs.map V.int++[V.int day]=(s.runs++[day]).map V.int:=by rw[List.map_append];rfl
   rw[e1];have fr1:∀c u,c≠r->H c=some u->upd H r (.lst ((s.runs++[day]).map V.int)) c=some u:=fun c u n e=>by rw[Zm n];exact e
   have hr1:upd H r (.lst ((s.runs++[day]).map V.int)) r=some (.lst ((s.runs++[day]).map V.int)):=Zc;have bk1:∀{c:Addr},upd H r (.lst ((s.runs++[day]).map V.int)) c=none->H c=none:=fun{c} z=>by
    by_cases y:c=r
    ·rw[y,hr1] at z;cases z
    ·rwa [Zm y] at z
   show Zpx _ _ _ _ (upd H r (.lst ((s.runs++[day]).map V.int)));generalize upd H r (.lst ((s.runs++[day]).map V.int))=H1 at fr1 hr1 bk1
   have k1:=fr1 _ _ (Ne.symm nrk) hk;have w1:=fr1 _ _ (Ne.symm nrw) hw;have kt1:∀c xs,H c=some (.tup xs)->H1 c=some (.tup xs):=fun c xs e=>fr1 c _ (Yi e hr' (fun z=>nomatch z)) e;have hA1:ZQ Zg Zd Ze Zb Zk H1 a {s with runs:=s.runs++[day]} F:=Zj2 ha hb ht ho oa hh hr' hk hw eF nd nb (fun c u n _ _ e=>fr1 c u n e) hr1 k1 (Jh kt1 pk) w1;have ha1:=fr1 _ _ (Yi ha hr' (fun z=>nomatch z)) ha;refine⟨_,rfl,a,_,dx,_,rfl,ha1,rfl,Zb9 (by decide+kernel),_,rfl,a,day,{s with runs:=s.runs++[day]},F,rfl,by decide,hA1,⟨ok.bk,ok.lr,ok.rows,ok.few,ok.one,ok.own⟩,l64,fun L us zs H2 hL s2 hl2 po st iff=> ?_⟩
   have po:Paired (ZbY s day H2) zs us:=po;have ndz:zs.Nodup:=List.nodup_iff_pairwise_ne.mpr (st.imp fun{x y} h z=>by rw[z,Yn.irr] at h;cases h)
   have h2:∀c u,c≠r->H c=some u->H2 c=some u:=fun c u n e=>s2 _ _ (fr1 c u n e);have hk2:=s2 _ _ k1;have hw2:=s2 _ _ w1;have hr2:=s2 _ _ hr1;have ha2:=s2 _ _ ha1;have lz:=Paired.length po;have lzs:zs.length<=64:=by
    obtain⟨ns,l,sub⟩:=l64;have:=ndz.length_le_of_subset fun x hx=>sub x (ZjT ((iff x).mp hx).2);omega
   have lwd:s.wd.length=s.gs.length:=by
    have:=congrArg List.length ek
    rwa [List.length_map,List.length_map] at this
   have lkv:=Paired.length pk;have nL:H L=none:=bk1 hL;have nLF:L∉F:=fun m=>by
    rcases ki L m with ⟨_,y⟩|⟨_,y⟩<;>rw[nL] at y<;>cases y
   refine⟨_,rfl,L,rfl,⟨_,SqL.of hl2⟩,Xm (xs:=us) (fun i σ H'=>∃(v3:Option V) (kv:List (Key×V)),σ=[some (.ref a),some (.int day),some (.ref L),v3]/\H' k=some (.dK kv)/\Paired (ZfR H') (s.gs++(zs.take i).map fun r=>(r,((s.runs.length+1:Nat):Int),day)) kv/\H' wd=some (.dK (wkv (s.wd++(zs.take i).map fun r=>(r,Str.ofString "due"))))/\∀c u,c≠k->c≠wd->H2 c=some u->H' c=some u) ?_ ?_ ?_ ?_⟩
   ·exact⟨none,kvs,rfl,hk2,by rw[List.take_zero,List.map_nil,List.append_nil];exact Jh (fun b xs e=>s2 _ _ (kt1 _ _ e)) pk,by rw[List.take_zero,List.map_nil,List.append_nil];exact hw2,fun c u _ _ e=>e⟩
   ·rintro i σ H3 _ ⟨v3,kv,rfl,_,_,_,fr⟩;exact SqL.of (fr _ _ (Yi hl2 hk2 (fun z=>nomatch z)) (Yi hl2 hw2 (fun z=>nomatch z)) hl2)
   ·rintro i x σ H3 hx ⟨v3,kv,rfl,hk3,pk3,hw3,fr⟩;obtain⟨rc,erc,p,j,v5,rfl,hp,_⟩:=Zp9 po i x hx;have hi:i<zs.length:=(List.getElem?_eq_some_iff.mp erc).1;have tkz:zs.take (i+1)=zs.take i++[rc]:=by rw[List.take_add_one,erc];rfl
    have nin:rc∉zs.take i:=ZeI ndz erc;have ngs:rc∉s.gs.map (·.1):=((iff rc).mp (List.mem_of_getElem? erc)).1;have ha3:=fr _ _ (Yi ha2 hk2 (fun z=>nomatch z)) (Yi ha2 hw2 (fun z=>nomatch z)) ha2;have hr3:=fr _ _ nrk nrw hr2;have hp3:=fr _ _ (Yi hp hk2 (fun z=>nomatch z)) (Yi hp hw2 (fun z=>nomatch z)) hp;have l3:=Paired.length pk3;have ltk:=List.length_take_le' i zs;rw[List.length_append,List.length_map] at l3
    have nk:(YB kv (Sum.inr rc)).isSome=false:=by
     rw[Zm9 pk3];refine decide_eq_false fun m=> ?_;rw[List.map_append,List.map_map] at m
     rcases List.mem_append.mp m with m|m
     ·exact ngs m
     ·obtain⟨y,hy,e⟩:=List.mem_map.mp m;exact nin (e▸hy)
    have nw:(YB (wkv (s.wd++(zs.take i).map fun r=>(r,Str.ofString "due"))) (Sum.inr rc)).isSome=false:=by
     rw[Zeb];refine decide_eq_false fun m=> ?_;rw[List.map_append,List.map_map] at m
     rcases List.mem_append.mp m with m|m
     ·exact ngs (ek▸m)
     ·obtain⟨y,hy,e⟩:=List.mem_map.mp m;exact nin (e▸hy)
    refine⟨_,rfl,a,_,dx,_,_,rfl,ha3,T.cl_House,T.n_House_run_days,ZbV ..,_,_,rfl,.inl ⟨_,SqL.of hr3,rfl⟩,_,rfl,show 2<=sizeLine by omega,fun tt htt=> ?_⟩;have s4:=Zn htt (o:=.tup [.int ((s.runs++[day]).map V.int).length,.int day]);have ht4:upd H3 tt (.tup [.int ((s.runs++[day]).map V.int).length,.int day]) tt=some (.tup [.int ((s.runs++[day]).map V.int).length,.int day]):=Zc;show ZqW _ _ _ _ (upd H3 tt (.tup [.int ((s.runs++[day]).map V.int).length,.int day])) _
    generalize upd H3 tt (.tup [.int ((s.runs++[day]).map V.int).length,.int day])=H4 at s4 ht4
    have hk4:=s4 _ _ hk3;have ha4:=s4 _ _ ha3;refine⟨_,rfl,a,_,dx,_,_,rfl,ha4,T.cl_House,T.n_House_taken,ZdG ..,ixT rfl (SqT.of (s4 _ _ hp3)) rfl ⟨k,_,rfl,Zid.k (k:=Sum.inr rc) hk4 (by omega), ?_⟩⟩;rw[ZkZ nk];have fr5:∀c u,c≠k->H4 c=some u->upd H4 k (.dK (kv++[(Sum.inr rc,V.ref tt)])) c=some u:=fun c u n e=>by rw[Zm n];exact e
    have hk5:upd H4 k (.dK (kv++[(Sum.inr rc,V.ref tt)])) k=some (.dK (kv++[(Sum.inr rc,V.ref tt)])):=Zc;generalize upd H4 k (.dK (kv++[(Sum.inr rc,V.ref tt)]))=H5 at fr5 hk5
    have kt5:∀c xs,H4 c=some (.tup xs)->H5 c=some (.tup xs):=fun c xs e=>fr5 c _ (Yi e hk4 (fun z=>nomatch z)) e;have hw5:=fr5 _ _ (Ne.symm nkw) (s4 _ _ hw3);refine⟨_,rfl,a,_,dx,_,_,rfl,fr5 _ _ (Yi ha4 hk4 (fun z=>nomatch z)) ha4,T.cl_House,T.n_House_words,Zad ..,ixT rfl (SqT.of (kt5 _ _ (s4 _ _ hp3))) rfl ⟨wd,_,rfl,Zid.k (k:=Sum.inr rc) hw5 (by unfold wkv;rw[List.length_map,List.length_append,List.length_map];omega), ?_⟩⟩
    rw[ZkZ nw];have kt6:∀c xs,H5 c=some (.tup xs)->upd H5 wd (.dK (wkv (s.wd++(zs.take i).map fun r=>(r,Str.ofString "due"))++[(Sum.inr rc,V.str (Str.ofString "due"))])) c=some (.tup xs):=fun c xs e=>by rw[Zm (Yi e hw5 (fun z=>nomatch z))];exact e
    refine⟨_,_,rfl,by rw[Zm nkw];exact hk5, ?_, ?_,fun c u n1 n2 e=>by rw[Zm n2];exact fr5 _ _ n1 (s4 _ _ (fr c u n1 n2 e))⟩
    ·rw[tkz,List.map_append,<-List.append_assoc];refine Paired.snoc (Jh (fun b xs e=>kt6 _ _ (kt5 _ _ (s4 _ _ e))) pk3) ⟨tt,rfl, ?_⟩;rw[kt6 _ _ (kt5 _ _ ht4),List.length_map,List.length_append]
     rfl
    ·rw[tkz,Zc,List.map_append,<-List.append_assoc];unfold wkv;rw[List.map_append (l₁:=s.wd++_)]
     rfl
   ·rintro σ H3 ⟨v3,kv,rfl,hk3,pk3,hw3,fr⟩;rw[<-lz,List.take_length] at pk3 hw3
    refine⟨_,rfl,q L us zs H3 (fun c u m e=> ?_) ?_ nL nLF (fr _ _ (Yi hl2 hk2 (fun z=>nomatch z)) (Yi hl2 hw2 (fun z=>nomatch z)) hl2) ?_ st iff⟩
    ·rw[eF] at m
     simp only [List.mem_cons,not_or] at m
     exact fr c u m.2.2.2.2.1 m.2.2.2.2.2.1 (h2 c u m.2.2.2.1 e)
    ·exact Zj2 ha hb ht ho oa hh hr' hk hw eF nd nb (fun c u n1 n2 n3 e=>fr c u n2 n3 (h2 c u n1 e)) (fr _ _ nrk nrw hr2) hk3 pk3 hw3
    ·exact ZdK (fun b xs e=>fr _ _ (Yi e hk2 (fun z=>nomatch z)) (Yi e hw2 (fun z=>nomatch z)) e) po
theorem ZjW:(Str.ofString "abcdefghijklmnopqrstuvwxyz").length=26:=by decide+kernel
theorem Zj3{c:Bool}{A B:Prop}(hb:¬c=true->B)(ha:c=true->A):if c=true then A else B:=YZ ha hb
theorem Zqk:∀k<26,(Str.ofString "abcdefghijklmnopqrstuvwxyz").cps.toList[k]? =some (97+k):=by decide+kernel
theorem Zpa{i:Int}(h0:0<=i)(h1:i<26):atI (Str.ofString "abcdefghijklmnopqrstuvwxyz").cps.toList i=some (97+i.toNat):=by
 have l:(Str.ofString "abcdefghijklmnopqrstuvwxyz").cps.toList.length=26:=by rw[Array.length_toList];exact ZjW
 unfold atI ixN;rw[if_pos h0,l,if_pos (by omega)];exact Zqk i.toNat (by omega)
theorem Zj4(f:Nat->Nat):∀l:List Nat,((l.map fun j=>(⟨#[f j]⟩:Str)).map cs).flatten=l.map f
 |[]=>rfl
 |j::l=>by
  rw[List.map_cons,List.map_cons,List.flatten_cons,Zj4 f l,Zo9]
  rfl
theorem Zl0(f:Nat->Nat):∀l:List Nat,((l.map fun j=>(⟨#[f j]⟩:Str)).map (·.length)).sum=l.length
 |[]=>rfl
 |j::l=>by
  rw[List.map_cons,List.map_cons,List.sum_cons,Zl0 f l,List.length_cons];show 1+_=_;omega
theorem Yp:ZC ["_law_cell","_law_k","_law_letters","_law_size","_law_at","_law_way","_law_name","_law_j","_law_place"] ["_law_cell","_law_k"] (Zu Zc2):=⟨rfl,rfl,rfl,by decide+kernel,rfl,by decide+kernel,by decide+kernel⟩
theorem ZhQ{f:Addr}{fd:FuncData}(F:Fun K "_law_name_by" "_law_name_by" Zc2 f fd)(T:Txt K mg Zg Zd Ze Zb Zk):Yr P w K mg base CX0 1 f fd ["_law_cell","_law_k"] XR:=by
 refine F.ok Yp (fun vs H Q E h=> ?_) (fun cdv A outer s H vs Q E hr h=> ?_)
 ·obtain⟨n,k,rfl,_⟩:=h
  rfl
 ·obtain⟨n,k,rfl,q⟩:=h;have l5:=Xl;have m1:=Int.emod_nonneg n (show(12:Int)≠0 by decide);have m2:=Int.emod_lt_of_pos n (show(0:Int)<12 by decide);have m3:=Int.emod_nonneg k (show(12:Int)≠0 by decide);have m4:=Int.emod_lt_of_pos k (show(0:Int)<12 by decide);have q:∀z:Str,cs z=Zfb n k->∀H',Zx H H'->Q (.str z) H':=fun z e H' s=>by
   have e:z=Zb7 n k:=ext (e.trans (Zfc n k).symm);rw[e];exact q H' s
  unfold Zfb at q
  refine⟨_,(Zi (Zv (i:=2) Yp.nd rfl (Or.inr rfl) ZG) (Zi (Zv (i:=3) Yp.nd rfl (Or.inl rfl) (Zr YW Zh (Zr ZP (pv 0) Zh))) (Zi (Zv (i:=4) Yp.nd rfl (Or.inl rfl) (Zr ZP (Zr ZZ (pv 0) Zh) (pv 3))) (Zi (Zv (i:=5) Yp.nd rfl (Or.inl rfl) (Zr ZP (Zr ZZ (pv 0) Zh) Zh)) (Zi (Ye (Zt Yo (pv 5) Zh (Zy _)) (Zi (Zv (i:=3) Yp.nd rfl (Or.inl rfl) (Zr YW Zh (Zr ZP (pv 1) Zh))) (Zo (Zv (i:=4) Yp.nd rfl (Or.inl rfl) Zh))) ZF) (Zi (Ye (Zt Yo (pv 5) Zh (Zy _)) (Zo (Zw (ZaC PySem.F.plainAttrs_str PySem.F.slot_str_join PySem.F.type_str_join Zn2 ZG (Za (Je ["_law_j"] [("_law_letters",2),("_law_k",1),("_law_cell",0)] rfl (Zal rfl T.z_range (Za Zh Zj)) (by rfl) (by exact⟨rfl,⟨rfl,⟨rfl,trivial⟩⟩⟩) (by rfl) (by exact⟨⟨rfl,rfl,rfl⟩,⟨⟨rfl,rfl,rfl⟩,⟨⟨rfl,rfl,rfl⟩,trivial⟩⟩⟩) (fun _ _ _ _=>(ZK (i:=0) (show(nmY ["_law_j"] [("_law_letters",2),("_law_k",1),("_law_cell",0)]).Nodup by decide+kernel) rfl (Or.inl rfl))) (fun _ _ _ _=>Ze3) (fun _ _ _ _=>(Zz Zji (pv 1) (Zr YW (Zr ZP (Zr YW (pv 0) (pv 2)) Zh) (Zr ZP (Zr ZZ (pv 3) Zh) Zh)) (fun _ _=>rfl)))) Zj)))) ZF) (Zi (Zv (i:=6) Yp.nd rfl (Or.inl rfl) ZG) (Zi (XQ PassesOwn.never rfl (Zal rfl T.z_range (Za (pv 3) Zj)) (ZK (i:=7) Yp.nd rfl (Or.inl rfl)) (Zi (Zv (i:=8) Yp.nd rfl (Or.inl rfl) (Zr YW (Zr YW (Zr ZZ (pv 0) (Zr YW (pv 7) Zh)) (Zr Zax (pv 7) (pv 7))) (Zr Zax (pv 1) (JV ZdY (by rfl) T.z_int Zjp (Za (Zaw Yo (pv 7) (pv 4) (Zy _)) Zj))))) (Zo (Zv (i:=6) Yp.nd rfl (Or.inl rfl) (Zr Zen (pv 6) (Zz Zji (pv 2) (Zr ZP (pv 8) Zh) (fun _ _=>rfl))))))) (Zo (Zw (pv 6))))))))))), ?_⟩
  refine(vI rfl (by show(0:Int)<12;decide) ⟨_,_,rfl,rfl, ?_⟩)
  refine(vI rfl ⟨by decide,by decide⟩ ⟨_,rfl,_,_,rfl,rfl,(by show 0<1+n%12;omega), ?_⟩)
  refine(vI rfl ⟨by decide,by decide⟩ ⟨_,_,rfl,rfl,(by show(0:Int)<3;decide), ?_⟩)
  refine(fun(rest:∀σ':L2.St,(∃sz at_:Int,1<=sz/\sz<=12/\(n/144%3=0->sz=1+k%12/\at_=12)/\(¬n/144%3=0->sz=1+n%12/\at_=n/12%(1+n%12))/\σ'=[some (.int n),some (.int k),some (.str (Str.ofString "abcdefghijklmnopqrstuvwxyz")),some (.int sz),some (.int at_),some (.int (n/144%3)),none,none,none])->(_:L2.St->Hp->Prop) σ' H)=>
   ⟨_,rfl,rfl,_,rfl,Zj3 (fun e=>rest _ ⟨1+n%12,_,by omega,by omega,fun z=>absurd (decide_eq_true (congrArg V.int z)) e,fun _=>⟨rfl,rfl⟩,rfl⟩) (fun e=>(vI rfl (by show(0:Int)<12;decide) ⟨_,_,rfl,rfl,rest _ ⟨1+k%12,12,by omega,by omega,fun _=>⟨rfl,rfl⟩,fun z=>absurd (by injection of_decide_eq_true e) z,rfl⟩⟩))⟩) ?rest
  case rest=>
   rintro σ' ⟨sz,at_,p1,p2,ez,enz,rfl⟩;refine⟨_,rfl,rfl,_,rfl,YZ (fun e=> ?_) (fun e=> ?_)⟩
   ·have e:n/144%3=1:=by injection of_decide_eq_true e
    rw[if_pos e] at q
    refine⟨rfl,12,rfl,by decide,by decide,XC 12 (fun j=>[V.str ⟨#[Zdw n k j]⟩]) (by omega) (fun j=>Nat.le_refl 1) (fun j H2 s2 lt=>lt) (fun H2 s2=>Nat.le_refl _) (fun j y H2 H3 s2 lt yl RT RF rt rf=> ?_) fun D H2 hD s2 d2=> ?_⟩
    ·obtain⟨rfl,rfl⟩:=yl;have a1:=Int.emod_nonneg (0+(j:Int)+k) (show(12:Int)≠0 by decide);have a2:=Int.emod_lt_of_pos (0+(j:Int)+k) (show(0:Int)<12 by decide);have a3:=Int.emod_nonneg (n/432) (show(14:Int)≠0 by decide);have a4:=Int.emod_lt_of_pos (n/432) (show(0:Int)<14 by decide);have ec:=Zpa (i:=(0+(j:Int)+k)%12+n/432%14) (by omega) (by omega);refine⟨⟨rfl,rfl,rfl,trivial⟩,Zmp ?_⟩;refine⟨_,rfl,_,rfl,_,rfl,_,_,rfl,rfl,_,_,rfl,rfl,(by show(0:Int)<12;decide),vI rfl ⟨by decide,by decide⟩ ⟨_,_,rfl,rfl,(by show(0:Int)<14;decide),_,_,rfl,rfl,_,_,_,rfl,rfl, ?_,ec,rt _ _ ?_ (Zx.refl _)⟩⟩
     ·rw[ZjW];omega
     ·unfold Zdw;rw[show(0:Int)+(j:Int)=(j:Int) by omega]
    ·rw[JW] at d2
     have d3:H2 D=some (.lst (((List.range 12).map fun j=>(⟨#[Zdw n k j]⟩:Str)).map V.str)):=by rw[d2,List.map_map];rfl
     refine⟨Str.empty,D,(List.range 12).map fun j=>(⟨#[Zdw n k j]⟩:Str),rfl,rfl,SqL.of d3, ?_,q _ ?_ H2 s2⟩
     ·rw[Zl0,List.length_map,List.length_range]
      decide
     ·rw[Zom,Zj4]
   ·have e:¬n/144%3=1:=fun z=>e (decide_eq_true (congrArg V.int z));rw[if_neg e] at q
    refine⟨_,rfl,_,rfl,by omega,by omega,ZfC (fun i σ H'=>∃(x:Str) (s3 s5 v v8:Option V),σ=[some (.int n),some (.int k),some (.str (Str.ofString "abcdefghijklmnopqrstuvwxyz")),s3,some (.int at_),s5,some (.str x),v,v8]/\cs x=(List.range i).map (Zcs n k at_)/\H'=H) ?_ ?_ ?_⟩
    ·exact⟨Str.empty,_,_,none,none,rfl,rfl,rfl⟩
    ·rintro i σ H1 hi ⟨x,s3,s5,v,v8,rfl,hc,rfl⟩;have hi':(i:Int)<12:=by omega
     have lx:x.length=i:=by rw[ZlC,hc,List.length_map,List.length_range]
     have ib:Builtin.Int.intBits (0+(i:Int))<=64:=intBits_le_64 (by omega) (by omega);refine⟨_,rfl,_,rfl,_,_,rfl,rfl,_,_,rfl,rfl,⟨by omega,by omega⟩,_,rfl,_,rfl,_,_,rfl,rfl,IntMulOk.of_left ib,_,_,rfl,rfl,_,rfl,_,rfl,_,rfl,rfl,.inr ⟨_,rfl,_,_,rfl,rfl,IntMulOk.of_right (intBits_le_64 (by split<;>decide) (by split<;>decide)),_,_,rfl,rfl, ?_⟩⟩
     have ec:=Zpa (i:=(n/(0+(i:Int)+3)+(0+(i:Int))*(0+(i:Int))+k*if decide (V.int (0+(i:Int))=V.int at_)=true then 1 else 0)%26) (Int.emod_nonneg _ (by decide)) (Int.emod_lt_of_pos _ (by decide));refine⟨_,rfl,_,rfl,vI rfl (by show(0:Int)<26;decide) ⟨_,_,_,rfl,rfl, ?_,ec,_,_,rfl,rfl, ?_, ?_⟩⟩
     ·rw[ZjW];omega
     ·show x.length+1<=sizeLine;omega
     ·refine⟨_,_,_,_,_,rfl, ?_,rfl⟩;rw[ZlB,Zo9,hc,List.range_succ,List.map_append]
      congr 1
      show[97+_]=[Zcs n k at_ i];unfold Zcs;rw[show(0:Int)+(i:Int)=(i:Int) by omega]
      by_cases z:(i:Int)=at_
      ·rw[if_pos z,if_pos (decide_eq_true (congrArg V.int z))]
      ·rw[if_neg z,if_neg (fun w=>z (by injection of_decide_eq_true w))]
    ·rintro σ H1 ⟨x,s3,s5,v,v8,rfl,hc,rfl⟩;refine⟨_,rfl,q x ?_ _ (Zx.refl _)⟩
     by_cases z:n/144%3=0
     ·obtain⟨rfl,rfl⟩:=ez z;rw[if_pos z];exact hc
     ·obtain⟨rfl,rfl⟩:=enz z;rw[if_neg z];exact hc
theorem Jf.same{H H':Hp}(s:Zx H H'):∀{t:Tr} {a:Addr},Jf H t a->Jf H' t a
 | .never,a,h=>s _ _ h
 | .after k d,a,h=>s _ _ h
 | .later x y,a,⟨p,q,h,h1,h2⟩=>⟨p,q,s _ _ h,h1.same s,h2.same s⟩
 | .earlier x y,a,⟨p,q,h,h1,h2⟩=>⟨p,q,s _ _ h,h1.same s,h2.same s⟩
theorem w1:¬V.str (Str.ofString "after")=V.str (Str.ofString "never"):=by decide+kernel
theorem w2:¬V.str (Str.ofString "later")=V.str (Str.ofString "never"):=by decide+kernel
theorem w3:¬V.str (Str.ofString "earlier")=V.str (Str.ofString "never"):=by decide+kernel
theorem w4:¬V.str (Str.ofString "later")=V.str (Str.ofString "after"):=by decide+kernel
theorem w5:¬V.str (Str.ofString "earlier")=V.str (Str.ofString "after"):=by decide+kernel
theorem w6:¬V.str (Str.ofString "earlier")=V.str (Str.ofString "later"):=by decide+kernel
theorem Zl1:ZC ["_law_tree"] ["_law_tree"] (Zu Zeu):=⟨rfl,rfl,rfl,by decide+kernel,rfl,by decide+kernel,by decide+kernel⟩
theorem Zl2{f:Addr}{fd:FuncData}(F:Fun K "_law_made" "_law_made" Zeu f fd)(T:Txt K mg Zg Zd Ze Zb Zk)(n:Nat)(Jq:Cal P w K mg base CX0 (3+n+1) "_law_made" ["_law_tree"] (ZaG Zg Zd Ze Zb n))(ZjX:Cal P w K mg base CX0 3 "after" ["kind","days"] (Zhu Zg Zd Ze Zb))(ZfY:Cal P w K mg base CX0 3 "earlier" ["one","other"] (Zew Zg Zd Ze Zb))(ZjY:Cal P w K mg base CX0 3 "later" ["one","other"] (Zhv Zg Zd Ze Zb))(ZjZ:Cal P w K mg base CX0 1 "never" [] (Zht Zg Zd Ze Zb)):Yr P w K mg base CX0 (3+n+1+1) f fd ["_law_tree"] (ZaG Zg Zd Ze Zb (n+1)):=by
 refine F.ok Zl1 (fun vs H Q E h=> ?_) (fun cdv A outer s H vs Q E hr h=> ?_)
 ·obtain⟨a,t,rfl,_⟩:=h
  rfl
 ·obtain⟨a,t,rfl,ht,hd,q⟩:=h;refine⟨_,(Zi (Ye (Zt Yo (Zz ZJ (pv 0) Zh (fun _ _=>rfl)) ZG (Zy _)) (Zo (Zw (Zr2 ZjZ (hr.mono (by omega)) rfl ZD))) ZF) (Zi (Ye (Zt Yo (Zz ZJ (pv 0) Zh (fun _ _=>rfl)) ZG (Zy _)) (Zo (Zw (ZX ZjX (hr.mono (by omega)) rfl ZD (Za (Zz ZJ (pv 0) Zh (fun _ _=>rfl)) (Za (Zz ZJ (pv 0) Zh (fun _ _=>rfl)) Zj))))) ZF) (Zi (Ye (Zt Yo (Zz ZJ (pv 0) Zh (fun _ _=>rfl)) ZG (Zy _)) (Zo (Zw (ZX ZjY (hr.mono (by omega)) rfl ZD (Za (ZX Jq (hr.mono (by omega)) rfl ZD (Za (Zz ZJ (pv 0) Zh (fun _ _=>rfl)) Zj)) (Za (ZX Jq (hr.mono (by omega)) rfl ZD (Za (Zz ZJ (pv 0) Zh (fun _ _=>rfl)) Zj)) Zj))))) ZF) (Zo (Zw (ZX ZfY (hr.mono (by omega)) rfl ZD (Za (ZX Jq (hr.mono (by omega)) rfl ZD (Za (Zz ZJ (pv 0) Zh (fun _ _=>rfl)) Zj)) (Za (ZX Jq (hr.mono (by omega)) rfl ZD (Za (Zz ZJ (pv 0) Zh (fun _ _=>rfl)) Zj)) Zj)))))))), ?_⟩
  cases t with
  |never=>
   have ha:H a=some _:=ht;exact(ixT rfl (SqT.of ha) rfl ⟨rfl,_,rfl,Zfa rfl ⟨rfl,fun p H' s _ t=>q p H' s t⟩⟩)
  |after k d=>
   have ha:H a=some _:=ht;refine(ixT rfl (SqT.of ha) rfl ⟨rfl,_,rfl,JC w1 (ixT rfl (SqT.of ha) rfl ⟨rfl,_,rfl,Zfa rfl ?_⟩)⟩);exact(ixT rfl (SqT.of ha) rfl (ixT rfl (SqT.of ha) rfl ⟨k,d,rfl,fun p H' s _ t=>q p H' s t⟩))
  |later x y=>
   obtain⟨p1,p2,ha,t1,t2⟩:=ht;have hdeep:max x.deep y.deep+1<n+1:=hd;refine(ixT rfl (SqT.of ha) rfl ⟨rfl,_,rfl,JC w2 (ixT rfl (SqT.of ha) rfl ⟨rfl,_,rfl,JC w4 (ixT rfl (SqT.of ha) rfl ⟨rfl,_,rfl,Zfa rfl ?_⟩)⟩)⟩);refine(ixT rfl (SqT.of ha) rfl ⟨p1,x,rfl,t1,by omega,fun m1 H1 s1 tm1=> ?_⟩);refine(ixT rfl (SqT.of (s1 _ _ ha)) rfl ⟨p2,y,rfl,t2.same s1,by omega,fun m2 H2 s2 tm2=> ?_⟩);exact⟨m1,m2,x,y,rfl,tm1.same s2,tm2,fun p H3 s3 _ t3=>q p H3 (s1.trans (s2.trans s3)) t3⟩
  |earlier x y=>
   obtain⟨p1,p2,ha,t1,t2⟩:=ht;have hdeep:max x.deep y.deep+1<n+1:=hd;refine(ixT rfl (SqT.of ha) rfl ⟨rfl,_,rfl,JC w3 (ixT rfl (SqT.of ha) rfl ⟨rfl,_,rfl,JC w5 (ixT rfl (SqT.of ha) rfl ⟨rfl,_,rfl,JC w6 ?_⟩)⟩)⟩);refine(ixT rfl (SqT.of ha) rfl ⟨p1,x,rfl,t1,by omega,fun m1 H1 s1 tm1=> ?_⟩);refine(ixT rfl (SqT.of (s1 _ _ ha)) rfl ⟨p2,y,rfl,t2.same s1,by omega,fun m2 H2 s2 tm2=> ?_⟩);exact⟨m1,m2,x,y,rfl,tm1.same s2,tm2,fun p H3 s3 _ t3=>q p H3 (s1.trans (s2.trans s3)) t3⟩
theorem Zrq(k:Int)(h0:0<=k)(h1:k<3):∃m u:Int,atI [V.int 40,.int 12,.int 9] k=some (.int m)/\atI [V.int 1,.int 30,.int 360] k=some (.int u)/\0<m/\m<=40/\0<=u/\u<=360:=by
 have e:k=0\/k=1\/k=2:=by omega
 rcases e with rfl|rfl|rfl
 ·exact⟨40,1,rfl,rfl,by decide,by decide,by decide,by decide⟩
 ·exact⟨12,30,rfl,rfl,by decide,by decide,by decide,by decide⟩
 ·exact⟨9,360,rfl,rfl,by decide,by decide,by decide,by decide⟩
theorem ZcB:ZC ["_law_cell","_law_way"] ["_law_cell"] (Zu ZaT):=⟨rfl,rfl,rfl,by decide+kernel,rfl,by decide+kernel,by decide+kernel⟩
theorem ZfZ{f:Addr}{fd:FuncData}(F:Fun K "_law_length_by" "_law_length_by" ZaT f fd)(T:Txt K mg Zg Zd Ze Zb Zk):Yr P w K mg base CX0 1 f fd ["_law_cell"] Zao:=by
 refine F.ok ZcB (fun vs H Q E h=> ?_) (fun cdv A outer s H vs Q E hr h=> ?_)
 ·obtain⟨c,rfl,_⟩:=h
  rfl
 ·obtain⟨c,rfl,q⟩:=h;have l5:=Xl;have m0:=Int.emod_nonneg c (show(4:Int)≠0 by decide);have m1:=Int.emod_lt_of_pos c (show(0:Int)<4 by decide);refine⟨_,(Zi (Zv (i:=1) ZcB.nd rfl (Or.inl rfl) (Zr ZP (pv 0) Zh)) (Zi (Ye (Zt Yo (pv 1) Zh (Zy _)) (Zo (Zw (Zr ZP (Zr Zax (Zr ZZ (pv 0) Zh) Zh) (Zr ZnP Zh Zh)))) ZF) (Zo (Zw (Zr Zax (Zr ZP (Zr ZZ (pv 0) Zh) (Zz YC (Yl (Za Zh (Za Zh (Za Zh Zj)))) (pv 1) (fun _ _=>rfl))) (Zz YC (Yl (Za Zh (Za Zh (Za Zh Zj)))) (pv 1) (fun _ _=>rfl))))))), ?_⟩
  refine(vI rfl (by show(0:Int)<4;decide) (vEq rfl rfl (YZ (fun e=> ?_) (fun e=> ?_))))
  ·refine(vI rfl ⟨by decide,by decide⟩ ⟨_,_,rfl,rfl,IntMulOk.of_right (intBits_le_64 (by decide) (by decide)),_,_,rfl,rfl,ZoM (by decide) (by decide),_,_,rfl,rfl,pow_pos _, ?_⟩);have p40:(0:Int)<10^(40:Int).toNat:=pow_pos _;exact q _ H (Int.emod_nonneg _ (Int.ne_of_gt p40)) (Int.emod_lt_of_pos _ p40) (Zx.refl H)
  ·have e:¬c%4=3:=fun z=>e (decide_eq_true (by show V.int (c%4)=V.int 3;rw[z]))
   obtain⟨m,u,e1,e2,b1,b2,b3,b4⟩:=Zrq (c%4) m0 (by omega);refine(vI rfl ⟨by decide,by decide⟩ ⟨(show 3<=sizeLine from sl),fun p1 hp1=>⟨_,rfl,p1,_,_,_,rfl,rfl,SqL.of Zc,e1,_,_,rfl,rfl,b1,(show 3<=sizeLine from sl),fun p2 hp2=>⟨_,rfl,p2,_,_,_,rfl,rfl,SqL.of Zc,e2,_,_,rfl,rfl,IntMulOk.of_right (intBits_le_64 (by omega) (by omega)), ?_⟩⟩⟩);have d0:=Int.emod_nonneg (c/4) (Int.ne_of_gt b1);have d1:=Int.emod_lt_of_pos (c/4) b1
   have p:(14400:Int)<10^40:=by decide+kernel
   have z1:0<=c/4%m*u:=Int.mul_nonneg d0 b3;have z2:c/4%m*u<=40*360:=Int.mul_le_mul (by omega) b4 b3 (by decide);exact q _ _ z1 (by omega) ((Zn hp1).trans (Zn hp2))
theorem Jf.keep{H H':Hp}(s:∀b xs,H b=some (.tup xs)->H' b=some (.tup xs)):∀{t:Tr} {a:Addr},Jf H t a->Jf H' t a
 | .never,a,h=>s _ _ h
 | .after k d,a,h=>s _ _ h
 | .later x y,a,⟨p,q,h,h1,h2⟩=>⟨p,q,s _ _ h,h1.keep s,h2.keep s⟩
 | .earlier x y,a,⟨p,q,h,h1,h2⟩=>⟨p,q,s _ _ h,h1.keep s,h2.keep s⟩
structure Stk (H:Hp) (S:Addr) (ts:List (Tr×Addr)):Prop where
 at_:H S=some (.lst (ts.map fun t=>V.ref t.2))
 all:∀t∈ts,Jf H t.1 t.2
 gd:∀t∈ts,t.1.good
def Zg0(ts:List (Tr×Addr)):Nat:=(ts.map fun t=>t.1.cnt).sum
theorem Stk.same{H H':Hp}{S:Addr}{ts:List (Tr×Addr)}(h:Stk H S ts)(s:Zx H H'):Stk H' S ts:=⟨s _ _ h.at_,fun t ht=>(h.all t ht).same s,h.gd⟩
theorem two_last{α:Type}(l:List α)(h:1<l.length):∃us x y,l=us++[x,y]:=by
 have hr:l.reverse.length=l.length:=List.length_reverse;cases e:l.reverse with
 |nil=>rw[e] at hr;simp at hr;omega
 |cons y r=>
  cases r with
  |nil=>rw[e] at hr;simp at hr;omega
  |cons x r=>
   refine⟨r.reverse,x,y, ?_⟩;have:=congrArg List.reverse e
   simpa using this
theorem Zql{α:Type}(us:List α)(y:α):(us++[y])[(us++[y]).length-1]? =some y:=by
 rw[List.length_append];simp
theorem Zny{α:Type}(us:List α)(y:α):(us++[y]).dropLast=us:=by simp
theorem ZdL(us ts:List (Tr×Addr)):Zg0 (us++ts)=Zg0 us+Zg0 ts:=by
 unfold Zg0;rw[List.map_append,List.sum_append]
theorem Stk.push{H H':Hp}{S t:Addr}{us:List (Tr×Addr)}{z:Tr}(hu:∀u∈us,Jf H u.1 u.2)(kp:∀b xs,H b=some (.tup xs)->H' b=some (.tup xs))(hS:H' S=some (.lst (us.map (fun t=>V.ref t.2)++[.ref t])))(hz:Jf H' z t)(hg:∀u∈us,u.1.good)(gz:z.good):Stk H' S (us++[(z,t)]):=by
 refine⟨by rw[hS,List.map_append];rfl,fun u hm=> ?_,fun u hm=>(List.mem_append.mp hm).elim (hg u) fun m=>by rw[show u=(z,t) by simpa using m];exact gz⟩
 rcases List.mem_append.mp hm with m|m
 ·exact(hu u m).keep kp
 ·have e:u=(z,t):=by simpa using m
  rw[e];exact hz
theorem two_tree{H':Hp}{t:Addr}{x y:Tr×Addr}{w:Str}{z:Tr}(hx:Jf H' x.1 x.2)(hy:Jf H' y.1 y.2)(ht:H' t=some (.tup [.str w,.ref x.2,.ref y.2]))(hz:(w=Str.ofString "later"/\z=.later x.1 y.1)\/(w=Str.ofString "earlier"/\z=.earlier x.1 y.1)):
  Jf H' z t/\z.cnt=x.1.cnt+y.1.cnt/\(x.1.good->y.1.good->z.good):=by
 rcases hz with ⟨rfl,rfl⟩|⟨rfl,rfl⟩
 ·exact⟨⟨x.2,y.2,ht,hx,hy⟩,rfl,fun a b=>⟨a,b⟩⟩
 ·exact⟨⟨x.2,y.2,ht,hx,hy⟩,rfl,fun a b=>⟨a,b⟩⟩
theorem Zj5{H1:Hp}{S p t:Addr}{o1 o2 o3 o4 o5:HO}(hp:upd H1 S o1 p=none)(ht:upd (upd (upd H1 S o1) p o2) S o3 t=none):∀b u,b≠S->H1 b=some u->upd (upd (upd (upd (upd H1 S o1) p o2) S o3) t o4) S o5 b=some u:=fun b u n e=>by
 have e1:upd H1 S o1 b=some u:=by rw[Zm n];exact e
 have e2:upd (upd H1 S o1) p o2 b=some u:=by rw[Zm (Zf e1 hp)];exact e1
 have e3:upd (upd (upd H1 S o1) p o2) S o3 b=some u:=by rw[Zm n];exact e2
 rw[Zm n,Zm (Zf e3 ht)];exact e3
theorem Zpb{H1:Hp}{S t:Addr}{o3 o4 o5:HO}(ht:upd H1 S o3 t=none):upd (upd (upd H1 S o3) t o4) S o5 t=some o4:=by
 rw[Zm (Ne.symm (Zf Zc ht)),Zc]
theorem Zpc(k:Int)(h0:0<=k)(h1:k<2)(x y:Tr):∃(w:Str) (z:Tr),atI [V.str (Str.ofString "later"),.str (Str.ofString "earlier")] k=some (.str w)/\((w=Str.ofString "later"/\z=.later x y)\/(w=Str.ofString "earlier"/\z=.earlier x y)):=by
 have e:k=0\/k=1:=by omega
 rcases e with rfl|rfl
 ·exact⟨_,_,rfl,.inl ⟨rfl,rfl⟩⟩
 ·exact⟨_,_,rfl,.inr ⟨rfl,rfl⟩⟩
theorem Zrr:Nm (Str.ofString "put"):=by
 exact⟨by decide+kernel,by decide+kernel,by decide+kernel⟩
theorem Zrs(z:Str)(b:Bool)(hz:Nm z):∃w:Str,Nm w/\atI [V.str z,.str (Str.ofString "put")] (if b=true then 1 else 0)=some (.str w):=by
 cases b
 ·exact⟨z,hz,rfl⟩
 ·exact⟨_,Zrr,rfl⟩
theorem ZhR:∀l:List (Tr×Addr),l.length<=Zg0 l
 |[]=>Nat.zero_le _
 |t::r=>by
  have:=t.1.deep_cnt;have:=ZhR r;show r.length+1<=t.1.cnt+Zg0 r;omega
theorem Zqm{S:Addr}{H:Hp}{Q:VK}{us:List V}{y:V}(h:H S=some (.lst (us++[y])))(q:Q y (upd H S (.lst us))):ZrS (.ref S) [] H Q:=⟨S,_,y,rfl,rfl,h,Zql us y,by rw[Zny];exact q⟩
theorem Xd:ZC ["_law_cells","_law_names_by","_law_most","_law_some","_law_many","_law_cell","_law_other","_law_kind"] ["_law_cells","_law_names_by","_law_most"] (Zu Zc3):=⟨rfl,rfl,rfl,by decide+kernel,rfl,by decide+kernel,by decide+kernel⟩
theorem ZhS{f:Addr}{fd:FuncData}(F:Fun K "_law_tree_by" "_law_tree_by" Zc3 f fd)(T:Txt K mg Zg Zd Ze Zb Zk)(ZaZ:Cal P w K mg base CX0 1 "_law_length_by" ["_law_cell"] Zao)(Yh:Cal P w K mg base CX0 1 "_law_name_by" ["_law_cell","_law_k"] XR):Yr P w K mg base CX0 2 f fd ["_law_cells","_law_names_by","_law_most"] Zby:=by
 refine F.ok Xd (fun vs H Q E h=> ?_) (fun cdv A outer s H vs Q E hr h=> ?_)
 ·obtain⟨a,ns,b,mo,rfl,_⟩:=h
  rfl
 ·obtain⟨a,ns,b,mo,rfl,ha,hn,lo,hi_,q⟩:=h;have l5:=Xl;have hu3:=ZlF hr;refine⟨_,(Zi (Zv (i:=3) Xd.nd rfl (Or.inl rfl) (Yl Zj)) (Zi (Zv (i:=4) Xd.nd rfl (Or.inl rfl) Zh) (Zi (XQ PassesOwn.never rfl (Yy (pv 0)) (ZK (i:=5) Xd.nd rfl (Or.inl rfl)) (Zo (Ye (PW.pt (Za4 (Zt Zgd (Zr ZP (pv 5) Zh) Zh (Zy _)) (Jl (Zt Zh1 (ZM YJ (by rfl) T.z_len Jk (Za (pv 3) Zj)) Zh (Zy _))))) (Zi (Zv (i:=6) Xd.nd rfl (Or.inl rfl) (Zjk PySem.F.plainAttrs_list PySem.F.slot_list_pop PySem.F.type_list_pop Zjl (pv 3))) (Zo (Xf (ZaC PySem.F.plainAttrs_list PySem.F.slot_list_append PySem.F.type_list_append Yz (pv 3) (Za (YX (Za (Zz YC (Yl (Za ZG (Za ZG Zj))) (Zr ZP (pv 5) Zh) (fun _ _=>rfl)) (Za (Zjk PySem.F.plainAttrs_list PySem.F.slot_list_pop PySem.F.type_list_pop Zjl (pv 3)) (Za (pv 6) Zj)))) Zj))))) (Zo (Ye (Zt Zgd (pv 4) (pv 2) (Zy _)) (Zi (Zv (i:=4) Xd.nd rfl (Or.inl rfl) (Zr YW (pv 4) Zh)) (Zo (Ye (Zt Yo (Zr ZP (Zr ZZ (pv 5) Zh) Zh) Zh (Zy _)) (Zo (Xf (ZaC PySem.F.plainAttrs_list PySem.F.slot_list_append PySem.F.type_list_append Yz (pv 3) (Za (YX (Za ZG Zj)) Zj)))) (Zi (Zv (i:=7) Xd.nd rfl (Or.inl rfl) (ZX Yh (hr.mono (by omega)) rfl ZD (Za (pv 1) (Za (Zr ZP (Zr ZZ (pv 5) Zh) Zh) Zj)))) (Zo (Xf (ZaC PySem.F.plainAttrs_list PySem.F.slot_list_append PySem.F.type_list_append Yz (pv 3) (Za (YX (Za ZG (Za (Zz YC (Yl (Za (pv 7) (Za ZG Zj))) (JV ZdY (by rfl) T.z_int Zjp (Za (Zaw Yo (Zr ZP (Zr ZZ (pv 5) Zh) Zh) Zh (Zy _)) Zj)) (fun _ _=>rfl)) (Za (ZX ZaZ (hr.mono (by omega)) rfl ZD (Za (Zr ZZ (pv 5) Zh) Zj)) Zj)))) Zj)))))))) ZF))))) (Zi (Ye (Zt (Zop hu3) (pv 3) (Yl Zj) (Zy _)) (Zo (Zw (YX (Za ZG Zj)))) ZF) (Zi (ZnM PassesOwn.never (Zt Zh1 (ZM YJ (by rfl) T.z_len Jk (Za (pv 3) Zj)) Zh (Zy _)) (Zi (Zv (i:=6) Xd.nd rfl (Or.inl rfl) (Zjk PySem.F.plainAttrs_list PySem.F.slot_list_pop PySem.F.type_list_pop Zjl (pv 3))) (Zo (Xf (ZaC PySem.F.plainAttrs_list PySem.F.slot_list_append PySem.F.type_list_append Yz (pv 3) (Za (YX (Za (Zz YC (Yl (Za ZG (Za ZG Zj))) (Zr ZP (ZM YJ (by rfl) T.z_len Jk (Za (pv 3) Zj)) Zh) (fun _ _=>rfl)) (Za (Zjk PySem.F.plainAttrs_list PySem.F.slot_list_pop PySem.F.type_list_pop Zjl (pv 3)) (Za (pv 6) Zj)))) Zj)))))) (Zo (Zw (Zz YC (pv 3) Zh (fun _ _=>rfl))))))))), ?_⟩
  refine⟨Nat.zero_le _,fun S hS=>⟨_,rfl,a,rfl,⟨_,SqL.of (Zn hS _ _ ha)⟩,Xm (xs:=ns.map V.int) (fun i σ H'=>∃(ts:List (Tr×Addr)) (m:Nat) (v5 v6 v7:Option V),σ=[some (.ref a),some (.int b),some (.int (mo:Int)),some (.ref S),some (.int (m:Int)),v5,v6,v7]/\Stk H' S ts/\Zg0 ts=m/\m<=mo/\Zx H H') ?_ ?_ ?_ ?_⟩⟩
  ·exact⟨[],0,none,none,none,rfl,⟨Zc,(fun t ht=>nomatch ht),fun t ht=>nomatch ht⟩,rfl,Nat.zero_le _,Zn hS⟩
  ·rintro i σ H1 _ ⟨ts,m,v5,v6,v7,rfl,st,hc,hm,s1⟩;exact SqL.of (s1 _ _ ha)
  ·rintro i x σ H1 hx ⟨ts,m,v5,v6,v7,rfl,st,hc,hm,s1⟩;obtain⟨c,rfl⟩:∃c,x=V.int c:=by
    rw[List.getElem?_map] at hx
    cases q:ns[i]? with
    |none=>rw[q] at hx;cases hx
    |some c=>rw[q] at hx;cases hx;exact⟨c,rfl⟩
   have lts:ts.length<=mo:=by
    have:=ZhR ts;omega
   have c0:=Int.emod_nonneg c (show(5:Int)≠0 by decide);refine(vI rfl (by show(0:Int)<5;decide) ⟨_,_,rfl,rfl,_,rfl, ?_⟩)
   refine(fun both=>YZ (fun e1=>⟨_,rfl,_,_,rfl,.inl ⟨_,SqL.of st.at_,rfl⟩,_,_,rfl,rfl,_,rfl,YZ (fun e2=> ?b1) (fun e2=>both)⟩) (fun e1=>Xh both)) ?b2
   case b1=>
    have e1:c%5<2:=of_decide_eq_true e1;have e2:(1:Int)<(((ts.map fun t=>V.ref t.2).length:Nat):Int):=of_decide_eq_true e2;rw[List.length_map] at e2
    obtain⟨us,x,y,rfl⟩:=two_last ts (by omega);obtain⟨w,z,ew,hz⟩:=Zpc (c%5) c0 e1 x.1 y.1;have A1:H1 S=some (.lst ((us++[x]).map (fun t=>V.ref t.2)++[V.ref y.2])):=by rw[st.at_];simp
    refine⟨_,rfl,.inl ⟨rfl,_,SqL.of A1⟩,Zqm A1 ?_⟩;refine⟨_,rfl,.inl ⟨rfl,_,SqL.of Zc⟩,(show 2<=sizeLine from sl),fun p hp=> ?_⟩;have nSp:S≠p:=Zf Zc hp;have A2:upd (upd H1 S (.lst ((us++[x]).map fun t=>V.ref t.2))) p (.lst [.str (Str.ofString "later"),.str (Str.ofString "earlier")]) S=some (.lst (us.map (fun t=>V.ref t.2)++[V.ref x.2])):=by rw[Zm nSp,Zc];simp
    refine(vI rfl (by show(0:Int)<5;decide) ⟨p,_,_,_,rfl,rfl,SqL.of Zc,ew,_,rfl,.inl ⟨rfl,_,SqL.of A2⟩,Zqm A2 ?_⟩)
    refine⟨_,rfl,(show 3<=sizeLine from sl),fun t ht=> ?_⟩;have nSt:S≠t:=Zf Zc ht;refine⟨S,_,V.ref t,rfl,rfl,by rw[Zm nSt];exact Zc, ?_, ?_⟩
    ·rw[List.length_map];have:(us++[x,y]).length=us.length+2:=by simp
     omega
    ·have kp:=Zj5 (o1:=.lst ((us++[x]).map fun t=>V.ref t.2)) (o2:=.lst [.str (Str.ofString "later"),.str (Str.ofString "earlier")]) (o3:=.lst (us.map fun t=>V.ref t.2)) (o4:=.tup [.str w,.ref x.2,.ref y.2]) (o5:=.lst (us.map (fun t=>V.ref t.2)++[.ref t])) hp ht;have kt:∀b xs,H1 b=some (.tup xs)->_:=fun b xs e=>kp b _ (Yi e st.at_ (fun z=>nomatch z)) e;obtain⟨tz,cz,gz⟩:=two_tree ((st.all x (by simp)).keep kt) ((st.all y (by simp)).keep kt) (Zpb ht) hz
     refine⟨us++[(z,t)],m,_,_,_,rfl,Stk.push (fun u hu=>st.all u (List.mem_append_left _ hu)) kt Zc tz (fun u hu=>st.gd u (List.mem_append_left _ hu)) (gz (st.gd x (by simp)) (st.gd y (by simp))), ?_,hm,fun b u e=>kp b u (Zf e hS) (s1 b u e)⟩;rw[<-hc,ZdL,ZdL];show Zg0 us+(z.cnt+0)=Zg0 us+(x.1.cnt+(y.1.cnt+0));omega
   case b2=>
    refine⟨_,rfl,_,rfl,_,_,rfl,rfl,_,rfl,YZ (fun e3=> ?_) (fun e3=>⟨ts,m,_,_,_,rfl,st,hc,hm,s1⟩)⟩;have e3:(m:Int)<(mo:Int):=of_decide_eq_true e3;refine⟨_,rfl,_,_,rfl,rfl,vI rfl ⟨by decide,by decide⟩ ⟨_,_,rfl,rfl,(by show(0:Int)<11;decide),rfl,_,rfl,YZ (fun _=> ?_) (fun _=> ?_)⟩⟩
    ·refine⟨_,rfl,.inl ⟨rfl,_,SqL.of st.at_⟩,(show 1<=sizeLine from sl),fun t ht=> ?_⟩;have nSt:S≠t:=Zf st.at_ ht;refine⟨S,_,V.ref t,rfl,rfl,by rw[Zm nSt];exact st.at_,(by rw[List.length_map];omega), ?_⟩
     have kp:∀b u,b≠S->H1 b=some u->upd (upd H1 t (.tup [.str (Str.ofString "never")])) S (.lst (ts.map (fun t=>V.ref t.2)++[.ref t])) b=some u:=fun b u n e=>by
      rw[Zm n,Zm (Zf e ht)];exact e
     refine⟨ts++[(.never,t)],m+1,_,_,_,rfl,Stk.push st.all (fun b xs e=>kp b _ (Yi e st.at_ (fun z=>nomatch z)) e) Zc ?_ st.gd trivial, ?_,by omega,fun b u e=>kp b u (Zf e hS) (s1 b u e)⟩
     ·show upd _ S _ t=_;rw[Zm (Ne.symm nSt),Zc]
     ·rw[ZdL,hc]
      rfl
    ·refine⟨_,rfl,vI rfl ⟨by decide,by decide⟩ ⟨_,_,rfl,rfl,(by show(0:Int)<6;decide),_,_,rfl,fun H2 s2=> ?_⟩⟩
     have nz:=ZkC b (c/5%6);have st2:=st.same s2;refine⟨_,rfl,.inl ⟨rfl,_,SqL.of st2.at_⟩,_,rfl,(show 2<=sizeLine from sl),fun p hp=> ?_⟩;obtain⟨w,nw,ew⟩:=Zrs (Zb7 b (c/5%6)) (decide (V.int (c/5%9)=V.int 4)) nz;refine(vI rfl ⟨by decide,by decide⟩ ⟨_,_,rfl,rfl,(by show(0:Int)<9;decide),rfl,.inr ⟨_,rfl,p,_,_,_,rfl,rfl,SqL.of Zc,ew, ?_⟩⟩)
     refine(vI rfl ⟨by decide,by decide⟩ ⟨_,rfl,fun d H4 d0 d1 s4=>⟨show 3<=sizeLine from sl,fun t ht=> ?_⟩⟩);have s24:=s2.trans ((Zn hp).trans s4);have st4:=st.same s24;have nSt:S≠t:=Zf st4.at_ ht;refine⟨S,_,V.ref t,rfl,rfl,by rw[Zm nSt];exact st4.at_,(by rw[List.length_map];omega), ?_⟩
     have kp:∀b u,b≠S->H4 b=some u->upd (upd H4 t (.tup [.str (Str.ofString "after"),.str w,.int d])) S (.lst (ts.map (fun t=>V.ref t.2)++[.ref t])) b=some u:=fun b u n e=>by
      rw[Zm n,Zm (Zf e ht)];exact e
     refine⟨ts++[(.after w d,t)],m+1,_,_,_,rfl,Stk.push st4.all (fun b xs e=>kp b _ (Yi e st4.at_ (fun z=>nomatch z)) e) Zc ?_ st4.gd ⟨nw,d0,d1⟩, ?_,by omega,fun b u e=>kp b u (Zf e hS) (s24 _ _ (s1 b u e))⟩
     ·show upd _ S _ t=_;rw[Zm (Ne.symm nSt),Zc]
     ·rw[ZdL,hc]
      rfl
  ·rintro σ H1 ⟨ts,m,v5,v6,v7,rfl,st,hc,hm,s1⟩;refine⟨_,rfl,Nat.zero_le _,fun D hD=>⟨S,D,_,rfl,rfl,SqL.of (Zn hD _ _ st.at_),SqL.of Zc,_,rfl,YZ (fun e=> ?_) (fun e=> ?_)⟩⟩
   ·exact⟨show 1<=sizeLine from sl,fun p hp=>q p .never _ (s1.trans ((Zn hD).trans (Zn hp))) Zc lo trivial⟩
   ·have ne:ts≠[]:=fun z=>e (decide_eq_true (by rw[z];rfl))
    refine⟨fun k σ H'=>∃(us:List (Tr×Addr)) (v5 v6 v7:Option V),σ=[some (.ref a),some (.int b),some (.int (mo:Int)),some (.ref S),some (.int (m:Int)),v5,v6,v7]/\Stk H' S us/\us≠[]/\Zg0 us<=mo/\k=us.length/\Zx H H',⟨ts.length,ts,v5,v6,v7,rfl,st.same (Zn hD),ne,by omega,rfl,s1.trans (Zn hD)⟩, ?_⟩;rintro k σ H2 ⟨us,v5,v6,v7,rfl,st2,ne2,hc2,rfl,s2⟩;refine⟨_,rfl,_,_,rfl,.inl ⟨_,SqL.of st2.at_,rfl⟩,_,_,rfl,rfl,_,rfl,YZ (fun e=> ?_) (fun e=> ?_)⟩
    ·have e:(1:Int)<(((us.map fun t=>V.ref t.2).length:Nat):Int):=of_decide_eq_true e;rw[List.length_map] at e
     refine⟨fun σ' H'=>∃(us':List (Tr×Addr)) (v5 v6 v7:Option V),σ'=[some (.ref a),some (.int b),some (.int (mo:Int)),some (.ref S),some (.int (m:Int)),v5,v6,v7]/\Stk H' S us'/\us'≠[]/\Zg0 us'<=mo/\us'.length<us.length/\Zx H H',
      fun σ' H' ⟨us',w5,w6,w7,e',st',ne',hc',hl',s'⟩=>⟨us'.length,hl',us',w5,w6,w7,e',st',ne',hc',rfl,s'⟩, ?_⟩
     obtain⟨vs,x,y,rfl⟩:=two_last us (by omega);have lv:(vs++[x,y]).length=vs.length+2:=by simp
     have lv2:vs.length<=1000:=by
      have:=ZhR (vs++[x,y]);omega
     obtain⟨w,z,ew,hz⟩:=Zpc ((((((vs++[x]).map fun t=>V.ref t.2).length:Nat):Int))%2) (Int.emod_nonneg _ (by decide)) (Int.emod_lt_of_pos _ (by decide)) x.1 y.1;have A1:H2 S=some (.lst ((vs++[x]).map (fun t=>V.ref t.2)++[V.ref y.2])):=by rw[st2.at_];simp
     refine⟨_,rfl,.inl ⟨rfl,_,SqL.of A1⟩,Zqm A1 ?_⟩;refine⟨_,rfl,.inl ⟨rfl,_,SqL.of Zc⟩,(show 2<=sizeLine from sl),fun p hp=> ?_⟩;have nSp:S≠p:=Zf Zc hp;have A2:upd (upd H2 S (.lst ((vs++[x]).map fun t=>V.ref t.2))) p (.lst [.str (Str.ofString "later"),.str (Str.ofString "earlier")]) S=some (.lst ((vs++[x]).map (fun t=>V.ref t.2))):=by rw[Zm nSp,Zc]
     have A3:upd (upd H2 S (.lst ((vs++[x]).map fun t=>V.ref t.2))) p (.lst [.str (Str.ofString "later"),.str (Str.ofString "earlier")]) S=some (.lst (vs.map (fun t=>V.ref t.2)++[V.ref x.2])):=by rw[A2];simp
     refine⟨_,rfl,_,_,rfl,.inl ⟨_,SqL.of A2,rfl⟩,_,_,rfl,rfl,(by show(0:Int)<2;decide),p,_,_,_,rfl,rfl,SqL.of Zc,ew,_,rfl,.inl ⟨rfl,_,SqL.of A3⟩,Zqm A3 ?_⟩
     refine⟨_,rfl,(show 3<=sizeLine from sl),fun t ht=> ?_⟩;have nSt:S≠t:=Zf Zc ht;refine⟨S,_,V.ref t,rfl,rfl,by rw[Zm nSt];exact Zc,(by rw[List.length_map];omega), ?_⟩
     have kp:=Zj5 (o1:=.lst ((vs++[x]).map fun t=>V.ref t.2)) (o2:=.lst [.str (Str.ofString "later"),.str (Str.ofString "earlier")]) (o3:=.lst (vs.map fun t=>V.ref t.2)) (o4:=.tup [.str w,.ref x.2,.ref y.2]) (o5:=.lst (vs.map (fun t=>V.ref t.2)++[.ref t])) hp ht;have kt:∀b xs,H2 b=some (.tup xs)->_:=fun b xs e=>kp b _ (Yi e st2.at_ (fun z=>nomatch z)) e;obtain⟨tz,cz,gz⟩:=two_tree ((st2.all x (by simp)).keep kt) ((st2.all y (by simp)).keep kt) (Zpb ht) hz
     refine⟨vs++[(z,t)],_,_,_,rfl,Stk.push (fun u hu=>st2.all u (List.mem_append_left _ hu)) kt Zc tz (fun u hu=>st2.gd u (List.mem_append_left _ hu)) (gz (st2.gd x (by simp)) (st2.gd y (by simp))),by simp, ?_,by rw[lv,List.length_append];show vs.length+1<_;omega,fun b u e=>kp b u (Zf e hS) (s2 b u e)⟩
     rw[ZdL] at hc2⊢
     have h2:Zg0 vs+(x.1.cnt+(y.1.cnt+0))<=mo:=hc2;show Zg0 vs+(z.cnt+0)<=mo;omega
    ·have e:¬(1:Int)<(((us.map fun t=>V.ref t.2).length:Nat):Int):=fun z=>e (decide_eq_true z);rw[List.length_map] at e
     obtain⟨t,rfl⟩:∃t,us=[t]:=by
      cases us with
      |nil=>exact absurd rfl ne2
      |cons t r=>
       cases r with
       |nil=>exact⟨t,rfl⟩
       |cons u r=>simp only [List.length_cons] at e;omega
     refine⟨_,rfl,S,_,_,V.ref t.2,rfl,rfl,SqL.of st2.at_,rfl,q t.2 t.1 H2 s2 (st2.all t (by simp)) ?_ (st2.gd t (by simp))⟩;have h2:t.1.cnt+0<=mo:=hc2;omega
theorem Zk0:ZC ["self","life"] ["self","life"] (Zu Zds):=⟨rfl,rfl,rfl,by decide+kernel,rfl,by decide+kernel,by decide+kernel⟩
theorem Zk1{f:Addr}{fd:FuncData}(F:Fun K "due" "Never.due" Zds f fd)(T:Txt K mg Zg Zd Ze Zb Zk)(n:Nat):Yr P w K mg base CX0 (0+n+1+1) f fd ["self","life"] (Zc8 Zg Zd Ze Zb (n+1) Zg):=by
 refine F.ok Zk0 (fun vs H Q E h=> ?_) (fun cdv A outer s H vs Q E hr h=> ?_)
 ·obtain⟨a,b,t,l,rfl,_⟩:=h
  rfl
 ·obtain⟨a,b,t,l,rfl,ht,hd,hC,hb,q⟩:=h;refine⟨_,(Zo (Zw XN)), ?_⟩;cases t with
  |never=>exact q H (Zx.refl H)
  |after k d=>exact absurd hC.symm T.ne_Never_After
  |later x y=>exact absurd hC.symm T.ne_Never_Later
  |earlier x y=>exact absurd hC.symm T.ne_Never_Earlier
theorem Zk2:ZC ["self","life"] ["self","life"] (Zu Zdt):=⟨rfl,rfl,rfl,by decide+kernel,rfl,by decide+kernel,by decide+kernel⟩
theorem Zk3{f:Addr}{fd:FuncData}(F:Fun K "due" "After.due" Zdt f fd)(T:Txt K mg Zg Zd Ze Zb Zk)(n:Nat):Yr P w K mg base CX0 (0+n+1+1) f fd ["self","life"] (Zc8 Zg Zd Ze Zb (n+1) Zd):=by
 refine F.ok Zk2 (fun vs H Q E h=> ?_) (fun cdv A outer s H vs Q E hr h=> ?_)
 ·obtain⟨a,b,t,l,rfl,_⟩:=h
  rfl
 ·obtain⟨a,b,t,l,rfl,ht,hd,hC,hb,q⟩:=h;have hu:=Zcp hr;cases t with
  |never=>exact absurd hC T.ne_Never_After
  |later x y=>exact absurd hC.symm T.ne_After_Later
  |earlier x y=>exact absurd hC.symm T.ne_After_Earlier
  |after k d=>
   obtain⟨dx,ha⟩:=ht;have hg:=Zhy hb k;refine⟨_,(Zi (Ye (ZfB (Ze1 hu (ZW (pv 0) rfl) (pv 1))) (Zo (Zw XN)) ZF) (Zo (Zw (Zr YW (Zba hu (pv 1) (ZW (pv 0) rfl) (fun _ _=>rfl)) (ZW (pv 0) rfl))))), ?_⟩;refine⟨_,rfl,a,_,dx,_,_,rfl,ha,T.cl_After,T.n_After_kind,ZjE k d,_,rfl,b,_,rfl,hg,_,rfl, ?_⟩;rw[Zhz];have q1:=q H (Zx.refl H);unfold Tr.due at q1
   cases ev:lk l k with
   |none=>
    rw[ev] at q1
    exact Zbb q1
   |some u=>
    rw[ev] at q1 hg
    exact Xh ⟨_,rfl,_,rfl,a,_,dx,_,_,rfl,ha,T.cl_After,T.n_After_kind,ZjE k d,b,_,rfl,hg,_,rfl,a,_,dx,_,_,rfl,ha,T.cl_After,T.n_After_days,Zms k d,_,_,rfl,rfl,q1⟩
theorem Zd7:ZC ["self","life","one_day","other_day"] ["self","life"] (Zu Zdu):=⟨rfl,rfl,rfl,by decide+kernel,rfl,by decide+kernel,by decide+kernel⟩
theorem Zk4{f:Addr}{fd:FuncData}(F:Fun K "due" "Later.due" Zdu f fd)(T:Txt K mg Zg Zd Ze Zb Zk)(n:Nat)(Zdg:Za2 P w K mg base CX0 (0+n+1) "due" ["self","life"] (Zc8 Zg Zd Ze Zb n) (fun C=>C=Zg\/C=Zd\/C=Ze\/C=Zb)):Yr P w K mg base CX0 (0+n+1+1) f fd ["self","life"] (Zc8 Zg Zd Ze Zb (n+1) Ze):=by
 refine F.ok Zd7 (fun vs H Q E h=> ?_) (fun cdv A outer s H vs Q E hr h=> ?_)
 ·obtain⟨a,b,t,l,rfl,_⟩:=h
  rfl
 ·obtain⟨a,b,t,l,rfl,ht,hd,hC,hb,q⟩:=h;cases t with
  |never=>exact absurd hC T.ne_Never_Later
  |after k d=>exact absurd hC T.ne_After_Later
  |earlier x y=>exact absurd hC.symm T.ne_Later_Earlier
  |later x y=>
   obtain⟨dx,p1,p2,ha,t1,t2⟩:=ht;obtain⟨dx1,f1,i1,l1⟩:=Zcw t1;obtain⟨n1,n2,n3,n4⟩:=Zmu "due" (.inl rfl);have hdeep:max x.deep y.deep+1<n+1:=hd;refine⟨_,(Zi (Zv (i:=2) Zd7.nd rfl (Or.inl rfl) (JQ (ZW (pv 0) rfl) Zdg (hr.mono (by omega)) ZD (Za (pv 1) Zj))) (Zi (Zv (i:=3) Zd7.nd rfl (Or.inl rfl) (JQ (ZW (pv 0) rfl) Zdg (hr.mono (by omega)) ZD (Za (pv 1) Zj))) (Zi (Ye (PW.pt (ZiB (Zt Zem (pv 2) XN (Zy _)) (ZgZ (Zt Zem (pv 3) XN (Zy _))))) (Zo (Zw XN)) ZF) (Zo (Zw (ZM (ZiC rfl) (by rfl) T.z_max ZlA (Za (pv 2) (Za (pv 3) Zj)))))))), ?_⟩
   refine⟨_,rfl,a,_,dx,_,_,rfl,ha,T.cl_Later,T.n_Later_one,ZjF p1 p2,p1,_,dx1,f1,rfl,i1,Zez x,l1 _ n1 n2 n3 n4,_,rfl,p1,b,x,l,rfl,t1,by omega,rfl,hb,fun H2 s2=> ?_⟩;obtain⟨dx2,f2,i2,l2⟩:=Zcw (t2.same s2);refine⟨_,rfl,a,_,dx,_,_,rfl,s2 _ _ ha,T.cl_Later,T.n_Later_other,Zfg p1 p2,p2,_,dx2,f2,rfl,i2,Zez y,l2 _ n1 n2 n3 n4,_,rfl,p2,b,y,l,rfl,t2.same s2,by omega,rfl,Zmt s2 hb,fun H3 s3=> ?_⟩;have q1:=q H3 (s2.trans s3)
   unfold Tr.due at q1
   cases e1:x.due l with
   |none=>
    rw[e1] at q1
    exact⟨_,rfl,rfl,_,rfl,Zbb (Zbb q1)⟩
   |some i=>
    cases e2:y.due l with
    |none=>
     rw[e1,e2] at q1
     exact⟨_,rfl,rfl,_,rfl,Xh ⟨_,rfl,rfl,_,rfl,Zbb q1⟩⟩
    |some j=>
     rw[e1,e2] at q1
     exact⟨_,rfl,rfl,_,rfl,Xh ⟨_,rfl,rfl,_,rfl,Xh ⟨_,rfl,_,rfl,i,j,rfl,q1⟩⟩⟩
theorem ZbI:ZC ["self","life","one_day","other_day"] ["self","life"] (Zu Zc6):=⟨rfl,rfl,rfl,by decide+kernel,rfl,by decide+kernel,by decide+kernel⟩
theorem ZhT{f:Addr}{fd:FuncData}(F:Fun K "due" "Earlier.due" Zc6 f fd)(T:Txt K mg Zg Zd Ze Zb Zk)(n:Nat)(Zdg:Za2 P w K mg base CX0 (0+n+1) "due" ["self","life"] (Zc8 Zg Zd Ze Zb n) (fun C=>C=Zg\/C=Zd\/C=Ze\/C=Zb)):Yr P w K mg base CX0 (0+n+1+1) f fd ["self","life"] (Zc8 Zg Zd Ze Zb (n+1) Zb):=by
 refine F.ok ZbI (fun vs H Q E h=> ?_) (fun cdv A outer s H vs Q E hr h=> ?_)
 ·obtain⟨a,b,t,l,rfl,_⟩:=h
  rfl
 ·obtain⟨a,b,t,l,rfl,ht,hd,hC,hb,q⟩:=h;cases t with
  |never=>exact absurd hC T.ne_Never_Earlier
  |after k d=>exact absurd hC T.ne_After_Earlier
  |later x y=>exact absurd hC T.ne_Later_Earlier
  |earlier x y=>
   obtain⟨dx,p1,p2,ha,t1,t2⟩:=ht;obtain⟨dx1,f1,i1,l1⟩:=Zcw t1;obtain⟨n1,n2,n3,n4⟩:=Zmu "due" (.inl rfl);have hdeep:max x.deep y.deep+1<n+1:=hd;refine⟨_,(Zi (Zv (i:=2) ZbI.nd rfl (Or.inl rfl) (JQ (ZW (pv 0) rfl) Zdg (hr.mono (by omega)) ZD (Za (pv 1) Zj))) (Zi (Zv (i:=3) ZbI.nd rfl (Or.inl rfl) (JQ (ZW (pv 0) rfl) Zdg (hr.mono (by omega)) ZD (Za (pv 1) Zj))) (Zi (Ye (Zt Zem (pv 2) XN (Zy _)) (Zo (Zw (pv 3))) ZF) (Zi (Ye (Zt Zem (pv 3) XN (Zy _)) (Zo (Zw (pv 2))) ZF) (Zo (Zw (ZM (ZmV rfl) (by rfl) T.z_min Zo7 (Za (pv 2) (Za (pv 3) Zj))))))))), ?_⟩
   refine⟨_,rfl,a,_,dx,_,_,rfl,ha,T.cl_Earlier,T.n_Earlier_one,ZjF p1 p2,p1,_,dx1,f1,rfl,i1,Zez x,l1 _ n1 n2 n3 n4,_,rfl,p1,b,x,l,rfl,t1,by omega,rfl,hb,fun H2 s2=> ?_⟩;obtain⟨dx2,f2,i2,l2⟩:=Zcw (t2.same s2);refine⟨_,rfl,a,_,dx,_,_,rfl,s2 _ _ ha,T.cl_Earlier,T.n_Earlier_other,Zfg p1 p2,p2,_,dx2,f2,rfl,i2,Zez y,l2 _ n1 n2 n3 n4,_,rfl,p2,b,y,l,rfl,t2.same s2,by omega,rfl,Zmt s2 hb,fun H3 s3=> ?_⟩;have q1:=q H3 (s2.trans s3)
   unfold Tr.due at q1
   cases e1:x.due l with
   |none=>
    rw[e1] at q1
    exact⟨_,rfl,rfl,_,rfl,Zbb ⟨_,rfl,q1⟩⟩
   |some i=>
    cases e2:y.due l with
    |none=>
     rw[e1,e2] at q1
     exact⟨_,rfl,rfl,_,rfl,Xh ⟨_,rfl,rfl,_,rfl,Zbb ⟨_,rfl,q1⟩⟩⟩
    |some j=>
     rw[e1,e2] at q1
     exact⟨_,rfl,rfl,_,rfl,Xh ⟨_,rfl,rfl,_,rfl,Xh ⟨_,rfl,_,rfl,i,j,rfl,q1⟩⟩⟩
theorem ZhU:ZC ["_law_script","_law_k"] ["_law_script","_law_k"] (Zu Zc1):=⟨rfl,rfl,rfl,by decide+kernel,rfl,by decide+kernel,by decide+kernel⟩
theorem ZhV{f:Addr}{fd:FuncData}(F:Fun K "_law_cell_at" "_law_cell_at" Zc1 f fd)(T:Txt K mg Zg Zd Ze Zb Zk):Yr P w K mg base CX0 1 f fd ["_law_script","_law_k"] (Za9 K):=by
 refine F.ok ZhU (fun vs H Q E h=> ?_) (fun cdv A outer s H vs Q E hr h=> ?_)
 ·obtain⟨a,ns,k,rfl,_⟩:=h
  rfl
 ·obtain⟨a,ns,k,rfl,hS,q⟩:=h;refine⟨_,(Zi (Ye (Zt Zgd (pv 1) (ZM YJ (by rfl) T.z_len Jk (Za (pv 0) Zj)) (Zy _)) (Zo (Zw (Zz YC (pv 0) (pv 1) (fun _ _=>rfl)))) ZF) (Zo (Zw Zh))), ?_⟩;have q1:=q H (Zx.refl H);refine⟨_,rfl,_,rfl,_,_,rfl,.inl ⟨_,hS,rfl⟩,_,_,rfl,rfl,_,rfl,YZ (fun e=> ?_) (fun e=> ?_)⟩
  ·have e:(k:Int)<((ns.map V.int).length:Int):=of_decide_eq_true e;rw[List.length_map] at e
   have lt:k<ns.length:=by omega
   have ec:atI (ns.map V.int) (k:Int)=some (.int (ns[k]?.getD 0)):=by
    unfold atI ixN;rw[if_pos (by omega),List.length_map,if_pos e,Int.toNat_natCast];show(ns.map V.int)[k]? =_;rw[List.getElem?_map,List.getElem?_eq_getElem lt]
    rfl
   exact⟨_,rfl,_,rfl,a,_,_,_,rfl,rfl,hS,ec,q1⟩
  ·have e:¬(k:Int)<((ns.map V.int).length:Int):=fun z=>e (decide_eq_true z);rw[List.length_map] at e
   rw[List.getElem?_eq_none (by omega)] at q1
   exact q1
theorem ZcC:ZC ["_law_cell","_law_names_by","_law_number"] ["_law_cell","_law_names_by"] (Zu ZaV):=⟨rfl,rfl,rfl,by decide+kernel,rfl,by decide+kernel,by decide+kernel⟩
theorem Zg1{f:Addr}{fd:FuncData}(F:Fun K "_law_number_by" "_law_number_by" ZaV f fd)(T:Txt K mg Zg Zd Ze Zb Zk):Yr P w K mg base CX0 1 f fd ["_law_cell","_law_names_by"] Zas:=by
 refine F.ok ZcC (fun vs H Q E h=> ?_) (fun cdv A outer s H vs Q E hr h=> ?_)
 ·obtain⟨c,b,rfl,_⟩:=h
  rfl
 ·obtain⟨c,b,rfl,q⟩:=h;refine⟨_,(Zi (Ye (Zt Yo (Zr ZP (Zr ZZ (pv 1) Zh) Zh) Zh (Zy _)) (Zo (Zw (ZM Zh2 (by rfl) T.z_abs Zlz (Za (pv 0) Zj)))) ZF) (Zi (Zv (i:=2) ZcC.nd rfl (Or.inl rfl) (Zr ZP (Zr YW (Zr Zax (pv 0) Zh) Zh) Zh)) (Zo (Zw (Zr ZP (Zr Zax (pv 2) Zh) Zh))))), ?_⟩;refine(vI rfl ⟨by decide,by decide⟩ ⟨_,_,rfl,rfl,(by show(0:Int)<2;decide),rfl,_,rfl,YZ (fun e=> ?_) (fun e=> ?_)⟩)
  ·exact⟨_,rfl,_,rfl,q _ H (by split<;>omega) (Zx.refl H)⟩
  ·refine(vI rfl (IntMulOk.of_right (intBits_le_64 (by decide) (by decide))) ⟨_,_,rfl,rfl,_,_,rfl,rfl,(by show(0:Int)<2305843009213693951;decide), ?_⟩)
   refine(vI rfl (IntMulOk.of_right (intBits_le_64 (by decide) (by decide))) ⟨_,_,rfl,rfl,(by show(0:Int)<2305843009213693951;decide), ?_⟩)
   exact q _ H (Int.emod_nonneg _ (by decide)) (Zx.refl H)
theorem ZmF:(Str.ofString "abcdefghijklmnopqrst").length=20:=by decide+kernel
theorem Zpd:(Str.ofString "xy").length=2:=by decide+kernel
theorem Zpe{z:Str}{i:Int}(h0:0<=i)(h1:i<z.length):∃c,atI z.cps.toList i=some c:=Zf9 (xs:=z.cps.toList) (by omega) (by rw[Array.length_toList];exact h1)
theorem Zg2:ZC ["_law_number","_law_names_by"] ["_law_number","_law_names_by"] (Zu ZaU):=⟨rfl,rfl,rfl,by decide+kernel,rfl,by decide+kernel,by decide+kernel⟩
theorem Zg3{f:Addr}{fd:FuncData}(F:Fun K "_law_record_by" "_law_record_by" ZaU f fd)(T:Txt K mg Zg Zd Ze Zb Zk)(Yh:Cal P w K mg base CX0 1 "_law_name_by" ["_law_cell","_law_k"] XR):Yr P w K mg base CX0 2 f fd ["_law_number","_law_names_by"] Zar:=by
 refine F.ok Zg2 (fun vs H Q E h=> ?_) (fun cdv A outer s H vs Q E hr h=> ?_)
 ·obtain⟨n,b,rfl,_⟩:=h
  rfl
 ·obtain⟨n,b,rfl,q⟩:=h;have l5:=Xl;refine⟨_,(Zi (Ye (Zt Yo (Zr ZP (pv 1) Zh) Zh (Zy _)) (Zo (Zw (Zr Zen (Zr Zen ZG (Zz Zji ZG (Zr ZP (pv 0) Zh) (fun _ _=>rfl))) (Zz Zji ZG (Zr ZP (Zr ZZ (pv 0) Zh) Zh) (fun _ _=>rfl))))) ZF) (Zo (Zw (ZX Yh (hr.mono (by omega)) rfl ZD (Za (pv 1) (Za (Zr ZP (pv 0) Zh) Zj)))))), ?_⟩;refine(vI rfl (by show(0:Int)<4;decide) ⟨rfl,_,rfl,YZ (fun e=> ?_) (fun e=> ?_)⟩)
  ·obtain⟨c1,e1⟩:=Zpe (z:=Str.ofString "abcdefghijklmnopqrst") (i:=n%20) (Int.emod_nonneg _ (by decide)) (by rw[ZmF];exact Int.emod_lt_of_pos _ (by decide))
   obtain⟨c2,e2⟩:=Zpe (z:=Str.ofString "xy") (i:=n/20%2) (Int.emod_nonneg _ (by decide)) (by rw[Zpd];exact Int.emod_lt_of_pos _ (by decide))
   refine(vI rfl (by show(0:Int)<20;decide) ⟨_,_,_,rfl,rfl, ?_,e1,_,_,rfl,rfl, ?_, ?_⟩)
   ·rw[ZmF];omega
   ·show 1+1<=sizeLine;omega
   refine(vI rfl ⟨by decide,by decide⟩ ⟨_,_,rfl,rfl,(by show(0:Int)<2;decide),_,_,_,rfl,rfl, ?_,e2,_,_,rfl,rfl, ?_,q _ H (Zx.refl H)⟩)
   ·rw[Zpd];omega
   ·show _<=sizeLine;rw[Zq9];show 1+1+1<=sizeLine;omega
  ·exact⟨_,rfl,vI rfl (by show(0:Int)<5;decide) ⟨_,_,rfl,fun H' s=>q _ H' s⟩⟩
theorem Zl3{H H':Hp}{a:Addr}{xs:List V}(s:Zx H H')(h:SqL K H a xs):SqL K H' a xs:=h.imp (fun r=>r.imp (fun e=>s _ _ e) fun⟨o,e⟩=>⟨o,s _ _ e⟩) id
theorem ZmG:∀{rs:List Sr} {ns:List Str} {r:Sr},JD ns rs->r.good->r.nm∉ns++rs.map Sr.nm->(∀e,r.el=some e->e∈ns++rs.map Sr.nm)->JD ns (rs++[r])
 |[],ns,r,_,g,n,e=>by
  rw[List.map_nil,List.append_nil] at n e
  exact⟨g,n,e,trivial⟩
 |x::rs,ns,r,⟨h1,h2,h3,h4⟩,g,n,e=>by
  rw[List.map_cons,List.append_cons] at n e
  exact⟨h1,h2,h3,ZmG h4 g n e⟩
theorem ZkD.keep{H H':Hp}(s:∀b xs,H b=some (.tup xs)->H' b=some (.tup xs)){d:Addr}{r:Sr}:ZkD H d r->ZkD H' d r
 |⟨v,h,t⟩=>by
  refine⟨v,s _ _ h, ?_⟩
  revert t
  cases r.tm with
  |none=>exact fun t=>t
  |some x=>exact fun⟨a,e,t⟩=>⟨a,e,t.keep s⟩
theorem Zd8{H H':Hp}(s:∀b xs,H b=some (.tup xs)->H' b=some (.tup xs)):∀{ds:List Addr} {rs:List Sr},Paired (ZkD H) ds rs->Paired (ZkD H') ds rs
 |_,_,.nil=> .nil
 |_,_,.cons h t=> .cons (h.keep s) (Zd8 s t)
theorem ZcD{α β:Type}{R:α->β->Prop}:∀{as:List α} {bs:List β} {a:α} {b:β},Paired R as bs->R a b->Paired R (as++[a]) (bs++[b])
 |_,_,_,_,.nil,r=> .cons r .nil
 |_,_,_,_,.cons h t,r=> .cons h (ZcD t r)
theorem Zpf(xs:List Int)(k:Int)(h:xs.length=3)(h0:0<=k)(h1:k<3):∃c∈xs,atI (xs.map V.int) k=some (.int c):=by
 obtain⟨c,m,e⟩:=Zhs (ns:=xs) (i:=k) (by omega) (by omega);exact⟨c,m,e⟩
theorem Yx:ZC ["_law_script","_law_names_by","_law_book","_law_shift","_law_most","_law_k","_law_cells","_law_tree","_law_elder"] ["_law_script","_law_names_by"] (Zu Zc4):=⟨rfl,rfl,rfl,by decide+kernel,rfl,by decide+kernel,by decide+kernel⟩
theorem ZhW{f:Addr}{fd:FuncData}(F:Fun K "_law_book_by" "_law_book_by" Zc4 f fd)(T:Txt K mg Zg Zd Ze Zb Zk)(YS:Cal P w K mg base CX0 1 "_law_cell_at" ["_law_script","_law_k"] (Za9 K))(Yh:Cal P w K mg base CX0 1 "_law_name_by" ["_law_cell","_law_k"] XR)(Zce:Cal P w K mg base CX0 2 "_law_tree_by" ["_law_cells","_law_names_by","_law_most"] Zby):Yr P w K mg base CX0 3 f fd ["_law_script","_law_names_by"] (ZbB K):=by
 refine F.ok Yx (fun vs H Q E h=> ?_) (fun cdv A outer s H vs Q E hr h=> ?_)
 ·obtain⟨a,ns,b,rfl,_⟩:=h
  rfl
 ·obtain⟨a,ns,b,rfl,hS,q⟩:=h;have l5:=Xl;have ha:=hS;refine⟨_,(Zi (Zv (i:=2) Yx.nd rfl (Or.inl rfl) (Yl Zj)) (Zi (Zv (i:=3) Yx.nd rfl (Or.inl rfl) (Zz YC (Yl (Za Zh (Za Zh (Za Zh Zj)))) (Zr ZP (Zr ZZ (pv 1) Zh) Zh) (fun _ _=>rfl))) (Zi (Zv (i:=4) Yx.nd rfl (Or.inl rfl) (Zz YC (Yl (Za Zh (Za Zh (Za Zh Zj)))) (Zr ZP (Zr ZZ (pv 1) Zh) Zh) (fun _ _=>rfl))) (Zi (XQ PassesOwn.never rfl (Zal rfl T.z_range (Za (Zr YW Zh (Zr ZP (ZX YS (hr.mono (by omega)) rfl ZD (Za (pv 0) (Za Zh Zj))) Zh)) Zj)) (ZK (i:=5) Yx.nd rfl (Or.inr rfl)) (Zi (Zjo (i:=6) ["_law_j"] [("_law_script",0),("_law_k",5)] Yx.nd rfl (Or.inl rfl) rfl (Zal rfl T.z_range (Za (Zr Zax Zh (pv 4)) Zj)) (by rfl) (by exact⟨rfl,⟨rfl,trivial⟩⟩) (by rfl) (by exact⟨⟨rfl,rfl,rfl⟩,⟨⟨rfl,rfl,rfl⟩,trivial⟩⟩) (fun _ _ _ _=>(ZK (i:=0) (show(nmY ["_law_j"] [("_law_script",0),("_law_k",5)]).Nodup by decide+kernel) rfl (Or.inl rfl))) (fun _ _ _ _=>Ze3) (fun _ _ _ _=>(Zr ZZ (ZX YS (hr.mono (by omega)) rfl ZD (Za (pv 1) (Za (Zr YW (Zr YW Zh (pv 2)) (Zr Zax Zh (pv 0))) Zj))) (Zr YW Zh (pv 0))))) (Zi (Zv (i:=7) Yx.nd rfl (Or.inl rfl) (ZX Zce (hr.mono (by omega)) rfl ZD (Za (pv 6) (Za (pv 1) (Za (pv 4) Zj))))) (Zi (Zv (i:=8) Yx.nd rfl (Or.inl rfl) XN) (Zi (Ye (PW.pt (Za4 (Zt Zh1 (pv 5) Zh (Zy _)) (Jl (Zt Zh1 (Zr ZP (Zr ZZ (Zz YC (pv 6) Zh (fun _ _=>rfl)) Zh) Zh) Zh (Zy _))))) (Zo (Zv (i:=8) Yx.nd rfl (Or.inl rfl) (Zz ZJ (Zz YC (pv 2) (Zr ZnO (Zr ZnO (pv 5) Zh) (Zr Zax (Zr ZP (Zr ZZ (Zz YC (pv 6) Zh (fun _ _=>rfl)) Zh) (pv 5)) (JV ZdY (by rfl) T.z_int Zjp (Za (Zaw Yo (Zr ZP (Zz YC (pv 6) Zh (fun _ _=>rfl)) Zh) Zh (Zy _)) Zj)))) (fun _ _=>rfl)) Zh (fun _ _=>rfl)))) ZF) (Zi (Ye (PW.pt (Za4 (Zt Zmm (pv 8) XN (Zy _)) (Jl (Zt Yo (Zr ZP (Zr ZZ (Zz YC (pv 6) Zh (fun _ _=>rfl)) Zh) Zh) Zh (Zy _))))) (Zo (Zv (i:=7) Yx.nd rfl (Or.inl rfl) XN)) ZF) (Zo (Xf (ZaC PySem.F.plainAttrs_list PySem.F.slot_list_append PySem.F.type_list_append Yz (pv 2) (Za (YX (Za (ZX Yh (hr.mono (by omega)) rfl ZD (Za (pv 1) (Za (Zr YW (pv 3) (pv 5)) Zj))) (Za (pv 8) (Za (pv 7) Zj)))) Zj)))))))))) (Zo (Zw (pv 2))))))), ?_⟩
  obtain⟨sh,msh,esh⟩:=Zpf [0,3,4] (b/7%3) rfl (Int.emod_nonneg _ (by decide)) (Int.emod_lt_of_pos _ (by decide));obtain⟨mo,mmo,emo⟩:=Zpf [3,3,9] (b/21%3) rfl (Int.emod_nonneg _ (by decide)) (Int.emod_lt_of_pos _ (by decide));refine⟨Nat.zero_le _,fun L hL=> ?_⟩;obtain⟨mo,rfl,lo,hi⟩:∃m:Nat,mo=(m:Int)/\3<=m/\m<=9:=by
   simp only [List.mem_cons,List.mem_nil_iff,or_false] at mmo
   rcases mmo with rfl|rfl|rfl
   ·exact⟨3,rfl,by decide,by decide⟩
   ·exact⟨3,rfl,by decide,by decide⟩
   ·exact⟨9,rfl,by decide,by decide⟩
  have hsh:0<=sh/\sh<=4:=by
   simp only [List.mem_cons,List.mem_nil_iff,or_false] at msh
   rcases msh with rfl|rfl|rfl<;>decide
  refine⟨(show 3<=sizeLine from sl),fun p1 hp1=>vI rfl ⟨by decide,by decide⟩ ⟨_,_,rfl,rfl,(by show(0:Int)<3;decide),p1,_,_,_,rfl,rfl,SqL.of Zc,esh, ?_⟩⟩
  refine⟨(show 3<=sizeLine from sl),fun p2 hp2=>vI rfl ⟨by decide,by decide⟩ ⟨_,_,rfl,rfl,(by show(0:Int)<3;decide),p2,_,_,_,rfl,rfl,SqL.of Zc,emo, ?_⟩⟩
  have s0:=(Zn hL (o:=.lst [])).trans ((Zn hp1 (o:=.lst [.int 0,.int 3,.int 4])).trans (Zn hp2 (o:=.lst [.int 3,.int 3,.int 9])));refine⟨_,rfl,a,ns,1,rfl,Zl3 s0 hS,fun H1 s1=>⟨_,_,rfl,rfl,(by show(0:Int)<8;decide),_,_,rfl,rfl, ?_⟩⟩
  have c0:=Int.emod_nonneg (ns[1]?.getD 0) (show(8:Int)≠0 by decide);have c1:=Int.emod_lt_of_pos (ns[1]?.getD 0) (show(0:Int)<8 by decide);have hL1:=s1 _ _ ((Zn hp2 (o:=.lst [.int 3,.int 3,.int 9])) _ _ ((Zn hp1 (o:=.lst [.int 0,.int 3,.int 4])) _ _ (Zc (H:=H) (a:=L) (o:=.lst []))));refine⟨_,rfl,by omega,by omega,ZfC (fun i σ H'=>∃(ds:List Addr) (rs:List Sr) (v5 v6 v7 v8:Option V),σ=[some (.ref a),some (.int b),some (.ref L),some (.int sh),some (.int (mo:Int)),v5,v6,v7,v8]/\H' L=some (.lst (ds.map V.ref))/\Paired (ZkD H') ds rs/\rs.length=i/\JD [] rs/\(∀(j:Nat) r,rs[j]? =some r->r.nm=Zb7 b (sh+(j:Int)))/\Zx H H') ?_ ?_ ?_⟩
  ·exact⟨[],[],none,none,none,none,rfl,hL1,.nil,rfl,trivial,(fun j r hj=>by simp at hj),s0.trans s1⟩
  ·rintro i σ H2 hi2 ⟨ds,rs,v5,v6,v7,v8,rfl,hl2,pr,lr,bk,nms,s2⟩;have hi3:i<8:=by omega
   have le:=Paired.length pr;refine⟨_,rfl,_,_,rfl,rfl,IntMulOk.of_right (intBits_le_64 (by omega) (by omega)),_,rfl,by omega,by omega,XC (2*mo) (fun j=>[V.int (ns[2+i+5*j]?.getD 0/(1+(j:Int)))]) (by omega) (fun j=>Nat.le_refl 1) (fun j H3 s3 lt=> ?_) (fun H3 s3=> ?_) (fun j y H3 H4 s3 lt yl RT RF rt rf=> ?_) fun D H3 hD s3 d3=> ?_⟩
   ·show j<(2*(mo:Int)).toNat;omega
   ·show(2*(mo:Int)).toNat<=2*mo;omega
   ·obtain⟨rfl,rfl⟩:=yl;refine⟨⟨rfl,rfl,trivial⟩,Zmp ?_⟩;refine⟨_,rfl,_,rfl,_,_,rfl,rfl,_,rfl,_,_,rfl,rfl,IntMulOk.of_right (intBits_le_64 (by omega) (by omega)),_,_,rfl,rfl,a,ns,2+i+5*j, ?_,Zl3 (s2.trans s3) hS,fun H5 s5=>⟨_,rfl,_,_,rfl,rfl,_,_,rfl,rfl,⟨by omega,by omega⟩,rt _ _ ?_ s5⟩⟩
    ·have z:2+(0+(i:Int))+5*(0+(j:Int))=((2+i+5*j:Nat):Int):=by omega
     show[V.ref a,V.int (2+(0+(i:Int))+5*(0+(j:Int)))]=_;rw[z]
    ·rw[show 0+(j:Int)=(j:Int) by omega]
   ·rw[JW] at d3
    have d4:H3 D=some (.lst (((List.range (2*mo)).map fun j=>ns[2+i+5*j]?.getD 0/(1+(j:Int))).map V.int)):=by rw[d3,List.map_map];rfl
    generalize ecs:((List.range (2*mo)).map fun j=>ns[2+i+5*j]?.getD 0/(1+(j:Int)))=cells at d4
    have lcs:cells.length=2*mo:=by rw[<-ecs,List.length_map,List.length_range]
    refine⟨_,rfl,_,rfl,_,rfl,D,cells,b,mo,rfl,d4,by omega,by omega,by omega,fun tp t H4 s4 ht hc hg=> ?_⟩;have hl4:=s4 _ _ (s3 _ _ hl2);have d5:=s4 _ _ d4;have pr4:Paired (ZkD H4) ds rs:=Zd8 (fun b xs e=>s4 _ _ (s3 _ _ e)) pr;obtain⟨x0,_,e0⟩:=Zhs (ns:=cells) (i:=0) (by omega) (by omega);obtain⟨x1,_,e1⟩:=Zhs (ns:=cells) (i:=1) (by omega) (by omega);refine(fun(rest:∀σ':L2.St,(∃o:Option Str,(∀e,o=some e->e∈rs.map Sr.nm)/\σ'=[some (.ref a),some (.int b),some (.ref L),some (.int sh),some (.int (mo:Int)),some (.int (0+(i:Int))),some (.ref D),some (.ref tp),some (oS o)])->(_:L2.St->Hp->Prop) σ' H4)=>
     (⟨_,rfl,_,_,rfl,rfl,_,rfl,Zj3 (fun e=>Xh (rest _ ⟨none,(fun _ z=>nomatch z),rfl⟩)) (fun e=> ?_)⟩)) ?rest
    case rest=>
     rintro σ' ⟨o,ho,rfl⟩;refine(fun(rest:∀σ':L2.St,(∃(tm:Option Tr) (v:V),Zsg H4 tm v/\(o=none->tm≠none)/\(∀t,tm=some t->t.good/\t.cnt<=9)/\σ'=[some (.ref a),some (.int b),some (.ref L),some (.int sh),some (.int (mo:Int)),some (.int (0+(i:Int))),some (.ref D),some v,some (oS o)])->(_:L2.St->Hp->Prop) σ' H4)=>
      (⟨_,rfl,rfl,_,rfl,Zj3 (fun e=>Xh (rest _ ⟨some t,.ref tp,⟨tp,rfl,ht⟩,(fun _ z=>nomatch z),(fun t' z=>by cases z;exact⟨hg,by omega⟩),rfl⟩)) (fun e=> ?_)⟩)) ?rest
     case rest=>
      rintro σ' ⟨tm,v,hv,hn,hgd,rfl⟩;refine⟨_,rfl,.inl ⟨rfl,_,SqL.of hl4⟩,_,rfl,_,rfl,_,rfl,_,_,rfl,rfl,b,sh+(0+(i:Int)),rfl,fun H5 s5=>⟨_,rfl,_,rfl,(show 3<=sizeLine from sl),fun d hd=> ?_⟩⟩;have hl5:=s5 _ _ hl4;have nLd:L≠d:=Zf hl5 hd;refine⟨L,_,V.ref d,rfl,rfl,by rw[Zm nLd];exact hl5,(by rw[List.length_map];omega), ?_⟩
      have kp:∀c u,c≠L->H4 c=some u->upd (upd H5 d (.tup [.str (Zb7 b (sh+(0+(i:Int)))),oS o,v])) L (.lst (ds.map V.ref++[.ref d])) c=some u:=fun c u n e=>by
       rw[Zm n,Zm (Zf (s5 _ _ e) hd)];exact s5 _ _ e
      have kt:∀c xs,H4 c=some (.tup xs)->upd (upd H5 d (.tup [.str (Zb7 b (sh+(0+(i:Int)))),oS o,v])) L (.lst (ds.map V.ref++[.ref d])) c=some (.tup xs):=fun c xs e=>kp c _ (Yi e hl4 (fun z=>nomatch z)) e;have nmE:Zb7 b (sh+(0+(i:Int)))=Zb7 b (sh+(i:Int)):=by rw[show(0:Int)+(i:Int)=(i:Int) by omega]
      refine⟨ds++[d],rs++[⟨Zb7 b (sh+(i:Int)),o,tm⟩],_,_,_,_,rfl,by rw[Zc,List.map_append];rfl,ZcD (Zd8 kt pr4) ⟨v, ?_, ?_⟩, ?_,ZmG bk ⟨ZkC _ _, ?_,hgd,hn⟩ ?_ ?_, ?_, ?_⟩
      ·rw[Zm (Ne.symm nLd),Zc,nmE]
      ·revert hv
       cases tm with
       |none=>exact fun z=>z
       |some x=>exact fun⟨a,e,z⟩=>⟨a,e,z.keep kt⟩
      ·rw[List.length_append,lr];rfl
      ·intro e he;obtain⟨r,hr,rfl⟩:=List.mem_map.mp (ho e he);exact(Ze8 bk r hr).nm
      ·rw[List.nil_append];intro z;obtain⟨r,hr,er⟩:=List.mem_map.mp z;obtain⟨j,hj⟩:=List.getElem?_of_mem hr;have lj:j<rs.length:=(List.getElem?_eq_some_iff.mp hj).1;have:=nms j r hj;have:=Znh (n:=b) (by omega) (by omega) (by omega) (by omega) (er.symm.trans this);omega
      ·rw[List.nil_append];exact ho
      ·intro j r hj
       by_cases lj:j<rs.length
       ·rw[List.getElem?_append_left lj] at hj
        exact nms j r hj
       ·rw[List.getElem?_append_right (by omega)] at hj
        have z:j-rs.length=0:=by
         have:=(List.getElem?_eq_some_iff.mp hj).1;rw[List.length_singleton] at this
         omega
        rw[z] at hj
        cases hj;rw[show j=i by omega]
      ·exact fun c u e=>kp c u (Zf e hL) (s4 _ _ (s3 _ _ (s2 _ _ e)))
     ·refine⟨_,rfl,D,_,_,_,rfl,rfl,SqL.of d5,e1,_,_,rfl,rfl,⟨by decide,by decide⟩,_,_,rfl,rfl,(by show(0:Int)<2;decide),rfl,_,rfl,Zj3 (fun e=>rest _ ⟨some t,.ref tp,⟨tp,rfl,ht⟩,(fun _ z=>nomatch z),(fun t' z=>by cases z;exact⟨hg,by omega⟩),rfl⟩) (fun _=> ?_)⟩
      refine rest _ ⟨none,.non,rfl, ?_,(fun _ z=>nomatch z),rfl⟩;rintro rfl;cases e
    ·have ei:(0:Int)<0+(i:Int):=of_decide_eq_true e;refine⟨_,rfl,D,_,_,_,rfl,rfl,SqL.of d5,e0,_,_,rfl,rfl,⟨by decide,by decide⟩,_,_,rfl,rfl,(by show(0:Int)<4;decide),_,_,rfl,rfl,_,rfl,Zj3 (fun e=>rest _ ⟨none,(fun _ z=>nomatch z),rfl⟩) (fun e=> ?_)⟩
     have m0:=Int.emod_nonneg (x0/12) (show(0+(i:Int))≠0 by omega);have m1:=Int.emod_lt_of_pos (x0/12) ei;have b0:0<=x0/12%(0+(i:Int))*(if decide (V.int (x1%3)=V.int 0)=true then 1 else 0):=by split<;>omega
     have b1:x0/12%(0+(i:Int))*(if decide (V.int (x1%3)=V.int 0)=true then 1 else 0)<(i:Int):=by split<;>omega
     obtain⟨v,ev⟩:=Zf9 (xs:=ds.map V.ref) (i:=0+(i:Int)-1-x0/12%(0+(i:Int))*(if decide (V.int (x1%3)=V.int 0)=true then 1 else 0)) (by rw[List.length_map];omega) (by rw[List.length_map];omega)
     obtain⟨j,_,hj,_⟩:=ZdZ ev;obtain⟨dd,rfl,hdd⟩:=Xq hj;obtain⟨r,er,u,row,_⟩:=Yq pr4 j dd hdd;exact⟨_,rfl,_,rfl,_,_,rfl,rfl,_,rfl,D,_,_,_,rfl,rfl,SqL.of d5,e0,_,_,rfl,rfl,⟨by decide,by decide⟩,_,rfl,_,_,rfl,rfl,ei,_,rfl,D,_,_,_,rfl,rfl,SqL.of d5,e1,_,_,rfl,rfl,(by show(0:Int)<3;decide),rfl,.inr ⟨_,rfl,_,_,rfl,rfl,IntMulOk.of_right (intBits_le_64 (by split<;>decide) (by split<;>decide)),_,_,rfl,rfl,L,_,_,_,rfl,rfl,SqL.of hl4,ev,dd,_,_,_,rfl,rfl,SqT.of row,rfl,rest _ ⟨some r.nm,(fun z hz=>by cases hz;exact List.mem_map_of_mem (List.mem_of_getElem? er)),rfl⟩⟩⟩
  ·rintro σ H2 ⟨ds,rs,v5,v6,v7,v8,rfl,hl2,pr,lr,bk,nms,s2⟩;exact⟨_,rfl,q L rs H2 hL s2 ⟨ds,hl2,pr⟩ bk (by omega) (by omega)⟩
theorem Zag:ZC ["_law_book","_law_some","_law_name","_law_elder","_law_tree"] ["_law_book"] (Zu Zdr):=⟨rfl,rfl,rfl,by decide+kernel,rfl,by decide+kernel,by decide+kernel⟩
theorem Zk5{f:Addr}{fd:FuncData}(F:Fun K "_law_terms" "_law_terms" Zdr f fd)(T:Txt K mg Zg Zd Ze Zb Zk)(Jq:Cal P w K mg base CX0 16 "_law_made" ["_law_tree"] (ZaG Zg Zd Ze Zb 12)):Yr P w K mg base CX0 17 f fd ["_law_book"] (ZcZ Zg Zd Ze Zb):=by
 refine F.ok Zag (fun vs H Q E h=> ?_) (fun cdv A outer s H vs Q E hr h=> ?_)
 ·obtain⟨p,rs,rfl,_⟩:=h
  rfl
 ·obtain⟨p,rs,rfl,⟨ds,hp,pr⟩,lr,gd,q⟩:=h;have l5:=Xl;have le:=Paired.length pr;refine⟨_,(Zi (Zv (i:=1) Zag.nd rfl (Or.inl rfl) (Yl Zj)) (Zi (XQ PassesOwn.never rfl (Yy (pv 0)) (Zlh rfl (Jm (ZK (i:=2) Zag.nd rfl (Or.inl rfl)) (Jm (ZK (i:=3) Zag.nd rfl (Or.inl rfl)) (Jm (ZK (i:=4) Zag.nd rfl (Or.inl rfl)) ZeV)))) (Zo (Xf (ZaC PySem.F.plainAttrs_list PySem.F.slot_list_append PySem.F.type_list_append Yz (pv 1) (Za (YX (Za (pv 2) (Za (pv 3) (Za (Zkl (Zt Zem (pv 4) XN (Zy _)) XN (ZX Jq (hr.mono (by omega)) rfl ZD (Za (pv 4) Zj))) Zj)))) Zj))))) (Zo (Zw (pv 1))))), ?_⟩
  refine⟨Nat.zero_le _,fun S hS=>⟨_,rfl,p,rfl,⟨_,SqL.of (Zn hS _ _ hp)⟩,Xm (xs:=ds.map V.ref) (fun i σ H'=>∃(es:List Addr) (v2 v3 v4:Option V),σ=[some (.ref p),some (.ref S),v2,v3,v4]/\H' S=some (.lst (es.map V.ref))/\Paired (Zct Zg Zd Ze Zb H') es (rs.take i)/\Zx H H') ?_ ?_ ?_ ?_⟩⟩
  ·exact⟨[],none,none,none,rfl,Zc,.nil,Zn hS⟩
  ·rintro i σ H1 _ ⟨es,v2,v3,v4,rfl,_,_,s1⟩;exact SqL.of (s1 _ _ hp)
  ·rintro i x σ H1 hx ⟨es,v2,v3,v4,rfl,hs,ps,s1⟩;obtain⟨d,rfl,ed⟩:=Xq hx;obtain⟨r,er,v,row,tr⟩:=Yq (Zd8 (fun b xs e=>s1 _ _ e) pr) i d ed;have hi:i<rs.length:=(List.getElem?_eq_some_iff.mp er).1;have tk:rs.take (i+1)=rs.take i++[r]:=by rw[List.take_add_one,er];rfl
   have lt:=List.length_take_le i rs;have les:=Paired.length ps;rw[tk];have fin:∀v H2 dd,Zx H1 H2->Zsf Zg Zd Ze Zb H2 r.tm v->H2 dd=none->∃H3,H3=upd (upd H2 dd (.tup [.str r.nm,oS r.el,v])) S (.lst (es.map V.ref++[.ref dd]))/\H3 S=some (.lst ((es++[dd]).map V.ref))/\Paired (Zct Zg Zd Ze Zb H3) (es++[dd]) (rs.take i++[r])/\Zx H H3:=fun v H2 dd s2 tv hd=>by
    have nS:S≠dd:=Zf (s2 _ _ hs) hd;have kp:∀c u,c≠S->H2 c=some u->upd (upd H2 dd (.tup [.str r.nm,oS r.el,v])) S (.lst (es.map V.ref++[.ref dd])) c=some u:=fun c u n e=>by
     rw[Zm n,Zm (Zf e hd)];exact e
    refine⟨_,rfl,by rw[Zc,List.map_append];rfl,ZcD (Ze9 (fun c xs e=>kp c _ (Yi e hs (fun z=>nomatch z)) (s2 _ _ e)) (fun c C dx fs e=>kp c _ (Yi e hs (fun z=>nomatch z)) (s2 _ _ e)) ps) ⟨v,by rw[Zm (Ne.symm nS),Zc], ?_⟩,fun c u e=>kp c u (Zf e hS) (s2 _ _ (s1 _ _ e))⟩
    revert tv
    cases r.tm with
    |none=>exact fun z=>z
    |some x=>exact fun⟨a,e,z⟩=>⟨a,e,z.keep fun c C dx fs e=>kp c _ (Yi e (s2 _ _ hs) (fun z=>nomatch z)) e⟩
   refine⟨d,_,rfl,SqT.of row,rfl,_,_,rfl,_,_,rfl,_,_,rfl,rfl, ?_⟩;have lse:(es.map V.ref).length<sizeLine:=by rw[List.length_map];omega
   refine⟨_,rfl,.inl ⟨rfl,_,SqL.of hs⟩,_,rfl,_,rfl, ?_⟩;cases et:r.tm with
   |none=>
    rw[et] at tr
    have tr:v=.non:=tr;subst tr;refine⟨_,rfl,rfl,_,rfl,Zfa rfl ⟨(show 3<=sizeLine from sl),fun dd hd=> ?_⟩⟩;obtain⟨H3,e3,f1,f2,f3⟩:=fin .non H1 dd (Zx.refl _) (by rw[et];rfl) hd
    refine⟨S,_,V.ref dd,rfl,rfl,by rw[Zm (Zf hs hd)];exact hs,lse, ?_⟩
    rw[<-e3];exact⟨es++[dd],_,_,_,rfl,f1,f2,f3⟩
   |some t=>
    rw[et] at tr
    obtain⟨a,rfl,ta⟩:=tr;have g:=((gd r (List.mem_of_getElem? er)).tm t et)
    have dc:=Tr.deep_cnt t;refine⟨_,rfl,rfl,_,rfl,JC (fun z=>nomatch z) ⟨_,rfl,a,t,rfl,ta,by omega,fun p2 H2 s2 ht=>⟨(show 3<=sizeLine from sl),fun dd hd=> ?_⟩⟩⟩;obtain⟨H3,e3,f1,f2,f3⟩:=fin (.ref p2) H2 dd s2 (by rw[et];exact⟨p2,rfl,ht⟩) hd
    refine⟨S,_,V.ref dd,rfl,rfl,by rw[Zm (Zf (s2 _ _ hs) hd)];exact s2 _ _ hs,lse, ?_⟩
    rw[<-e3];exact⟨es++[dd],_,_,_,rfl,f1,f2,f3⟩
  ·rintro σ H1 ⟨es,v2,v3,v4,rfl,hs,ps,s1⟩;rw[List.length_map,le,List.take_length] at ps
   exact⟨_,rfl,q S H1 hS s1 ⟨es,hs,ps⟩⟩
theorem ZeJ{H H':Hp}(s:Zx H H'):∀{ds:List Addr} {rs:List Sr},Paired (Zqb H) ds rs->Paired (Zqb H') ds rs
 |_,_,.nil=> .nil
 |_,_,.cons ⟨v,h,z⟩ t=> .cons ⟨v,s _ _ h,z⟩ (ZeJ s t)
theorem Zl4{cn ca cl ce:Addr}{H:Hp}:∀{ds:List Addr} {rs:List Sr},Paired (Zct cn ca cl ce H) ds rs->Paired (Zqb H) ds rs
 |_,_,.nil=> .nil
 |_,_,.cons ⟨v,h,_⟩ t=> .cons ⟨v,h,trivial⟩ (Zl4 t)
theorem two_ints(x y:Int){k:Int}(h0:0<=k)(h1:k<2):∃c,atI [V.int x,V.int y] k=some (.int c):=by
 have e:k=0\/k=1:=by omega
 rcases e with rfl|rfl
 ·exact⟨x,rfl⟩
 ·exact⟨y,rfl⟩
theorem two_strs(x y:Str)(b:Bool):∃c,atI [V.str x,V.str y] (if b=true then 1 else 0)=some (.str c):=by
 cases b
 ·exact⟨x,rfl⟩
 ·exact⟨y,rfl⟩
theorem Zma{s:Str}{ns:List Str}(h:s∈ns):∀n∈[s],n∈ns:=fun n m=>by rw[List.mem_singleton.mp m];exact h
theorem YT:ZC ["_law_cell","_law_names_by","_law_far","_law_book","_law_number","_law_way","_law_record","_law_series","_law_kind","_law_hold","_law_day"] ["_law_cell","_law_names_by","_law_far","_law_book"] (Zu ZcP):=⟨rfl,rfl,rfl,by decide+kernel,rfl,by decide+kernel,by decide+kernel⟩
theorem Zix{f:Addr}{fd:FuncData}(F:Fun K "_law_row_by" "_law_row_by" ZcP f fd)(T:Txt K mg Zg Zd Ze Zb Zk)(Yh:Cal P w K mg base CX0 1 "_law_name_by" ["_law_cell","_law_k"] XR)(Zb0:Cal P w K mg base CX0 1 "_law_number_by" ["_law_cell","_law_names_by"] Zas)(Zb1:Cal P w K mg base CX0 2 "_law_record_by" ["_law_number","_law_names_by"] Zar):Yr P w K mg base CX0 3 f fd ["_law_cell","_law_names_by","_law_far","_law_book"] Zcc:=by
 refine F.ok YT (fun vs H Q E h=> ?_) (fun cdv A outer s H vs Q E hr h=> ?_)
 ·obtain⟨c,b,far,p,rs,rfl,_⟩:=h
  rfl
 ·obtain⟨c,b,far,p,rs,rfl,⟨ds,hp,pr⟩,lo,hi,q⟩:=h;have l5:=Xl;have le:=Paired.length pr;refine⟨_,(Zi (Zv (i:=4) YT.nd rfl (Or.inl rfl) (ZX Zb0 (hr.mono (by omega)) rfl ZD (Za (pv 0) (Za (pv 1) Zj)))) (Zi (Zv (i:=5) YT.nd rfl (Or.inl rfl) (Zr ZP (pv 4) Zh)) (Zi (Zv (i:=6) YT.nd rfl (Or.inl rfl) (ZX Zb1 (hr.mono (by omega)) rfl ZD (Za (Zr ZP (Zr ZZ (pv 4) Zh) Zh) (Za (pv 1) Zj)))) (Zi (Zv (i:=7) YT.nd rfl (Or.inl rfl) (Zz ZJ (Zz YC (pv 3) (Zr ZP (Zr ZZ (pv 4) Zh) (ZM YJ (by rfl) T.z_len Jk (Za (pv 3) Zj))) (fun _ _=>rfl)) Zh (fun _ _=>rfl))) (Zi (Zv (i:=4) YT.nd rfl (Or.inl rfl) (Zr ZZ (Zr ZZ (pv 4) Zh) (ZM YJ (by rfl) T.z_len Jk (Za (pv 3) Zj)))) (Zi (Zv (i:=8) YT.nd rfl (Or.inl rfl) (ZX Yh (hr.mono (by omega)) rfl ZD (Za (pv 1) (Za (Zr ZP (pv 4) Zh) Zj)))) (Zi (Zv (i:=9) YT.nd rfl (Or.inl rfl) (ZX Yh (hr.mono (by omega)) rfl ZD (Za (pv 1) (Za (Zr ZP (Zr ZZ (pv 4) Zh) Zh) Zj)))) (Zi (Zv (i:=10) YT.nd rfl (Or.inl rfl) (Zr YW (pv 2) (Zz YC (Yl (Za (Zr ZP (Zr ZZ (pv 4) Zh) Zh) (Za (Zr ZP (Zr ZZ (pv 4) Zh) Zh) Zj))) (Zr ZP (Zr ZZ (pv 4) Zh) Zh) (fun _ _=>rfl)))) (Zi (Ye (PW.pt (ZiB (Zt Zgd (pv 5) Zh (Zy _)) (ZgZ (PW.pt (Za4 (Zt Yo (Zr ZP (pv 1) Zh) Zh (Zy _)) (Jl (Zt Zgd (pv 5) Zh (Zy _)))))))) (Zo (Zw (YX (Za ZG (Za (pv 6) (Za (pv 7) (Za (pv 10) Zj))))))) ZF) (Zi (Ye (Zt Zgd (pv 5) Zh (Zy _)) (Zo (Zw (YX (Za ZG (Za (pv 6) (Za (pv 7) (Za (pv 10) Zj))))))) ZF) (Zi (Ye (Zt Zgd (pv 5) Zh (Zy _)) (Zo (Zw (YX (Za ZG (Za (pv 6) (Za (Zz YC (Yl (Za (pv 8) (Za ZG Zj))) (JV ZdY (by rfl) T.z_int Zjp (Za (Zaw Yo (Zr ZP (Zr ZZ (pv 4) Zh) Zh) Zh (Zy _)) Zj)) (fun _ _=>rfl)) (Za (pv 10) Zj))))))) ZF) (Zi (Ye (Zt Yo (pv 5) Zh (Zy _)) (Zo (Zw (YX (Za ZG (Za (pv 9) (Za (pv 10) Zj)))))) ZF) (Zi (Ye (Zt Yo (pv 5) Zh (Zy _)) (Zo (Zw (YX (Za ZG (Za (pv 9) (Za ZG (Za (pv 6) (Za (pv 10) Zj)))))))) ZF) (Zo (Zw (YX (Za ZG (Za (pv 9) (Za ZG (Za (pv 7) (Za (pv 10) Zj))))))))))))))))))))), ?_⟩
  refine⟨_,rfl,_,rfl,c,b,rfl,fun n H1 n0 s1=> ?_⟩;refine(vI rfl (by show(0:Int)<11;decide) ?_)
  refine(vI rfl ⟨by decide,by decide⟩ ⟨_,_,rfl,rfl,(by show(0:Int)<40;decide),_,rfl,_,_,rfl,fun z H2 s2=> ?_⟩)
  have hp2:=s2 _ _ (s1 _ _ hp);have pl:(0:Int)<(((ds.map V.ref).length:Nat):Int):=by rw[List.length_map];omega
  have i0:=Int.emod_nonneg (n/440) (Int.ne_of_gt pl);have i1:=Int.emod_lt_of_pos (n/440) pl;obtain⟨v,ev⟩:=Zf9 (xs:=ds.map V.ref) (i:=n/440%(((ds.map V.ref).length:Nat):Int)) (by omega) i1;obtain⟨j,_,hj,_⟩:=ZdZ ev;obtain⟨dd,rfl,hdd⟩:=Xq hj;obtain⟨r,er,u,row,_⟩:=Yq (ZeJ (s1.trans s2) pr) j dd hdd;have rin:r.nm∈rs.map Sr.nm:=List.mem_map_of_mem (List.mem_of_getElem? er);refine⟨_,rfl,vI rfl ⟨by decide,by decide⟩ ⟨_,rfl,_,_,rfl,.inl ⟨_,SqL.of hp2,rfl⟩,_,_,rfl,rfl,pl,p,_,_,_,rfl,rfl,SqL.of hp2,ev,dd,_,_,_,rfl,rfl,SqT.of row,rfl, ?_⟩⟩
  refine(vI rfl ⟨by decide,by decide⟩ ⟨_,rfl,_,_,rfl,.inl ⟨_,SqL.of hp2,rfl⟩,_,_,rfl,rfl,⟨pl,by rw[List.length_map];omega⟩, ?_⟩)
  refine⟨_,rfl,vI rfl (by show(0:Int)<9;decide) ⟨_,_,rfl,fun H3 s3=> ?_⟩⟩
  refine⟨_,rfl,vI rfl ⟨by decide,by decide⟩ ⟨_,_,rfl,rfl,(by show(0:Int)<5;decide),_,_,rfl,fun H4 s4=> ?_⟩⟩
  obtain⟨e,ee⟩:=two_ints ((n/440/(((ds.map V.ref).length:Nat):Int))/90%900) ((n/440/(((ds.map V.ref).length:Nat):Int))/90%4000) (Int.emod_nonneg ((n/440/(((ds.map V.ref).length:Nat):Int))/45) (by decide)) (Int.emod_lt_of_pos ((n/440/(((ds.map V.ref).length:Nat):Int))/45) (by decide));refine⟨_,rfl,vI rfl ⟨by decide,by decide⟩ ⟨_,_,rfl,rfl,(by show(0:Int)<900;decide),vI rfl ⟨by decide,by decide⟩ ⟨_,_,rfl,rfl,(by show(0:Int)<4000;decide),(show 2<=sizeLine from sl),fun t0 ht0=>vI rfl ⟨by decide,by decide⟩ ⟨_,_,rfl,rfl,(by show(0:Int)<2;decide),t0,_,_,_,rfl,rfl,SqL.of Zc,ee,_,_,rfl,rfl, ?_⟩⟩⟩⟩
  have s5:=s1.trans (s2.trans (s3.trans (s4.trans (Zn ht0 (o:=.lst [.int ((n/440/(((ds.map V.ref).length:Nat):Int))/90%900),.int ((n/440/(((ds.map V.ref).length:Nat):Int))/90%4000)])))));refine(fun put rest=>⟨_,rfl,_,_,rfl,rfl,_,rfl,YZ (fun _=>Zbb put) (fun _=>vI rfl (by show(0:Int)<4;decide) ⟨rfl,_,rfl,YZ (fun _=>⟨_,rfl,_,_,rfl,rfl,_,rfl,YZ (fun _=>put) (fun _=>rest)⟩) (fun _=>Xh rest)⟩)⟩) ?put ?rest
  case put=>exact⟨_,rfl,_,rfl,_,rfl,(show 4<=sizeLine from sl),fun d hd=>q (.put z r.nm (far+e)) d _ (s5.trans (Zn hd)) Zc (Zma rin)⟩
  case rest=>
   refine⟨_,rfl,_,_,rfl,rfl,_,rfl,YZ (fun _=> ?_) (fun _=> ?_)⟩
   ·exact⟨_,rfl,_,rfl,_,rfl,(show 4<=sizeLine from sl),fun d hd=>q (.move z r.nm (far+e)) d _ (s5.trans (Zn hd)) Zc (Zma rin)⟩
   refine⟨_,rfl,_,_,rfl,rfl,_,rfl,YZ (fun _=> ?_) (fun _=> ?_)⟩
   ·obtain⟨kd,ek⟩:=two_strs (Zb7 b ((n/440/(((ds.map V.ref).length:Nat):Int))%9)) (Str.ofString "put") (decide (V.int ((n/440/(((ds.map V.ref).length:Nat):Int))/360000%9)=V.int 7));refine⟨_,rfl,_,rfl,(show 2<=sizeLine from sl),fun t1 ht1=>vI rfl ⟨by decide,by decide⟩ ⟨_,_,rfl,rfl,(by show(0:Int)<9;decide),rfl,.inr ⟨_,rfl,t1,_,_,_,rfl,rfl,SqL.of Zc,ek,_,rfl,(show 4<=sizeLine from sl),fun d hd=>q (.deed z kd (far+e)) d _ (s5.trans ((Zn ht1).trans (Zn hd))) Zc (fun _ z=>nomatch z)⟩⟩⟩
   refine⟨_,rfl,rfl,_,rfl,YZ (fun _=> ?_) (fun _=> ?_)⟩
   ·exact⟨_,rfl,_,rfl,(show 3<=sizeLine from sl),fun d hd=>q (.lift _ (far+e)) d _ (s5.trans (Zn hd)) Zc (fun _ z=>nomatch z)⟩
   refine⟨_,rfl,rfl,_,rfl,YZ (fun _=> ?_) (fun _=> ?_)⟩
   ·exact⟨_,rfl,_,rfl,_,rfl,(show 5<=sizeLine from sl),fun d hd=>q (.hold _ true z (far+e)) d _ (s5.trans (Zn hd)) Zc (fun _ z=>nomatch z)⟩
   ·exact⟨_,rfl,_,rfl,_,rfl,(show 5<=sizeLine from sl),fun d hd=>q (.hold _ false r.nm (far+e)) d _ (s5.trans (Zn hd)) Zc (Zma rin)⟩
theorem Zpg:∀w:Rw,ZaB w.vs none (some 2)=[.str w.word,.str w.one]
 | .put _ _ _=>rfl
 | .move _ _ _=>rfl
 | .deed _ _ _=>rfl
 | .lift _ _=>rfl
 | .hold _ _ _ _=>rfl
theorem Zj6:∀w:Rw,¬(HT.sIx w.vs.length 0 none=0/\HT.sIx w.vs.length w.vs.length (some 2)=w.vs.length)
 | .put _ _ _=>by show¬(HT.sIx 4 0 none=0/\HT.sIx 4 4 (some 2)=4);decide
 | .move _ _ _=>by show¬(HT.sIx 4 0 none=0/\HT.sIx 4 4 (some 2)=4);decide
 | .deed _ _ _=>by show¬(HT.sIx 4 0 none=0/\HT.sIx 4 4 (some 2)=4);decide
 | .lift _ _=>by show¬(HT.sIx 3 0 none=0/\HT.sIx 3 3 (some 2)=3);decide
 | .hold _ _ _ _=>by show¬(HT.sIx 5 0 none=0/\HT.sIx 5 5 (some 2)=5);decide
def ZdM(H:Hp)(a:Addr)(w:Rw):Prop:=H a=some (.tup [.str w.word,.str w.one])
theorem ZhX{H H':Hp}(s:Zx H H'):∀{ds:List Addr} {ws:List Rw},Paired (ZdM H) ds ws->Paired (ZdM H') ds ws
 |_,_,.nil=> .nil
 |_,_,.cons h t=> .cons (s _ _ h) (ZhX s t)
def hdD(w:Rw):Dt:=.tup [.v (.str w.word),.v (.str w.one)]
theorem Zph{H:Hp}{a:Addr}{w:Rw}(h:ZdM H a w):Rep K H (hdD w) (.ref a):=.tup (SqT.of h) (.cons (.flat rfl) (.cons (.flat rfl) .nil))
theorem ZmH{H:Hp}:∀{ds:List Addr} {ws:List Rw},Paired (ZdM H) ds ws->Zf4 K H (ws.map hdD) (ds.map V.ref)
 |_,_,.nil=> .nil
 |_,_,.cons h t=> .cons (Zph h) (ZmH t)
theorem ZbJ{H H':Hp}(s:∀b xs,H b=some (.tup xs)->H' b=some (.tup xs)):∀{ds:List Addr} {ws:List Rw},Paired (ZbP H) ds ws->Paired (ZbP H') ds ws
 |_,_,.nil=> .nil
 |_,_,.cons h t=> .cons (s _ _ h) (ZbJ s t)
theorem ZhY{H H':Hp}(s:∀b xs,H b=some (.tup xs)->H' b=some (.tup xs)):∀{ds:List Addr} {ws:List Rw},Paired (ZdM H) ds ws->Paired (ZdM H') ds ws
 |_,_,.nil=> .nil
 |_,_,.cons h t=> .cons (s _ _ h) (ZhY s t)
def RSt(rs:List Sr)(H:Hp)(R d:Addr)(w:Rw)(m:Nat)(H':Hp):Prop:=∃(es:List Addr) (ws:List Rw) (xs:List Str),H' R=some (.lst (es.map V.ref))/\Paired (ZbP H') es ws/\H' d=some (.tup w.vs)/\Ym rs m xs ws/\w.one∈xs/\Zx H H'
theorem Ym.more{rs:List Sr}{i:Nat}{ns:List Str}{ws:List Rw}{w:Rw}(h:Ym rs i ns ws)(nm:∀n∈Zaa w,n∈rs.map Sr.nm)(nc:∀a∈ws,¬Zhx a w):Ym rs (i+1) (ns++[w.one]) (ws++[w]):=by
 refine⟨?_, ?_,fun x hx=> ?_,List.pairwise_append.mpr ⟨h.one,List.pairwise_singleton ..,fun a ha b hb=> ?_⟩, ?_,fun x hx e=> ?_⟩
 ·have:=h.len;rw[List.length_append,List.length_singleton];omega
 ·have:=h.held;have l:=List.length_filter_le Xn [w];rw[List.filter_append,List.length_append];rw[List.length_singleton] at l
  omega
 ·rcases List.mem_append.mp hx with hx|hx
  ·exact h.named x hx
  ·rw[List.mem_singleton.mp hx];exact nm
 ·rw[List.mem_singleton.mp hb];exact nc a ha
 ·have:=h.nl;rw[List.length_append,List.length_singleton];omega
 ·rcases List.mem_append.mp hx with hx|hx
  ·exact List.mem_append_left _ (h.few x hx e)
  ·rw[List.mem_singleton.mp hx];exact List.mem_append_right _ (List.mem_singleton_self _)
theorem Ym.stay{rs:List Sr}{i:Nat}{ns:List Str}{ws:List Rw}(x:Str)(h:Ym rs i ns ws):Ym rs (i+1) (ns++[x]) ws:=
 ⟨Nat.le_succ_of_le h.len,Nat.le_succ_of_le h.held,h.named,h.one,by have:=h.nl;rw[List.length_append,List.length_singleton];omega,fun w hw e=>List.mem_append_left _ (h.few w hw e)⟩
theorem Znz{w:Rw}{ws:List Rw}(e:(if true=true then !inV (V.str w.word) [V.str (Str.ofString "put"),V.str (Str.ofString "hold")] else inV (V.str w.word) [V.str (Str.ofString "put"),V.str (Str.ofString "hold")])=true):∀a∈ws,¬Zhx a w:=fun a _ ⟨h,_⟩=>by
 rw[if_pos rfl] at e
 have:inV (V.str w.word) [V.str (Str.ofString "put"),V.str (Str.ofString "hold")]=true:=by
  unfold inV;rcases h with h|h
  ·exact List.any_eq_true.mpr ⟨_,List.mem_cons_self ..,by rw[h];exact Ji rfl⟩
  ·exact List.any_eq_true.mpr ⟨_,List.mem_cons_of_mem _ (List.mem_singleton_self _),by rw[h];exact Ji rfl⟩
 rw[this] at e
 cases e
theorem ZnA{w:Rw}{ws:List Rw}{n:Nat}(l:n=ws.length)(e:(if true=true then !((ws.take n).map hdD).any fun e=>Xu 2 e (hdD w) else((ws.take n).map hdD).any fun e=>Xu 2 e (hdD w))=true):∀a∈ws,¬Zhx a w:=fun a ha ⟨_,h1,h2⟩=>by
 rw[if_pos rfl,l,List.take_length] at e
 have:((ws.map hdD).any fun e=>Xu 2 e (hdD w))=true:=List.any_eq_true.mpr ⟨hdD a,List.mem_map_of_mem ha,by
  have h:hdD a=hdD w:=by unfold hdD;rw[h1,h2]
  rw[h];have a1:=Ji (x:=V.str w.word) rfl;have b1:=Ji (x:=V.str w.one) rfl;show((eqV (V.str w.word) (V.str w.word)&&(eqV (V.str w.one) (V.str w.one)&&true))&&(2==2))=true;rw[a1,b1]
  rfl⟩
 rw[this] at e
 cases e
theorem Zah:ZC ["_law_cells","_law_names_by","_law_far","_law_book","_law_rows","_law_cell","_law_row"] ["_law_cells","_law_names_by","_law_far","_law_book"] (Zu Zc5):=⟨rfl,rfl,rfl,by decide+kernel,rfl,by decide+kernel,by decide+kernel⟩
theorem ZhZ{f:Addr}{fd:FuncData}(F:Fun K "_law_rows_by" "_law_rows_by" Zc5 f fd)(T:Txt K mg Zg Zd Ze Zb Zk)(Zd9:Cal P w K mg base CX0 3 "_law_row_by" ["_law_cell","_law_names_by","_law_far","_law_book"] Zcc):Yr P w K mg base CX0 4 f fd ["_law_cells","_law_names_by","_law_far","_law_book"] ZbC:=by
 refine F.ok Zah (fun vs H Q E h=> ?_) (fun cdv A outer s H vs Q E hr h=> ?_)
 ·obtain⟨a,ns,b,far,p,rs,rfl,_⟩:=h
  rfl
 ·obtain⟨a,ns,b,far,p,rs,rfl,ha,ln,⟨ds,hp,pr⟩,lo,hi,q⟩:=h;have l5:=Xl;have hu3:=ZlF hr;refine⟨_,(Zi (Zv (i:=4) Zah.nd rfl (Or.inl rfl) (Yl Zj)) (Zi (XQ PassesOwn.never rfl (Yy (pv 0)) (ZK (i:=5) Zah.nd rfl (Or.inl rfl)) (Zi (Zv (i:=6) Zah.nd rfl (Or.inl rfl) (ZX Zd9 (hr.mono (by omega)) rfl ZD (Za (pv 5) (Za (pv 1) (Za (pv 2) (Za (pv 3) Zj)))))) (Zo (Ye (PW.pt (ZiB (Zt ZeY (Zz ZJ (pv 6) Zh (fun _ _=>rfl)) (Yl (Za ZG (Za ZG Zj))) rfl) (ZgZ (Zt (ZiO hu3) (Zcn ZnY (pv 6) ZgI (ZbQ Zh)) (Je ["_law_other"] [] rfl (Yy (pv 4)) (by rfl) (by exact trivial) (by rfl) (by exact trivial) (fun _ _ _ _=>(ZK (i:=0) (show(nmY ["_law_other"] []).Nodup by decide+kernel) rfl (Or.inl rfl))) (fun _ _ _ _=>Ze3) (fun _ _ _ _=>(Zcn (Zq7 (K:=K) rfl) (pv 0) ZgI (ZbQ Zh)))) rfl)))) (Zo (Xf (ZaC PySem.F.plainAttrs_list PySem.F.slot_list_append PySem.F.type_list_append Yz (pv 4) (Za (pv 6) Zj)))) ZF)))) (Zo (Zw (pv 4))))), ?_⟩
  refine⟨Nat.zero_le _,fun R0 hR0=>⟨_,rfl,a,rfl,⟨_,SqL.of (Zn hR0 _ _ ha)⟩,Xm (xs:=ns.map V.int) (fun i σ H'=>∃(R:Addr) (ws:List Rw) (xs:List Str) (v5 v6:Option V),σ=[some (.ref a),some (.int b),some (.int far),some (.ref p),some (.ref R),v5,v6]/\YG H' R ws/\H R=none/\Ym rs i xs ws/\Zx H H') ?_ ?_ ?_ ?_⟩⟩
  ·exact⟨R0,[],[],none,none,rfl,⟨[],Zc,.nil⟩,hR0,⟨Nat.zero_le _,Nat.zero_le _,(fun w hw=>nomatch hw),.nil,Nat.zero_le _,(fun w hw=>nomatch hw)⟩,Zn hR0⟩
  ·rintro i σ H1 _ ⟨R,ws,xs,v5,v6,rfl,_,_,_,s1⟩;exact SqL.of (s1 _ _ ha)
  ·rintro i x σ H1 hx ⟨R,ws,xs,v5,v6,rfl,⟨es,hR,pw⟩,nR,ri,s1⟩;have hi2:i<ns.length:=by
    have:=(List.getElem?_eq_some_iff.mp hx).1
    rwa [List.length_map] at this
   obtain⟨c,rfl⟩:∃c,x=V.int c:=by
    rw[List.getElem?_map] at hx
    cases q:ns[i]? with
    |none=>rw[q] at hx;cases hx
    |some c=>rw[q] at hx;cases hx;exact⟨c,rfl⟩
   have le:=Paired.length pw;refine⟨_,rfl,_,rfl,_,rfl,_,rfl,c,b,far,p,rs,rfl,⟨ds,s1 _ _ hp,ZeJ s1 pr⟩,lo,hi,fun w d H2 s2 hd spw=> ?_⟩;have hd:H2 d=some (.tup w.vs):=hd;have hR2:=s2 _ _ hR;have pw2:=ZS s2 pw;have s12:=s1.trans s2;have stay:∀Ha,Zx H2 Ha->RSt rs H R d w (i+1) Ha:=fun Ha sa=>⟨es,ws,_,sa _ _ hR2,ZS sa pw2,sa _ _ hd,ri.stay w.one,List.mem_append_right _ (List.mem_singleton_self _),s12.trans sa⟩
   have more:∀Ha,Zx H2 Ha->(∀a∈ws,¬Zhx a w)->RSt rs H R d w (i+1) (upd Ha R (.lst (es.map V.ref++[.ref d]))):=fun Ha sa nc=>by
    have kp:∀c u,c≠R->Ha c=some u->upd Ha R (.lst (es.map V.ref++[.ref d])) c=some u:=fun c u n e=>by rw[Zm n];exact e
    have kt:∀c xs,H2 c=some (.tup xs)->upd Ha R (.lst (es.map V.ref++[.ref d])) c=some (.tup xs):=fun c xs e=>kp c _ (Yi e hR2 (fun z=>nomatch z)) (sa _ _ e);exact⟨es++[d],ws++[w],_,by rw[Zc,List.map_append];rfl,ZcD (ZbJ kt pw2) (kt _ _ hd),kt _ _ hd,ri.more spw nc,List.mem_append_right _ (List.mem_singleton_self _),fun c u e=>kp c u (Zf e nR) (sa _ _ (s12 _ _ e))⟩
   have l1:=ri.len;have lse:(es.map V.ref).length<sizeLine:=by rw[List.length_map];omega
   refine(fun(rest:∀H3,RSt rs H R d w (i+1) H3->(_:Hp->Prop) H3)=>⟨_,rfl,d,_,_,_,rfl,rfl,SqT.of hd,Zab w,(show 2<=sizeLine from sl),fun t1 ht1=>⟨t1,_,rfl,.inl (SqL.of Zc),rfl,rfl,_,rfl,Zj3 (fun _=> ?_) (fun e=>Zbb ⟨_,rfl,.inl ⟨rfl,_,SqL.of (Zn ht1 _ _ hR2)⟩,_,rfl,R,_,V.ref d,rfl,rfl,Zn ht1 _ _ hR2,lse,rest _ (more _ (Zn ht1) (Znz e))⟩)⟩⟩) ?rest
   case rest=>
    rintro H3 ⟨es3,ws3,xs3,hR3,pw3,hd3,ri3,in3,s3⟩;exact⟨R,ws3,xs3,_,_,rfl,⟨es3,hR3,pw3⟩,nR,ri3,s3⟩
   ·refine⟨_,rfl,_,rfl,d,_,rfl,SqT.of (Zn ht1 _ _ hd),Zj6 w,fun p1 hp1=> ?_⟩;have sa:=(Zn ht1 (o:=.lst [.str "put",.str "hold"])).trans (Zn hp1 (o:=.tup (ZaB w.vs none (some 2))));have hp1':ZdM (upd (upd H2 t1 (.lst [.str "put",.str "hold"])) p1 (.tup (ZaB w.vs none (some 2)))) p1 w:=by
     show upd _ p1 _ p1=_;rw[Zc,Zpg]
    generalize upd (upd H2 t1 (.lst [.str "put",.str "hold"])) p1 (.tup (ZaB w.vs none (some 2)))=H3 at sa hp1'⊢
    have hR3:=sa _ _ hR2;have pw3:=ZS sa pw2;refine⟨_,rfl,R,rfl,⟨_,SqL.of hR3⟩,Zf2 fun D hD=>⟨es.length,fun j ys H4=>∃es4:List Addr,ys=es4.map V.ref/\Paired (ZdM H4) es4 (ws.take j)/\Zx H3 H4,by omega,⟨[],rfl,.nil,Zn hD⟩, ?_, ?_, ?_, ?_, ?_⟩⟩
    ·rintro j ys H4 ⟨es4,rfl,p4,_⟩;have:=Paired.length p4;have l4:=List.length_take_le j ws;rw[List.length_map];omega
    ·rintro j ys zs H4 H5 eD kp ⟨es4,rfl,p4,s4⟩;exact⟨es4,rfl,ZhY (fun c xs e=>kp c _ (Yi e eD (fun z=>nomatch z)) e) p4,fun c u e=>kp c u (Zf e hD) (s4 _ _ e)⟩
    ·rintro j ys H4 ⟨_,_,_,s4⟩ lt;exact⟨_,_,SqL.of (s4 _ _ hR3),List.getElem?_eq_getElem (by rw[List.length_map];exact lt)⟩
    ·rintro ys H4 ⟨es4,rfl,p4,s4⟩ hD4;refine⟨⟨_,SqL.of (s4 _ _ hR3),by rw[List.length_map];exact Nat.le_refl _⟩, ?_⟩
     refine⟨D,2,hdD w,_,_,rfl,by decide,SqL.of hD4,Zph (s4 _ _ hp1'),ZmH p4, ?_,_,rfl,YZ (fun e=> ?_) (fun _=>rest _ (stay _ (sa.trans s4)))⟩
     ·intro e he;obtain⟨w',_,rfl⟩:=List.mem_map.mp he
      rfl
     ·exact⟨_,rfl,.inl ⟨rfl,_,SqL.of (s4 _ _ hR3)⟩,_,rfl,R,_,V.ref d,rfl,rfl,s4 _ _ hR3,lse,rest _ (more _ (sa.trans s4) (ZnA le e))⟩
    ·rintro j x ys H4 H5 ⟨es4,rfl,p4,s4⟩ hD4 lt ⟨rfl,yl⟩ RT RF rt rf;obtain⟨d1,rfl,ed⟩:=Xq (yl _ (SqL.of (s4 _ _ hR3)));obtain⟨w1,ew,row⟩:=Yq (ZS s4 pw3) j d1 ed;have row:H5 d1=some (.tup w1.vs):=row;refine⟨trivial,Zmp ⟨_,rfl,_,rfl,d1,_,rfl,SqT.of row,Zj6 w1,fun p2 hp2=> ?_⟩⟩;refine rt _ _ (Zn hp2 _ _ hD4) ⟨es4++[p2],by rw[List.map_append];rfl, ?_,s4.trans (Zn hp2)⟩
     rw[List.take_add_one,ew];refine ZcD (ZhX (Zn hp2) p4) ?_;show upd _ p2 _ p2=_;rw[Zc,Zpg]
  ·rintro σ H1 ⟨R,ws,xs,v5,v6,rfl,hw,nR,ri,s1⟩;rw[List.length_map] at ri
   exact⟨_,rfl,q ws xs R H1 nR s1 hw ri⟩
def Jr(F0:List Addr)(H0:Hp)(F:List Addr)(H:Hp):Prop:=Zgv F0 H0 H/\(∀b∈F,b∈F0\/H0 b=none)/\∀b∈F0,b∈F
theorem Jr.refl(F:List Addr)(H:Hp):Jr F H F H:=⟨fun _ _ _ e=>e,fun _ h=> .inl h,fun _ h=>h⟩
theorem Jr.trans{F0 F F':List Addr}{H0 H H':Hp}(x:Jr F0 H0 F H)(y:Jr F H F' H'):Jr F0 H0 F' H':=by
 obtain⟨k1,s1,p1⟩:=x;obtain⟨k2,s2,p2⟩:=y;refine⟨fun c u m e=>k2 c u (fun z=> ?_) (k1 c u m e),fun b h=> ?_,fun b h=>p2 b (p1 b h)⟩
 ·rcases s1 c z with a|a
  ·exact m a
  ·rw[e] at a;cases a
 ·rcases s2 b h with a|a
  ·exact s1 b a
  ·by_cases m:b∈F0
   ·exact .inl m
   ·refine .inr ?_;cases e:H0 b with
    |none=>rfl
    |some u=>rw[k1 b u m e] at a;cases a
theorem Jr.same{F:List Addr}{H H':Hp}(s:Zx H H'):Jr F H F H':=⟨fun c u _ e=>s c u e,fun _ h=> .inl h,fun _ h=>h⟩
theorem Jr.at{F0 F:List Addr}{H0 H:Hp}(x:Jr F0 H0 F H){c:Addr}{u:HO}(m:c∉F0)(e:H0 c=some u):H c=some u:=x.1 c u m e
theorem ZQ.off{cn ca cl ce C a:Addr}{H:Hp}{s:Hs}{F:List Addr}(h:ZQ cn ca cl ce C H a s F){c:Addr}(e:H c=none):c∉F:=fun m=>by
 rcases h.kinds c m with ⟨_,z⟩|⟨_,z⟩<;>rw[e] at z<;>cases z
theorem ZQ.tup{cn ca cl ce C a:Addr}{H:Hp}{s:Hs}{F:List Addr}(h:ZQ cn ca cl ce C H a s F){c:Addr}{xs:List V}(e:H c=some (.tup xs)):c∉F:=fun m=>by
 rcases h.kinds c m with ⟨_,z⟩|⟨_,z⟩<;>rw[e] at z<;>cases z
theorem Zj7{cn ca cl ce C x dx b t o h r k w:Addr}{H:Hp}{rs:List Sr}(nd:[b,t,o,h,r,k,w].Nodup)(hx:H x=some (.ins C dx (fH b t o h r k w)))(hb:Zff cn ca cl ce H b rs)(ht:H t=some (.lst []))(ho:H o=some (.dK []))(hh:H h=some (.lst []))(hr:H r=some (.lst []))(hk:H k=some (.dK []))(hw:H w=some (.dK [])):ZQ cn ca cl ce C H x ⟨rs,[],[],[],[]⟩ [t,o,h,r,k,w]:=
 ⟨dx,b,t,o,h,r,k,w,[],[],hx,hb,⟨[],ht,.nil⟩,ho,⟨.nil,(fun r=>⟨(fun z=>nomatch z),fun z=>absurd rfl z⟩),(fun x hx=>nomatch hx)⟩,⟨[],hh,.nil⟩,hr,hk,.nil,hw,rfl,(List.nodup_cons.mp nd).2,(List.nodup_cons.mp nd).1⟩
theorem Zmb{r:Str}{w:Rw}{y:Za3}(h:Zdz r w=some y):y.2∈Zaa w:=by
 cases w with
 |put x s d=>
  have h:(if x=r then some (d,s) else none)=some y:=h
  split at h
  ·injection h with h;rw[<-h];exact List.mem_singleton_self _
  ·cases h
 |move x s d=>
  have h:(if x=r then some (d,s) else none)=some y:=h
  split at h
  ·injection h with h;rw[<-h];exact List.mem_singleton_self _
  ·cases h
 |deed x k d=>cases h
 |lift a d=>cases h
 |hold a b c d=>cases h
theorem Ym.of{rs:List Sr}{i:Nat}{xs:List Str}{ws:List Rw}(h:Ym rs i xs ws)(hi:i<=63):ZcY rs ws:=⟨by have:=h.len;omega,by have:=h.held;omega,fun r y hy=>by
 obtain⟨w,hw,e⟩:=List.mem_filterMap.mp hy;exact h.named w hw _ (Zmb e)⟩
theorem Ym.take{rs:List Sr}{i:Nat}{xs:List Str}{ws:List Rw}(h:Ym rs i xs ws)(n:Nat):Ym rs i xs (ws.take n):=
 ⟨by have:=h.len;have:=List.length_take_le' n ws;omega,Nat.le_trans (List.Sublist.length_le ((List.take_sublist n ws).filter _)) h.held,fun w hw=>h.named w (List.mem_of_mem_take hw),h.one.sublist (List.take_sublist n ws),h.nl,fun w hw=>h.few w (List.mem_of_mem_take hw)⟩
theorem Ym.recs{rs:List Sr}{i:Nat}{xs:List Str}{ws:List Rw}(h:Ym rs i xs ws)(hi:i<64):Zm8 ws:=⟨xs,by have:=h.nl;omega,fun r hr=>by
 obtain⟨w,hw⟩:=List.exists_mem_of_ne_nil _ hr;obtain⟨h1,h2⟩:=List.mem_filter.mp hw;rcases ZjN w with ⟨_,no⟩|⟨y,yes⟩
 ·rw[no r] at h2;cases h2
 ·rw[yes r] at h2
  rw[<-of_decide_eq_true h2];exact h.few w h1 y⟩
theorem Ym.takes{rs:List Sr}{i:Nat}{xs:List Str}{ws:List Rw}{w:Rw}{s:Hs}(h:Ym rs i xs (ws++[w]))(e1:s.rs=rs)(e2:s.ws=ws):Zp3 s w:=by
 have no:=(List.pairwise_append.mp h.one).2.2;refine⟨fun e=> ?_,fun e=> ?_,fun n hn=> ?_⟩
 ·rw[e2];cases z:YM ws w.one with
  |false=>rfl
  |true=>
   obtain⟨v,hv,q⟩:=List.any_eq_true.mp z;cases v with
   |put x s d=>exact absurd ⟨.inl e,e.symm,of_decide_eq_true q⟩ (no _ hv w (List.mem_singleton_self _))
   |_=>cases q
 ·rw[e2];cases z:ws.any (XS w.one) with
  |false=>rfl
  |true=>
   obtain⟨v,hv,q⟩:=List.any_eq_true.mp z;cases v with
   |hold x s d f=>exact absurd ⟨.inr e,e.symm,of_decide_eq_true q⟩ (no _ hv w (List.mem_singleton_self _))
   |_=>cases q
 ·rw[e1];exact h.named w (List.mem_append_right _ (List.mem_singleton_self _)) n hn
theorem Zbg{zs:List Str}(h:zs.Pairwise fun a b=>Yw a b=true):zs.Nodup:=List.nodup_iff_pairwise_ne.mpr (h.imp fun{x y} h z=>by rw[z,Yn.irr] at h;cases h)
theorem Zmc{zs ys:List Str}(h:zs.Pairwise fun a b=>Yw a b=true)(k:ys.Pairwise fun a b=>Yw a b=true)(m:∀r,r∈zs↔r∈ys):zs=ys:=by
 have go:∀{l:List Str},(l.Pairwise fun a b=>Yw a b=true)->M4.Asc Yw l:=fun h=>h.imp fun{a b} x=>by
  cases e:Yw b a with
  |false=>rfl
  |true=>have:=Yn.tr _ _ _ x e;rw[Yn.irr] at this;cases this
 exact M4.ZgM Yn ((List.perm_ext_iff_of_nodup (Zbg h) (Zbg k)).mpr m) (go h) (go k)
theorem Zrt{H:Hp}{gs:List Gn}{ka kb:List (Key×V)}(nd:(gs.map (·.1)).Nodup)(pa:Paired (ZfR H) gs ka)(pb:Paired (ZfR H) gs kb):ka.length=kb.length/\∀kv∈ka,ZoI K H kb kv:=by
 refine⟨(Paired.length pa).symm.trans (Paired.length pb),fun kv hkv=> ?_⟩;have go:∀{gs':List Gn} {ka:List (Key×V)},Paired (ZfR H) gs' ka->∀kv∈ka,∃g∈gs',ZfR H g kv:=fun{gs' ka} p=>by
  induction p with
  |nil=>exact fun kv h=>nomatch h
  |cons h t ih=>
   intro kv hm;rcases List.mem_cons.mp hm with rfl|hm
   ·exact⟨_,List.mem_cons_self ..,h⟩
   ·obtain⟨g,hg,z⟩:=ih kv hm;exact⟨g,List.mem_cons_of_mem _ hg,z⟩
 obtain⟨g,hg,p,e,hp⟩:=go pa kv hkv;obtain⟨q,ev,hq⟩:=ZjR pb nd g hg;subst e;refine⟨p,q,_,rfl,ev,SqT.of hp,SqT.of hq,fun x hx=> ?_⟩;simp only [List.mem_cons,List.mem_nil_iff,or_false] at hx
 rcases hx with rfl|rfl<;>rfl
def Ziy(H:Hp)(x:Tri)(v:V):Prop:=∃p,v=.ref p/\H p=some (.tup [.str x.1,.int x.2.1,.str x.2.2])
theorem ZaN{H H':Hp}(s:∀b xs,H b=some (.tup xs)->H' b=some (.tup xs)):∀{zs:List Tri} {us:List V},Paired (Ziy H) zs us->Paired (Ziy H') zs us
 |_,_,.nil=> .nil
 |_,_,.cons ⟨p,e,h⟩ t=> .cons ⟨p,e,s _ _ h⟩ (ZaN s t)
theorem Zpi{H:Hp}:∀{zs:List Tri} {us:List V},Paired (Ziy H) zs us->Paired (fun y x=>ZoK K H y x) zs us
 |_,_,.nil=> .nil
 |_,_,.cons ⟨p,e,h⟩ t=> .cons ⟨p,e,SqT.of h⟩ (Zpi t)
def ZqK(s:Hs)(x:Tri):Prop:=(∃day,(x.1,x.2.1,day)∈s.gs)/\(x.1,x.2.2)∈s.wd/\x.2.2≠Str.ofString "due"
def ZbK(f:Str×Str):Bool:= !decide (f.2=Str.ofString "due")
def Zda(cn ca cl ce:Addr)(n:Nat)(C:Addr):Sp:=fun vs H Q _=>∃(a:Addr) (s:Hs) (F:List Addr),vs=[.ref a]/\0<n/\ZQ cn ca cl ce C H a s F/\s.wd.map (·.1)=s.gs.map (·.1)/\(s.gs.map (·.1)).Nodup/\s.wd.length<64/\
 ∀L us zs H',H L=none->Zx H H'->H' L=some (.lst us)->Paired (Ziy H') zs us->zs.Pairwise (fun a b=>Yw a.1 b.1=true)->(∀x,x∈zs↔ZqK s x)->Q (.ref L) H'
theorem Zk6{cn ca cl ce C:Addr}:∀vs H Q E,¬Zda cn ca cl ce 0 C vs H Q E:=fun _ _ _ _ ⟨_,_,_,_,z,_⟩=>Nat.lt_irrefl 0 z
theorem ZmI{H:Hp}:∀{zs:List (V×Tri)},(∀z∈zs,Ziy H z.2 z.1)->Paired (Ziy H) (zs.map (·.2)) (zs.map (·.1))
 |[],_=> .nil
 |z::zs,h=> .cons (h z (List.mem_cons_self ..)) (ZmI fun y hy=>h y (List.mem_cons_of_mem _ hy))
theorem Zpj{H:Hp}:∀{ks:List Tri} {us:List V},Paired (Ziy H) ks us->(∀z∈us.zip ks,Ziy H z.2 z.1)/\(us.zip ks).map (·.2)=ks
 |_,_,.nil=>⟨(fun _ h=>nomatch h),rfl⟩
 |_,_,.cons r t=>by
  obtain⟨a,b⟩:=Zpj t;refine⟨fun z h=> ?_,congrArg (_:: ·) b⟩;rcases List.mem_cons.mp h with rfl|h
  ·exact r
  ·exact a z h
theorem Zmd{zs:List Tri}(nd:(zs.map (·.1)).Nodup)(h:zs.Pairwise fun a b=>ZiQ b a=false):zs.Pairwise fun a b=>Yw a.1 b.1=true:=by
 have n:zs.Pairwise fun a b=>a.1≠b.1:=List.pairwise_map.mp (List.nodup_iff_pairwise_ne.mp nd);refine(h.and n).imp fun{a b} ⟨h1,h2⟩=> ?_;have h1:(if b.1=a.1 then Zie ZaE Yw b.2 a.2 else Yw b.1 a.1)=false:=h1;rw[if_neg (Ne.symm h2)] at h1
 rcases Yn.tri a.1 b.1 with q|q|q
 ·exact q
 ·exact absurd q h2
 ·rw[h1] at q;cases q
theorem Zg4:ZC ["self"] ["self"] (Zu ZaW):=⟨rfl,rfl,rfl,by decide+kernel,rfl,by decide+kernel,by decide+kernel⟩
theorem Zg5{f:Addr}{fd:FuncData}(F:Fun K "regrets" "House.regrets" ZaW f fd)(T:Txt K mg Zg Zd Ze Zb Zk)(n:Nat):Yr P w K mg base CX0 (0+n+1+1) f fd ["self"] (Zda Zg Zd Ze Zb (n+1) Zk):=by
 refine F.ok Zg4 (fun vs H Q E h=> ?_) (fun cdv A outer s H vs Q E hr h=> ?_)
 ·obtain⟨a,s,F,rfl,_⟩:=h
  rfl
 ·obtain⟨a,s,F,rfl,_,⟨dx,b,t,o,h,r,k,wd,os,kvs,ha,hb,ht,ho,oa,hh,hr',hk,pk,hw,eF,nd,nb⟩,ek,ndg,lw,q⟩:=h;have l5:=Xl;have hu:=Zcp hr;have hu3:=ZlF hr;have lk1:(wkv s.wd).length<=sizeLine:=by
   unfold wkv;rw[List.length_map];omega
  have nkw:k≠wd:=by
   rw[eF] at nd
   simp only [List.nodup_cons,List.mem_cons,not_or] at nd
   exact nd.2.2.2.2.1.1
  have nf:∀o u,H wd≠some (.frz o u):=fun o u z=>by rw[hw] at z;cases z
  refine⟨_,(Zo (Zw (ZM (ZcN ZoL hu3) (by rfl) T.z_sorted Zbh (Za (Zf7 (Je ["record","word"] [("self",0)] rfl (Zhc (Zhb (ZW (pv 0) rfl))) (by rfl) (by exact⟨rfl,trivial⟩) (by rfl) (by exact⟨⟨rfl,rfl,rfl⟩,trivial⟩) (fun _ _ _ _=>(Zjt (K:=K) 2 rfl rfl (Jm (ZK (i:=0) (show(nmY ["record","word"] [("self",0)]).Nodup by decide+kernel) rfl (Or.inl rfl) (Or.inr rfl)) (Jm (ZK (i:=1) (show(nmY ["record","word"] [("self",0)]).Nodup by decide+kernel) rfl (Or.inl rfl) (Or.inr rfl)) ZeV)) rfl rfl)) (fun _ _ _ _=>(JM (Zt Zqv (pv 1) ZG (Zy _)))) (fun _ _ _ _=>(YX (Za (pv 0) (Za (Zz (XD (K:=K) rfl) (Zba hu (Zjx (K:=K) rfl (pv 2) rfl) (pv 0) (fun _ _=>rfl)) Zh (fun _ _=>rfl)) (Za (pv 1) Zj))))))) Zj)))), ?_⟩
  refine⟨_,rfl,a,_,dx,_,_,rfl,ha,T.cl_House,T.n_House_words,Zad ..,wd,_,rfl,hw,fun v hv0=>⟨v,wd,_,rfl,Zc,by rw[Zm (Zf hw hv0)];exact hw,fun ob=> ?_⟩⟩
  have fz:upd (upd H v (Xw v wd)) wd (.frz ob (.dK (wkv s.wd))) wd=some (.frz ob (.dK (wkv s.wd))):=Zc;have fr0:∀c u,c≠wd->H c=some u->upd (upd H v (Xw v wd)) wd (.frz ob (.dK (wkv s.wd))) c=some u:=fun c u n e=>by rw[Zm n,Zm (Zf e hv0)];exact e
  have hva:v≠wd:=fun y=>by rw[y,hw] at hv0;cases hv0
  have fv:upd (upd H v (Xw v wd)) wd (.frz ob (.dK (wkv s.wd))) v≠none:=by rw[Zm hva,Zc];exact fun z=>nomatch z
  have no0:∀c,upd (upd H v (Xw v wd)) wd (.frz ob (.dK (wkv s.wd))) c=none->H c=none:=fun c z=>by
   cases e:H c with
   |none=>rfl
   |some u=>
    by_cases y:c=wd
    ·rw[y,fz] at z;cases z
    ·rw[fr0 c u y e] at z;cases z
  have hv1:upd (upd H v (Xw v wd)) wd (.frz ob (.dK (wkv s.wd))) v=some (Xw v wd):=by rw[Zm hva,Zc]
  generalize upd (upd H v (Xw v wd)) wd (.frz ob (.dK (wkv s.wd)))=H1 at fz fr0 fv no0 hv1
  refine Zf2 fun D hD=>⟨(wkv s.wd).length,fun j ys H4=>∃zs:List Tri,Paired (Ziy H4) zs ys/\zs.map (fun x=>(x.1,x.2.2))=(s.wd.take j).filter ZbK/\(∀x∈zs,∃day,(x.1,x.2.1,day)∈s.gs)/\Zx H1 H4,lk1,⟨[],.nil,rfl,(fun x hx=>nomatch hx),Zn hD⟩, ?_, ?_, ?_, ?_, ?_⟩
  ·rintro j ys H4 ⟨zs,pz,ez,_,_⟩;have h1:=Paired.length pz;have h2:=congrArg List.length ez;rw[List.length_map] at h2
   have h3:=List.length_filter_le ZbK (s.wd.take j);have h4:=List.length_take_le j s.wd;omega
  ·rintro j ys us H4 H5 eD kp ⟨zs,pz,ez,ng,s4⟩;exact⟨zs,ZaN (fun c xs e=>kp c _ (Yi e eD (fun z=>nomatch z)) e) pz,ez,ng,fun c u e=>kp c u (Zf e hD) (s4 _ _ e)⟩
  ·rintro j ys H4 ⟨_,_,_,_,s4⟩ lt;exact⟨s4 _ _ fz,lt⟩
  ·rintro ys H4 ⟨zs,pz,ez,ng,s4⟩ hD4;refine⟨⟨s4 _ _ fz,Nat.le_refl _⟩, ?_⟩;have lwk:(wkv s.wd).length=s.wd.length:=by unfold wkv;rw[List.length_map]
   rw[lwk,List.take_length] at ez
   have hDa:D≠wd:=fun y=>by rw[y,fz] at hD;cases hD
   have fs:Zhe wd (wkv s.wd) H H4:=⟨fun b u n y=>s4 b u (fr0 b u n y),ob,s4 _ _ fz⟩
   obtain⟨t1,t2⟩:=fs.thaw hw nf;have kt:∀c xs,H4 c=some (.tup xs)->upd H4 wd (.dK (wkv s.wd)) c=some (.tup xs):=fun c xs e=>by rw[Zm (Yi e (s4 _ _ fz) (fun z=>nomatch z))];exact e
   have lz:=Paired.length pz;have le:=congrArg List.length ez;rw[List.length_map] at le
   have l2:=List.length_filter_le ZbK s.wd;refine⟨wd,_,t1,D,ys,zs,rfl,SqL.of (by rw[Zm hDa];exact hD4),by omega,Zpi (ZaN kt pz),fun ps pp ps_ D2 hD2=> ?_⟩
   have pz2:=ZaN kt pz;obtain⟨i1,i2⟩:=Zpj pz2;have s5:=Zn hD2 (o:=.lst (ps.map (·.1)));have perm:(ps.map (·.2)).Perm zs:=by
    have:=pp.map (·.2)
    rwa [i2] at this
   have keysw:(zs.map (·.1)).Nodup:=by
    have e1:zs.map (·.1)=(zs.map fun x=>(x.1,x.2.2)).map (·.1):=by rw[List.map_map];rfl
    rw[e1,ez];exact List.Nodup.sublist (List.Sublist.map _ List.filter_sublist) (by rw[ek];exact ndg)
   refine q D2 (ps.map (·.1)) (ps.map (·.2)) _ (YK t2 hD2) (t2.trans s5) Zc (ZaN (fun c xs e=>s5 _ _ e) (ZmI fun z hz=>i1 z (pp.subset hz))) (Zmd ((perm.map (·.1)).nodup_iff.mpr keysw) (List.pairwise_map.mpr ps_)) fun x=> ?_;rw[perm.mem_iff]
   constructor
   ·intro hx;have m:(x.1,x.2.2)∈s.wd.filter ZbK:=by rw[<-ez];exact List.mem_map.mpr ⟨x,hx,rfl⟩
    obtain⟨m1,m2⟩:=List.mem_filter.mp m;exact⟨ng x hx,m1,fun z=>by
     unfold ZbK at m2
     rw[decide_eq_true z] at m2
     cases m2⟩
   ·rintro⟨⟨day,hg⟩,m1,m2⟩;have m:(x.1,x.2.2)∈s.wd.filter ZbK:=List.mem_filter.mpr ⟨m1,by unfold ZbK;rw[decide_eq_false m2];rfl⟩
    rw[<-ez] at m
    obtain⟨y,hy,e⟩:=List.mem_map.mp m
    injection e with e1 e2
    obtain⟨day',hg'⟩:=ng y hy;have:=Zbm ndg hg' hg (by exact e1)
    injection this with _ e3
    injection e3 with e3 _
    have:y=x:=Prod.ext e1 (Prod.ext e3 e2);rw[<-this];exact hy
  ·rintro j x ys H4 H5 ⟨zs,pz,ez,ng,s4⟩ hD4 lt ⟨kv,p,e2,hp,rfl,rfl⟩ RT RF rt rf;obtain⟨⟨r0,w0⟩,hx0,rfl⟩:=List.mem_map.mp (List.mem_of_getElem? e2);have ew:s.wd[j]? =some (r0,w0):=by
    unfold wkv at e2
    rw[List.getElem?_map] at e2
    cases z:s.wd[j]? with
    |none=>rw[z] at e2;cases e2
    |some y=>
     rw[z] at e2
     have e2:=Option.some.inj e2
     injection e2 with a1 a2
     injection a1 with a1
     injection a2 with a2
     exact congrArg some (Prod.ext a1 a2)
   have tk:s.wd.take (j+1)=s.wd.take j++[(r0,w0)]:=by rw[List.take_add_one,ew];rfl
   obtain⟨g,hg,eg⟩:∃g∈s.gs,g.1=r0:=by
    have:r0∈s.gs.map (·.1):=by rw[<-ek];exact List.mem_map_of_mem hx0
    obtain⟨g,a1,a2⟩:=List.mem_map.mp this;exact⟨g,a1,a2⟩
   obtain⟨g0,gn,gd⟩:=g;obtain rfl:g0=r0:=eg;have s3:Zx H4 (upd H4 p (.tup [kV (Sum.inr g0),V.str w0])):=Zn hp;have s14:=s4.trans s3;have hpt:upd H4 p (.tup [kV (Sum.inr g0),V.str w0]) p=some (.tup [kV (Sum.inr g0),V.str w0]):=Zc;have hD5:=s3 _ _ hD4;generalize upd H4 p (.tup [kV (Sum.inr g0),V.str w0])=H5 at s3 s14 hpt hD5
   refine⟨p,_,rfl,SqT.of hpt,rfl,_,_,rfl,_,_,rfl,rfl,⟨rfl,trivial⟩,_,rfl,rfl,_,rfl, ?_⟩;refine YZ (fun e=> ?_) (fun e=> ?_)
   ·have e:(!decide (V.str w0=V.str (Str.ofString "due")))=true:=e;have nd0:ZbK (g0,w0)=true:=by
     unfold ZbK;cases z:decide (w0=Str.ofString "due") with
     |false=>rfl
     |true=>rw[of_decide_eq_true z,decide_eq_true rfl] at e;cases e
    have ka:H1 k=some (.dK kvs):=fr0 _ _ nkw hk;have pk1:Paired (ZfR H1) s.gs kvs:=Jh (fun b xs e=>fr0 _ _ (Yi e hw (fun z=>nomatch z)) e) pk;obtain⟨pg,vg,hpg⟩:=ZjR pk1 ndg _ hg;have ha1:=fr0 _ _ (Yi ha hw (fun z=>nomatch z)) ha;refine⟨_,rfl,_,rfl,a,_,dx,_,_,rfl,s14 _ _ ha1,T.cl_House,T.n_House_taken,ZdG ..,_,rfl,k,_,rfl,.inl ⟨kvs,Sum.inr g0,.inl (s14 _ _ ka),rfl,vg.symm⟩,pg,_,_,_,rfl,rfl,SqT.of (s14 _ _ hpg),rfl,_,rfl,show 3<=sizeLine from sl,fun tt htt=> ?_⟩
    have s6:=Zn htt (o:=.tup [.str g0,.int gn,.str w0]);refine rt _ _ (s6 _ _ hD5) ⟨zs++[(g0,gn,w0)],Paired.snoc (ZaN (fun c xs e=>s6 _ _ (s3 _ _ e)) pz) ⟨tt,rfl,Zc⟩, ?_,fun x hx=> ?_,s14.trans s6⟩
    ·rw[tk,List.map_append,ez,List.filter_append,List.filter_cons_of_pos nd0]
     rfl
    ·rcases List.mem_append.mp hx with hx|hx
     ·exact ng x hx
     ·rw[List.mem_singleton.mp hx];exact⟨gd,hg⟩
   ·have nd0:ZbK (g0,w0)=false:=by
     unfold ZbK;cases z:decide (w0=Str.ofString "due") with
     |true=>rfl
     |false=>exact absurd (show(!decide (V.str w0=V.str (Str.ofString "due")))=true by rw[decide_eq_false (vne (of_decide_eq_false z))];rfl) e
    refine rf _ hD5 ⟨zs,ZaN (fun c xs e=>s3 _ _ e) pz, ?_,ng,s14⟩;rw[tk,ez,List.filter_append,List.filter_cons_of_neg (by rw[nd0];exact Bool.false_ne_true)]
    exact(List.append_nil _).symm
theorem Zau.one{rs:List Sr}{ws:List Rw}{r:Str}{day:Int}{z z':Str}(h:Zau rs ws r day z)(h':Zau rs ws r day z'):z=z':=by
 cases e:YM (ZR ws day) r with
 |false=>rw[h.no e,h'.no e]
 |true=>
  obtain⟨y,r0,t,a1,a2,a3,a4⟩:=h.yes e;obtain⟨y',r0',t',b1,b2,b3,b4⟩:=h'.yes e;obtain rfl:=a1.one b1;rw[a2] at b2
  cases b2;rw[a3] at b3
  cases b3;rw[a4,b4]
def Zpk(s:Hs)(x:Tri):Prop:=∃day,(x.1,x.2.1,day)∈s.gs/\Zau s.rs s.ws x.1 day x.2.2/\x.2.2≠Str.ofString "due"
theorem Zpl{s:Hs}(wo:ZcA s)(nd:(s.gs.map (·.1)).Nodup)(x:Tri):ZqK s x↔Zpk s x:=by
 constructor
 ·rintro⟨⟨day,hg⟩,hw,ne⟩;obtain⟨n,d,hg',wi⟩:=wo.ok _ hw;have:=Zbm nd hg hg' rfl
  injection this with _ e
  injection e with _ e
  subst e;exact⟨day,hg,wi,ne⟩
 ·rintro⟨day,hg,wi,ne⟩;refine⟨⟨day,hg⟩, ?_,ne⟩;have:x.1∈s.wd.map (·.1):=by rw[wo.keys];exact List.mem_map_of_mem (f:=fun g:Gn=>g.1) hg
  obtain⟨f,hf,e⟩:=List.mem_map.mp this;obtain⟨n,d,hg',wi'⟩:=wo.ok _ hf;have ee:=Zbm nd hg hg' e.symm
  injection ee with e1 e2
  injection e2 with _ e2
  subst e2;rw[e] at wi'
  have:=wi.one wi';rw[show(x.1,x.2.2)=f from Prod.ext e.symm this];exact hf
theorem Zqn{zs ys:List Tri}(h:zs.Pairwise fun a b=>Yw a.1 b.1=true)(k:ys.Pairwise fun a b=>Yw a.1 b.1=true)(m:∀x,x∈zs↔x∈ys):zs=ys:=by
 have go:∀{l:List Tri},(l.Pairwise fun a b=>Yw a.1 b.1=true)->M4.Asc ZiQ l/\l.Nodup:=fun{l} h=>⟨h.imp (fun{a b} x=>by
  have ne:¬b.1=a.1:=fun z=>by rw[z,Yn.irr] at x;cases x
  show(if b.1=a.1 then Zie ZaE Yw b.2 a.2 else Yw b.1 a.1)=false;rw[if_neg ne];cases e:Yw b.1 a.1 with
  |false=>rfl
  |true=>have:=Yn.tr _ _ _ x e;rw[Yn.irr] at this;cases this),List.nodup_iff_pairwise_ne.mpr (h.imp fun{a b} x z=>by rw[z,Yn.irr] at x;cases x)⟩
 exact M4.ZgM ZiR ((List.perm_ext_iff_of_nodup (go h).2 (go k).2).mpr m) (go h).1 (go k).1
theorem Zi0{α:Type}{p:α×α}:∀{l:List α},p∈l.zip l->p.1=p.2/\p.1∈l
 |x::l,h=>by
  obtain rfl|h2:=List.mem_cons.mp h
  ·exact And.intro rfl (List.mem_cons_self ..)
  ·obtain⟨a,b⟩:=Zi0 h2;exact⟨a,List.mem_cons_of_mem _ b⟩
def ZdN(n:Nat)(d:Dt):Prop:=Xu n d d=true/\Zb6 n d d=true
theorem ZeK{n:Nat}{x:V}(h:Xk x=true):ZdN n (.v x):=by
 cases n<;>exact⟨Ji h,rfl⟩
theorem Zfs{n:Nat}{ds:List Dt}(h:∀d∈ds,ZdN n d):(ds.zip ds).all (fun p=>Xu n p.1 p.2)=true/\(ds.zip ds).all (fun p=>Zb6 n p.1 p.2)=true:=
 ⟨List.all_eq_true.mpr fun p hp=>by obtain⟨a,b⟩:=Zi0 hp;rw[<-a];exact(h _ b).1,List.all_eq_true.mpr fun p hp=>by obtain⟨a,b⟩:=Zi0 hp;rw[<-a];exact(h _ b).2⟩
theorem Zft{n:Nat}{ds:List Dt}(h:∀d∈ds,ZdN n d):ZdN (n+1) (.tup ds):=⟨by
 show((ds.zip ds).all (fun p=>Xu n p.1 p.2)&&ds.length==ds.length)=true;rw[(Zfs h).1,beq_self_eq_true]
 rfl,(Zfs h).2⟩
theorem Zl5{n:Nat}{ds:List Dt}(h:∀d∈ds,ZdN n d):ZdN (n+1) (.lst ds):=⟨by
 show(ds.length==ds.length&&(ds.zip ds).all (fun p=>Xu n p.1 p.2))=true;rw[(Zfs h).1,beq_self_eq_true]
 rfl,(Zfs h).2⟩
def JT(us:List Rw)(r k:Str):List Int:=us.filterMap fun w=>if w.one=r/\kindOf w=k then some w.day else none
theorem ZmJ{r k:Str}{l:Tb}(hk:k≠Str.ofString ""):∀w:Rw,lk (Xb r l w) k=if w.one=r/\kindOf w=k then some (max w.day ((lk l k).getD w.day)) else lk l k
 | .put x s d=>by
  show lk (if x=r then ZfH l "put" (max d ((lk l "put").getD d)) else l) k=if x=r/\Str.ofString "put"=k then some (max d ((lk l k).getD d)) else lk l k
  by_cases h:x=r
  ·rw[if_pos h,M4.Zox]
   by_cases g:Str.ofString "put"=k
   ·rw[if_pos g.symm,if_pos ⟨h,g⟩,g]
   ·rw[if_neg (Ne.symm g),if_neg fun z=>g z.2]
  ·rw[if_neg h,if_neg fun z=>h z.1]
 | .deed x c d=>by
  show lk (if x=r then ZfH l c (max d ((lk l c).getD d)) else l) k=if x=r/\c=k then some (max d ((lk l k).getD d)) else lk l k
  by_cases h:x=r
  ·rw[if_pos h,M4.Zox]
   by_cases g:c=k
   ·rw[if_pos g.symm,if_pos ⟨h,g⟩,g]
   ·rw[if_neg (Ne.symm g),if_neg fun z=>g z.2]
  ·rw[if_neg h,if_neg fun z=>h z.1]
 | .move _ _ _=>(if_neg fun z=>hk z.2.symm).symm
 | .lift _ _=>(if_neg fun z=>hk z.2.symm).symm
 | .hold _ _ _ _=>(if_neg fun z=>hk z.2.symm).symm
theorem Zl6{r k:Str}(hk:k≠Str.ofString ""):∀(us:List Rw) (l:Tb) (d:Int),lk (us.foldl (Xb r) l) k=some d->(lk l k=some d\/d∈JT us r k)/\(∀z,lk l k=some z->z<=d)/\∀z∈JT us r k,z<=d
 |[],l,d,h=>⟨.inl h,fun z e=>by rw[show lk l k=some d from h] at e;injection e with e;omega,fun z e=>nomatch e⟩
 |w::us,l,d,h=>by
  obtain⟨a,b,c⟩:=Zl6 hk us _ d h;rw[ZmJ hk w] at a b
  by_cases g:w.one=r/\kindOf w=k
  ·rw[if_pos g] at a b
   have e:JT (w::us) r k=w.day::JT us r k:=List.filterMap_cons_some (if_pos g);have b1:=b _ rfl;rw[e];refine⟨?_,fun z ez=> ?_,fun z hz=> ?_⟩
   ·cases a with
    |inr a=>exact .inr (List.mem_cons_of_mem _ a)
    |inl a=>
     injection a with a
     cases q:lk l k with
     |none=>
      rw[q] at a
      have a:max w.day w.day=d:=a;exact .inr (by rw[<-a,Int.max_self];exact List.mem_cons_self ..)
     |some u=>
      rw[q] at a
      have a:max w.day u=d:=a
      by_cases le:w.day<=u
      ·exact .inl (by rw[<-a,Int.max_eq_right le])
      ·exact .inr (by rw[<-a,Int.max_eq_left (by omega)];exact List.mem_cons_self ..)
   ·rw[ez] at b1
    have b1:max w.day z<=d:=b1;omega
   ·have b2:w.day<=d:=Int.le_trans (Int.le_max_left ..) b1;cases hz with
    |head=>exact b2
    |tail _ hz=>exact c z hz
  ·rw[if_neg g] at a b
   have e:JT (w::us) r k=JT us r k:=List.filterMap_cons_none (if_neg g);rw[e];exact⟨a,b,c⟩
theorem Zl7{us:List Rw}{r k:Str}{d:Int}(hk:k≠Str.ofString "")(h:lk (Yg us r) k=some d):Zof (JT us r k) d:=by
 obtain⟨a,_,c⟩:=Zl6 hk us [] d h;refine⟨?_,c⟩;cases a with
 |inl a=>cases a
 |inr a=>exact a
theorem ZeL:∀{t:Tr},t.good->∀kd∈t.lvs,kd.1≠Str.ofString ""
 | .never,_,kd,h=>nomatch h
 | .after k d,g,kd,h=>fun z=>by
  have:kd=(k,d):=List.mem_singleton.mp h;rw[this] at z
  have z:k=Str.ofString "":=z;have g1:1<=k.length:=g.1.1;rw[z] at g1
  exact absurd g1 (by decide)
 | .later x y,g,kd,h=>(List.mem_append.mp h).elim (ZeL g.1 kd) (ZeL g.2 kd)
 | .earlier x y,g,kd,h=>(List.mem_append.mp h).elim (ZeL g.1 kd) (ZeL g.2 kd)
theorem Zru{ls:List Lf}{x y:Lf}(hx:x∈ls)(hy:y∈ls)(bx:∀z∈ls,Zgt z x=false)(by_:∀z∈ls,Zgt z y=false):x=y:=by
 rcases Zf6.tri x y with a|a|a
 ·rw[by_ x hx] at a;cases a
 ·exact a
 ·rw[bx y hy] at a;cases a
theorem Zpm(ns:List Int)(lo hi:Option Int):∃ms:List Int,ZaB (ns.map V.int) lo hi=ms.map V.int/\ms.length<=ns.length:=by
 unfold ZaB;refine⟨(ns.drop (HT.sIx (ns.map V.int).length 0 lo)).take (HT.sIx (ns.map V.int).length (ns.map V.int).length hi-HT.sIx (ns.map V.int).length 0 lo), ?_, ?_⟩
 ·rw[List.map_take,List.map_drop]
 ·rw[List.length_take,List.length_drop];omega
def rwD(w:Rw):Dt:=.tup (w.vs.map Dt.v)
theorem Zk7(w:Rw):∀x∈w.vs,Xk x=true:=by
 have:w.vs.all Xk=true:=by cases w<;>rfl
 exact List.all_eq_true.mp this
theorem Zme{H:Hp}:∀xs:List V,(∀x∈xs,Xk x=true)->Zf4 K H (xs.map Dt.v) xs
 |[],_=> .nil
 |x::xs,h=> .cons (.flat (h x (List.mem_cons_self ..))) (Zme xs fun y hy=>h y (List.mem_cons_of_mem _ hy))
theorem ZmK{H:Hp}:∀{ds:List Addr} {ws:List Rw},Paired (ZbP H) ds ws->Zf4 K H (ws.map rwD) (ds.map V.ref)
 |_,_,.nil=> .nil
 |_,_,.cons (b:=w) h t=> .cons (.tup (SqT.of h) (Zme _ (Zk7 w))) (ZmK t)
theorem Yc.of_perm{ws us:List Rw}(h:ws.Perm us):Yc ws us:=⟨fun w=>h.mem_iff,h.filter _⟩
theorem Yc.up{ws us:List Rw}(h:Yc ws us)(day:Int):Yc (ZR ws day) (ZR us day):=by
 refine⟨fun w=> ?_, ?_⟩
 ·unfold ZR;rw[List.mem_filter,List.mem_filter,h.mem w]
 ·have e:∀xs:List Rw,(ZR xs day).filter Xn=(xs.filter Xn).filter fun w=>decide (w.day<=day):=fun xs=>by
   unfold ZR;rw[List.filter_filter,List.filter_filter]
   congr 1
   funext w
   exact Bool.and_comm ..
  rw[e,e];exact h.held.filter _
theorem Yc.put{ws us:List Rw}(h:Yc ws us)(r:Str):YM ws r=YM us r:=by
 have go:∀{xs ys:List Rw},(∀w,w∈xs↔w∈ys)->YM xs r=true->YM ys r=true:=fun m e=>by
  obtain⟨w,hw,pw⟩:=List.any_eq_true.mp e;exact List.any_eq_true.mpr ⟨w,(m w).mp hw,pw⟩
 cases e:YM us r with
 |true=>exact go (fun w=>(h.mem w).symm) e
 |false=>
  cases f:YM ws r with
  |false=>rfl
  |true=>rw[go h.mem f] at e;cases e
theorem Yc.spots{ws us:List Rw}(h:Yc ws us)(r:Str)(y:Za3):y∈Yd ws r↔y∈Yd us r:=by
 unfold Yd;rw[List.mem_filterMap,List.mem_filterMap];exact⟨fun⟨w,a,b⟩=>⟨w,(h.mem w).mp a,b⟩,fun⟨w,a,b⟩=>⟨w,(h.mem w).mpr a,b⟩⟩
theorem Yc.top{ws us:List Rw}(h:Yc ws us){r:Str}{y:Za3}(t:Top (Yd ws r) y):Top (Yd us r) y:=⟨(h.spots r y).mp t.1,fun z hz=>t.2 z ((h.spots r z).mpr hz)⟩
theorem Yc.days{ws us:List Rw}(h:Yc ws us)(r k:Str)(d:Int):d∈JT ws r k↔d∈JT us r k:=by
 unfold JT;rw[List.mem_filterMap,List.mem_filterMap];exact⟨fun⟨w,a,b⟩=>⟨w,(h.mem w).mp a,b⟩,fun⟨w,a,b⟩=>⟨w,(h.mem w).mpr a,b⟩⟩
theorem Zl8{r k:Str}(hk:k≠Str.ofString ""):∀(us:List Rw) (l:Tb),(lk l k≠none\/JT us r k≠[])->lk (us.foldl (Xb r) l) k≠none
 |[],l,h=>h.elim (fun z=>z) (fun z=>absurd rfl z)
 |w::us,l,h=>by
  refine Zl8 hk us _ ?_;rw[ZmJ hk w]
  by_cases g:w.one=r/\kindOf w=k
  ·rw[if_pos g];exact .inl fun z=>nomatch z
  ·rw[if_neg g];have e:JT (w::us) r k=JT us r k:=List.filterMap_cons_none (if_neg g);rw[e] at h
   exact h
theorem Yc.life{ws us:List Rw}(h:Yc ws us){r k:Str}(hk:k≠Str.ofString ""):lk (Yg ws r) k=lk (Yg us r) k:=by
 have go:∀{xs ys:List Rw},(∀d,d∈JT xs r k↔d∈JT ys r k)->∀d,lk (Yg xs r) k=some d->lk (Yg ys r) k=some d:=fun{xs ys} m d e=>by
  have a:=Zl7 hk e;have b:lk (Yg ys r) k≠none:=Zl8 hk ys [] (.inr fun z=>by
   have:=(m d).mp a.1;rw[z] at this
   cases this)
  cases f:lk (Yg ys r) k with
  |none=>exact absurd f b
  |some c=>
   have g:=Zl7 hk f;exact congrArg some (Int.le_antisymm (a.2 c ((m c).mpr g.1)) (g.2 d ((m d).mp a.1)))
 cases e:lk (Yg ws r) k with
 |some d=>exact(go (h.days r k) d e).symm
 |none=>
  cases f:lk (Yg us r) k with
  |none=>rfl
  |some d=>rw[go (fun d=>(h.days r k d).symm) d f] at e;cases e
theorem Za0{l m:Tb}:∀{t:Tr},(∀kd∈t.lvs,lk l kd.1=lk m kd.1)->t.due l=t.due m
 | .never,_=>rfl
 | .after k d,h=>by
  show(lk l k).map (· +d)=(lk m k).map (· +d);rw[h (k,d) (List.mem_singleton_self _)]
 | .later x y,h=>by
  show ZjB (x.due l) (y.due l)=ZjB (x.due m) (y.due m);rw[Za0 fun kd a=>h kd (List.mem_append_left _ a),Za0 fun kd a=>h kd (List.mem_append_right _ a)]
 | .earlier x y,h=>by
  show Zfd (x.due l) (y.due l)=Zfd (x.due m) (y.due m);rw[Za0 fun kd a=>h kd (List.mem_append_left _ a),Za0 fun kd a=>h kd (List.mem_append_right _ a)]
theorem Ziz{l m:Tb}{D:Int}{ls:List Lf}(h:∀kd∈ls,lk l kd.1=lk m kd.1):Zbd l D ls=Zbd m D ls:=by
 unfold Zbd;refine List.filter_congr fun kd hk=> ?_;unfold JP;rw[h kd hk]
theorem Yc.lifts{ws us:List Rw}(h:Yc ws us)(z:Str):z∈YF ws↔z∈YF us:=by
 show z∈ws.filterMap Zap↔z∈us.filterMap Zap;rw[List.mem_filterMap,List.mem_filterMap];exact⟨fun⟨w,a,b⟩=>⟨w,(h.mem w).mp a,b⟩,fun⟨w,a,b⟩=>⟨w,(h.mem w).mpr a,b⟩⟩
theorem Yc.holds{ws us:List Rw}(h:Yc ws us)(r:Str)(line:List Str):(Yt ws r line).Perm (Yt us r line):=by
 have e:∀(xs:List Rw),(Yk xs).filter (ZbA r line)=(xs.filter Xn).filter fun w=>ZbA r line w&&JF (YF xs) w:=fun xs=>by
  unfold Yk;rw[List.filter_filter,List.filter_filter];refine List.filter_congr fun w _=> ?_;cases w with
  |hold a b c d=>
   show _=(_&&true);rw[Bool.and_true]
  |_=>simp[JF,Xn]
 have f:∀w:Rw,JF (YF ws) w=JF (YF us) w
  | .hold a b c d=>decide_eq_decide.mpr (not_congr (h.lifts a))
  | .put _ _ _=>rfl
  | .move _ _ _=>rfl
  | .deed _ _ _=>rfl
  | .lift _ _=>rfl
 unfold Yt;rw[e,e];refine List.Perm.map _ ?_;have g:(fun w=>ZbA r line w&&JF (YF ws) w)=fun w=>ZbA r line w&&JF (YF us) w:=funext fun w=>by rw[f w]
 rw[g];exact h.held.filter _
theorem Zi1{rs:List Sr}(bk:JD [] rs){n:Str}{r0:Sr}{t:Tr}(hn:n∈rs.map Sr.nm)(ow:Zdx rs.reverse (some n)=some r0)(ht:r0.tm=some t):t.good:=by
 obtain⟨r1,hr1,ow1,_,_⟩:=ZhB (ZoU rs) rs.reverse (some n) (ZgP bk) (fun x hx=>ZjK (ZhC bk) (List.mem_reverse.mp hx)) (fun m hm=>by cases hm;rw[List.map_reverse,List.mem_reverse];exact hn) (fun z=>nomatch z)
 obtain rfl:r0=r1:=by rw[ow] at ow1;injection ow1
 exact((Ze8 bk r0 (List.mem_reverse.mp hr1)).tm t ht).1
theorem IsJ.turn{rs:List Sr}{ws us:List Rw}{rec:Str}{day:Int}{j:Jd}(bk:JD [] rs)(ro:ZcY rs ws)(h:Yc ws us)(is:IsJ rs ws rec day j):IsJ rs us rec day j:=by
 have hu:=h.up day;refine⟨fun z=>is.no ((hu.put rec).trans z),fun z=> ?_⟩;obtain⟨y,r0,t,top,ow,ht,e4,e5,e6,e7,e8,e9⟩:=is.yes ((hu.put rec).trans z);have g:=Zi1 bk (ro.ser rec y (Zcx top.1)) ow ht;exact⟨y,r0,t,hu.top top,ow,ht,e4,e5,e6.trans (Za0 fun kd hk=>hu.life (ZeL g kd hk)),e7.trans (hu.holds _ _),e8,e9⟩
theorem Zhw.turn{rs:List Sr}{ws us:List Rw}{rec:Str}{day:Int}{H:Hp}{v:V}(bk:JD [] rs)(ro:ZcY rs ws)(h:Yc ws us)(is:Zhw rs ws rec day H v):Zhw rs us rec day H v:=by
 have hu:=h.up day;refine⟨fun z=>is.no ((hu.put rec).trans z),fun z=> ?_⟩;obtain⟨y,r0,t,top,ow,ht,no,yes⟩:=is.yes ((hu.put rec).trans z);have g:=Zi1 bk (ro.ser rec y (Zcx top.1)) ow ht;have al:∀kd∈t.lvs,lk (Yg (ZR ws day) rec) kd.1=lk (Yg (ZR us day) rec) kd.1:=fun kd hk=>hu.life (ZeL g kd hk);refine⟨y,r0,t,hu.top top,ow,ht,fun e=>no ((Za0 al).trans e),fun D e=> ?_⟩;obtain⟨a,k,d,n,rfl,ha,ek,mem,best⟩:=yes D ((Za0 al).trans e)
 rw[Ziz al] at mem best
 exact⟨a,k,d,n,rfl,ha,(al (k,n) (List.mem_filter.mp mem).1).symm.trans ek,mem,best⟩
theorem Zqo{rs:List Sr}{ws:List Rw}{rec:Str}{day:Int}{j:Jd}(is:IsJ rs ws rec day j)(w:j.word=Str.ofString "due"):∃(y:Za3) (r0:Sr) (t:Tr) (D:Int),YM (ZR ws day) rec=true/\Top (Yd (ZR ws day) rec) y/\Zdx rs.reverse (some y.2)=some r0/\r0.tm=some t/\j.ser=some y.2/\j.own=some r0.nm/\j.due=some D/\t.due (Yg (ZR ws day) rec)=some D:=by
 cases ip:YM (ZR ws day) rec with
 |false=>
  rw[is.no ip] at w
  exact absurd w (by decide+kernel:¬Str.ofString "absent"=Str.ofString "due")
 |true=>
  obtain⟨y,r0,t,top,ow,ht,e4,e5,e6,e7,e8,e9⟩:=is.yes ip;cases hd:j.due with
  |none=>
   rw[w,hd] at e9
   exact absurd e9 (by decide+kernel:¬Str.ofString "due"=Str.ofString "kept")
  |some D=>exact⟨y,r0,t,D,rfl,top,ow,ht,e4,e5,rfl,e6▸hd⟩
structure ZnB where
 s:Str
 o:Str
 d:Int
 k:Str
 e:Int
 n:Int
def ZmL(s:Hs)(day:Int)(r:Str)(x:ZnB):Prop:=∃(y:Za3) (r0:Sr) (t:Tr),Top (Yd (ZR s.ws day) r) y/\Zdx s.rs.reverse (some y.2)=some r0/\r0.tm=some t/\x.s=y.2/\x.o=r0.nm/\t.due (Yg (ZR s.ws day) r)=some x.d/\lk (Yg (ZR s.ws day) r) x.k=some x.e/\(x.k,x.n)∈Zbd (Yg (ZR s.ws day) r) x.d t.lvs/\∀z∈Zbd (Yg (ZR s.ws day) r) x.d t.lvs,Zgt z (x.k,x.n)=false
theorem ZmL.one{s:Hs}{day:Int}{r:Str}{x x':ZnB}:ZmL s day r x->ZmL s day r x'->x=x'
 |⟨y,r0,t,top,ow,ht,e1,e2,e3,e4,e5,e6⟩,⟨y',r0',t',top',ow',ht',e1',e2',e3',e4',e5',e6'⟩=>by
  obtain rfl:=top.one top';obtain rfl:r0=r0':=by rw[ow] at ow';injection ow'
  obtain rfl:t=t':=by rw[ht] at ht';injection ht'
  obtain⟨s1,o1,d1,k1,f1,n1⟩:=x;obtain⟨s2,o2,d2,k2,f2,n2⟩:=x';obtain rfl:d1=d2:=by rw[show t.due _=some d1 from e3] at e3';injection e3'
  have e:=Zru e5 e5' e6 e6'
  injection e with g1 g2
  have g1:k1=k2:=g1;have g2:n1=n2:=g2;subst g1 g2;obtain rfl:f1=f2:=by rw[show lk _ k1=some f1 from e4] at e4';injection e4'
  have e1:s1=y.2:=e1;have e1':s2=y.2:=e1';have e2:o1=r0.nm:=e2;have e2':o2=r0.nm:=e2';subst e1 e1' e2 e2'
  rfl
def Zst(H:Hp)(r:Str)(x:ZnB)(v:V):Prop:=∃p q,v=.ref p/\H p=some (.tup [.str r,.str x.s,.str x.o,.int x.d,.ref q])/\H q=some (.tup [.str x.k,.int x.e,.int x.n])
theorem Zpn{s:Hs}{day:Int}{H:Hp}{r:Str}{v:V}:ZbY s day H r v->∃x,ZmL s day r x/\Zst H r x v
 |⟨p,j,v5,e,h,is,wd,wy⟩=>by
  obtain⟨y,r0,t,D,ip,top,ow,ht,e4,e5,e6,hd⟩:=Zqo is wd;obtain⟨y',r0',t',top',ow',ht',no,yes⟩:=wy.yes ip;obtain rfl:=top.one top';obtain rfl:r0=r0':=by rw[ow] at ow';injection ow'
  obtain rfl:t=t':=by rw[ht] at ht';injection ht'
  obtain⟨a,k,d,n,rfl,ha,ek,mem,best⟩:=yes D hd;rw[e4,e5,e6] at h
  exact⟨⟨y.2,r0.nm,D,k,d,n⟩,⟨y,r0,t,top,ow,ht,rfl,rfl,hd,ek,mem,best⟩,p,a,e,h,ha⟩
def Zrv(r:Str)(x:ZnB):Dt:=.tup [.v (.str r),.v (.str x.s),.v (.str x.o),.v (.int x.d),.tup [.v (.str x.k),.v (.int x.e),.v (.int x.n)]]
theorem ZmM{H:Hp}{r:Str}{x:ZnB}{v:V}:Zst H r x v->Rep K H (Zrv r x) v
 |⟨p,q,e,h1,h2⟩=>by
  rw[e];exact .tup (SqT.of h1) (.cons (.flat rfl) (.cons (.flat rfl) (.cons (.flat rfl) (.cons (.flat rfl) (.cons (.tup (SqT.of h2) (.cons (.flat rfl) (.cons (.flat rfl) (.cons (.flat rfl) .nil)))) .nil)))))
theorem Zpo(r:Str)(x:ZnB):ZdN 2 (Zrv r x):=Zft fun d hd=>by
 simp only [List.mem_cons,List.mem_nil_iff,or_false] at hd
 rcases hd with rfl|rfl|rfl|rfl|rfl
 ·exact ZeK rfl
 ·exact ZeK rfl
 ·exact ZeK rfl
 ·exact ZeK rfl
 ·refine Zft fun d hd=> ?_;simp only [List.mem_cons,List.mem_nil_iff,or_false] at hd
  rcases hd with rfl|rfl|rfl<;>exact ZeK rfl
theorem Zl9{s:Hs}{day:Int}{H:Hp}:∀{zs:List Str} {us vs:List V},Paired (ZbY s day H) zs us->Paired (ZbY s day H) zs vs->∃ds:List Dt,Zf4 K H ds us/\Zf4 K H ds vs/\∀d∈ds,ZdN 2 d
 |_,_,_,.nil,.nil=>⟨[],.nil,.nil,fun _ h=>nomatch h⟩
 |_,_,_,.cons (a:=r) a t,.cons b u=>by
  obtain⟨ds,h1,h2,h3⟩:=Zl9 t u;obtain⟨x,x1,x2⟩:=Zpn a;obtain⟨x',y1,y2⟩:=Zpn b;obtain rfl:=x1.one y1;refine⟨Zrv r x::ds,.cons (ZmM x2) h1,.cons (ZmM y2) h2,fun d hd=> ?_⟩;rcases List.mem_cons.mp hd with rfl|hd
  ·exact Zpo r x
  ·exact h3 d hd
def Zqp(x:Tri):Dt:=.tup [.v (.str x.1),.v (.int x.2.1),.v (.str x.2.2)]
theorem Zi2{H:Hp}:∀{zs:List Tri} {us:List V},Paired (Ziy H) zs us->Zf4 K H (zs.map Zqp) us
 |_,_,.nil=> .nil
 |_,_,.cons ⟨p,e,h⟩ t=> .cons (by rw[e];exact .tup (SqT.of h) (.cons (.flat rfl) (.cons (.flat rfl) (.cons (.flat rfl) .nil)))) (Zi2 t)
theorem Zj8(zs:List Tri):ZdN 2 (.lst (zs.map Zqp)):=Zl5 fun d hd=>by
 obtain⟨y,_,rfl⟩:=List.mem_map.mp hd;refine Zft fun d hd=> ?_;simp only [List.mem_cons,List.mem_nil_iff,or_false] at hd
 rcases hd with rfl|rfl|rfl<;>exact ZeK rfl
theorem Jr.own{F:List Addr}{H H':Hp}(m:∀c u,c∉F->H c=some u->H' c=some u):Jr F H F H':=⟨m,fun _ h=> .inl h,fun _ h=>h⟩
theorem Zi3{s:Hs}{rs:List Sr}{i:Nat}{xs:List Str}(ok:ZdH s)(ri:Ym rs i xs s.ws):s.gs.length<=i:=by
 have sub:∀r∈s.gs.map (·.1),r∈xs:=fun r hr=>by
  obtain⟨g,hg,rfl⟩:=List.mem_map.mp hr;obtain⟨w,hw⟩:=List.exists_mem_of_ne_nil _ (ok.own g hg);obtain⟨h1,h2⟩:=List.mem_filter.mp hw;rcases ZjN w with ⟨_,no⟩|⟨y,yes⟩
  ·rw[no] at h2;cases h2
  ·rw[yes] at h2
   rw[<-of_decide_eq_true h2];exact ri.few w h1 y
 have:=ok.one.length_le_of_subset sub;rw[List.length_map] at this
 exact Nat.le_trans this ri.nl
theorem Zk8{s:Hs}{w:Rw}{i:Nat}{xs:List Str}(ok:ZdH s)(ri:Ym s.rs i xs (s.ws++[w]))(hi:i<=63):ZdH {s with ws:=s.ws++[w]}:=⟨ok.bk,ok.lr,ri.of hi,by have:=ri.len;show(s.ws++[w]).length<=400;omega,ok.one,fun g hg z=>by
 have z:YH (s.ws++[w]) g.1=[]:=z;rw[ZaL] at z
 exact ok.own g hg (List.append_eq_nil_iff.mp z).1⟩
theorem Zla(s:Hs)(day:Int)(zs:List Str):(Zfr s day zs).gs.map (·.1)=s.gs.map (·.1)++zs:=by
 show(s.gs++zs.map fun r=>(r,((s.runs.length+1:Nat):Int),day)).map (·.1)=_;rw[List.map_append,List.map_map]
 congr 1
 exact(List.map_congr_left fun _ _=>rfl).trans (List.map_id _)
theorem ZnC(s:Hs)(day:Int)(zs:List Str):(Zfr s day zs).wd.map (·.1)=s.wd.map (·.1)++zs:=by
 show(s.wd++zs.map fun r=>(r,Str.ofString "due")).map (·.1)=_;rw[List.map_append,List.map_map]
 congr 1
 exact(List.map_congr_left fun _ _=>rfl).trans (List.map_id _)
theorem Zpp{s:Hs}{day:Int}{zs:List Str}(ok:ZdH s)(nd:zs.Nodup)(iff:∀r,r∈zs↔r∉s.gs.map (·.1)/\Zcd s day r):ZdH (Zfr s day zs):=by
 refine⟨ok.bk,ok.lr,ok.rows,ok.few, ?_,fun g hg=> ?_⟩
 ·rw[Zla];exact List.nodup_append.mpr ⟨ok.one,nd,fun a ha b hb e=>((iff b).mp hb).1 (e▸ha)⟩
 ·rcases List.mem_append.mp (show g∈s.gs++zs.map fun r=>(r,((s.runs.length+1:Nat):Int),day) from hg) with h|h
  ·exact ok.own g h
  ·obtain⟨r,hr,rfl⟩:=List.mem_map.mp h;exact ZjT ((iff r).mp hr).2
theorem Zj9{s:Hs}{day:Int}{zs:List Str}(wo:ZcA s)(iff:∀r,r∈zs↔r∉s.gs.map (·.1)/\Zcd s day r):ZcA (Zfr s day zs):=by
 refine⟨by rw[Zla,ZnC,wo.keys],fun f hf=> ?_⟩;rcases List.mem_append.mp (show f∈s.wd++zs.map fun r=>(r,Str.ofString "due") from hf) with h|h
 ·obtain⟨n,d,hg,wi⟩:=wo.ok f h;exact⟨n,d,List.mem_append_left _ hg,wi⟩
 ·obtain⟨r,hr,rfl⟩:=List.mem_map.mp h;obtain⟨j,is,e⟩:=((iff r).mp hr).2;exact⟨_,day,List.mem_append_right _ (List.mem_map.mpr ⟨r,hr,rfl⟩),e▸is.word⟩
theorem Zeh{a b:TS}{D:Zje}{σ:L2.St}{H:Hp}(h:∀B:TS,(∀σ' H',b D σ' H'->B D σ' H')->Zpx a B D σ H):Zpx a b D σ H:=h b fun _ _ x=>x
theorem Zmf{a b:Rw}:¬Zhx a b->¬Zhx b a:=fun n ⟨c1,c2,c3⟩=>n ⟨by rw[c2];exact c1,c2.symm,c3.symm⟩
theorem Ym.sub{rs:List Sr}{i:Nat}{xs:List Str}{ws us vs:List Rw}(h:Ym rs i xs ws)(p:(us++vs).Perm ws):Ym rs i xs us:=by
 have m:∀w∈us,w∈ws:=fun w hw=>p.subset (List.mem_append_left _ hw);refine⟨?_, ?_,fun w hw=>h.named w (m w hw), ?_,h.nl,fun w hw=>h.few w (m w hw)⟩
 ·have:=p.length_eq;rw[List.length_append] at this
  have:=h.len;omega
 ·have:=(p.filter Xn).length_eq;rw[List.filter_append,List.length_append] at this
  have:=h.held;omega
 ·exact(List.pairwise_append.mp ((List.Perm.pairwise_iff (fun{_ _}=>Zmf) p.symm).mp h.one)).1
theorem Ym.part{rs:List Sr}{i:Nat}{xs:List Str}{ws us ps vs:List Rw}(h:Ym rs i xs ws)(p:(us++ps++vs).Perm ws)(n:Nat):Ym rs i xs (us++ps.take n):=by
 refine h.sub (vs:=ps.drop n++vs) ?_;rw[<-List.append_assoc,List.append_assoc us,List.take_append_drop];exact p
theorem Zpq{b t o h r k w b' t' o' h' r' k' w':Addr}(e:fH b t o h r k w=fH b' t' o' h' r' k' w'):b=b':=by
 have:=congrArg (fun f=>f.lookup ("book":Str)) e;simp only [Zfl] at this
 injection this with this
 injection this
theorem ZQ.book{cn ca cl ce C a:Addr}{H:Hp}{s:Hs}{F:List Addr}{dx b t o h r k w:Addr}:ZQ cn ca cl ce C H a s F->H a=some (.ins C dx (fH b t o h r k w))->∃u,H b=some u
 | .mk dx' b' t' o' h' r' k' w' os kvs ha ⟨bs,hb,_⟩ _ _ _ _ _ _ _ _ _ _ _,e=>by
  rw[ha] at e
  injection e with e
  injection e with _ _ e
  rw[<-Zpq e];exact⟨_,hb⟩
theorem ZQ.apart{cn ca cl ce C x y:Addr}{H H':Hp}{s s':Hs}{F F':List Addr}(g:ZQ cn ca cl ce C H x s F)(h:ZQ cn ca cl ce C H y s' F')(kp:Zgv F H H')(dis:∀c∈F,c∉F')(nb:∀dx b t o h r k w,H y=some (.ins C dx (fH b t o h r k w))->b∉F):ZQ cn ca cl ce C H' y s' F':=by
 obtain⟨dx,b,t,oo,hh,r,k,w,os,kvs,ha,hb,ht,ho,oa,hhh,hr,hk,pk,hw,eF,nd,nbb⟩:=h;have kt:∀c xs,H c=some (.tup xs)->H' c=some (.tup xs):=g.kinds.tup kp;have ki:∀c C dx fs,H c=some (.ins C dx fs)->H' c=some (.ins C dx fs):=g.kinds.ins kp;have nbL:=nb _ _ _ _ _ _ _ _ ha;have m:∀{c:Addr},c∈F'->∀u,H c=some u->H' c=some u:=fun hc u z=>kp _ _ (fun y=>dis _ y hc) z;have rw_:∀{p:Addr} {us:List Rw},p∈F'->YG H p us->YG H' p us:=fun hp ⟨ds,e,pp⟩=>⟨ds,m hp _ e,Xc kt pp⟩
 have mt:t∈F':=by rw[eF];simp
 have mo:oo∈F':=by rw[eF];simp
 have mh:hh∈F':=by rw[eF];simp
 have mr:r∈F':=by rw[eF];simp
 have mk:k∈F':=by rw[eF];simp
 have mw:w∈F':=by rw[eF];simp
 have mx:∀x∈os,x.2∈F':=fun x hx=>by
  rw[eF];simp only [List.mem_cons];exact .inr (.inr (.inr (.inr (.inr (.inr (List.mem_map_of_mem hx))))))
 exact⟨dx,b,t,oo,hh,r,k,w,os,kvs,ki _ _ _ _ ha,Zea kt ki (fun u z=>kp _ _ nbL z) hb,rw_ mt ht,m mo _ ho,⟨oa.one,oa.mem,fun x hx=>rw_ (mx x hx) (oa.at_ x hx)⟩,rw_ mh hhh,m mr _ hr,m mk _ hk,Jh kt pk,m mw _ hw,eF,nd,nbb⟩
structure Two (cn ca cl ce C x y:Addr) (s s':Hs) (F F':List Addr) (H:Hp):Prop where
 ho:ZQ cn ca cl ce C H x s F
 ho':ZQ cn ca cl ce C H y s' F'
 dis:∀c∈F,c∉F'
 nb:∀dx b t o h r k w,H x=some (.ins C dx (fH b t o h r k w))->b∉F'
 nb':∀dx b t o h r k w,H y=some (.ins C dx (fH b t o h r k w))->b∉F
theorem Two.swap{cn ca cl ce C x y:Addr}{s s':Hs}{F F':List Addr}{H:Hp}(h:Two cn ca cl ce C x y s s' F F' H):Two cn ca cl ce C y x s' s F' F H:=⟨h.ho',h.ho,fun c m n=>h.dis c n m,h.nb',h.nb⟩
theorem Two.step{cn ca cl ce C x y:Addr}{s s' s2:Hs}{F F' F2:List Addr}{H H':Hp}(h:Two cn ca cl ce C x y s s' F F' H)(kp:Zgv F H H')(sub:∀b∈F2,b∈F\/H b=none)(ho2:ZQ cn ca cl ce C H' x s2 F2):Two cn ca cl ce C x y s2 s' F2 F' H':=by
 refine⟨ho2,h.ho.apart h.ho' kp h.dis h.nb',fun c m=> ?_,fun dx b t o hh r k w e=> ?_,fun dx b t o hh r k w e=> ?_⟩
 ·rcases sub c m with z|z
  ·exact h.dis c z
  ·exact h.ho'.off z
 ·obtain⟨dx',b',t',o',h',r',k',w',ha,_⟩:=h.ho.ins;have ha':=h.ho.kinds.ins kp _ _ _ _ ha;rw[e] at ha'
  exact h.nb dx b t o hh r k w (by rw[ha,ha'])
 ·obtain⟨dx',b',t',o',h',r',k',w',ha,_⟩:=h.ho'.ins;have ha':=h.ho.kinds.ins kp _ _ _ _ ha;rw[e] at ha'
  have e2:H y=some (.ins C dx (fH b t o hh r k w)):=by rw[ha,ha']
  intro m;rcases sub b m with z|z
  ·exact h.nb' dx b t o hh r k w e2 z
  ·obtain⟨u,hu⟩:=h.ho'.book e2;rw[hu] at z
   cases z
theorem Two.same{cn ca cl ce C x y:Addr}{s s':Hs}{F F':List Addr}{H H':Hp}(h:Two cn ca cl ce C x y s s' F F' H)(sm:Zx H H'):Two cn ca cl ce C x y s s' F F' H':=h.step (fun c u _ e=>sm _ _ e) (fun _ z=> .inl z) (h.ho.same sm)
theorem Jr.left{F F2 F':List Addr}{H H':Hp}(x:Jr F H F2 H'):Jr (F++F') H (F2++F') H':=by
 refine⟨fun c u m e=>x.1 c u (fun z=>m (List.mem_append_left _ z)) e,fun b hb=> ?_,fun b hb=> ?_⟩
 ·rcases List.mem_append.mp hb with hb|hb
  ·exact(x.2.1 b hb).imp (fun z=>List.mem_append_left _ z) id
  ·exact .inl (List.mem_append_right _ hb)
 ·rcases List.mem_append.mp hb with hb|hb
  ·exact List.mem_append_left _ (x.2.2 b hb)
  ·exact List.mem_append_right _ hb
theorem Jr.right{F F' F2:List Addr}{H H':Hp}(x:Jr F' H F2 H'):Jr (F++F') H (F++F2) H':=by
 refine⟨fun c u m e=>x.1 c u (fun z=>m (List.mem_append_right _ z)) e,fun b hb=> ?_,fun b hb=> ?_⟩
 ·rcases List.mem_append.mp hb with hb|hb
  ·exact .inl (List.mem_append_left _ hb)
  ·exact(x.2.1 b hb).imp (fun z=>List.mem_append_right _ z) id
 ·rcases List.mem_append.mp hb with hb|hb
  ·exact List.mem_append_left _ hb
  ·exact List.mem_append_right _ (x.2.2 b hb)
theorem Zau.turn{rs:List Sr}{ws us:List Rw}{rec:Str}{day:Int}{z:Str}(bk:JD [] rs)(ro:ZcY rs ws)(h:Yc ws us)(is:Zau rs ws rec day z):Zau rs us rec day z:=by
 have hu:=h.up day;refine⟨fun e=>is.no ((hu.put rec).trans e),fun e=> ?_⟩;obtain⟨y,r0,t,top,ow,ht,e4⟩:=is.yes ((hu.put rec).trans e);have g:=Zi1 bk (ro.ser rec y (Zcx top.1)) ow ht;exact⟨y,r0,t,hu.top top,ow,ht,by rw[e4,Za0 fun kd hk=>hu.life (ZeL g kd hk),(hu.holds _ _).length_eq]⟩
structure ZeM (s s':Hs):Prop where
 rs:s'.rs=s.rs
 ws:s'.ws.Perm s.ws
 gs:s'.gs=s.gs
 runs:s'.runs=s.runs
theorem ZeM.swap{s s':Hs}(h:ZeM s s'):ZeM s' s:=⟨h.rs.symm,h.ws.symm,h.gs.symm,h.runs.symm⟩
theorem ZeM.due{s s':Hs}(p:ZeM s s')(ok:ZdH s){day:Int}{r:Str}:Zcd s day r->Zcd s' day r
 |⟨j,is,e⟩=>⟨j,by rw[p.rs];exact is.turn ok.bk ok.rows (Yc.of_perm p.ws.symm),e⟩
theorem ZeM.outs{s s':Hs}(p:ZeM s s')(ok:ZdH s){day:Int}{H:Hp}:∀{zs:List Str} {us:List V},Paired (ZbY s day H) zs us->Paired (ZbY s' day H) zs us
 |_,_,.nil=> .nil
 |_,_,.cons ⟨q,j,v5,e,h,is,w,wy⟩ t=> .cons ⟨q,j,v5,e,h,by rw[p.rs];exact is.turn ok.bk ok.rows (Yc.of_perm p.ws.symm),w,by rw[p.rs];exact wy.turn ok.bk ok.rows (Yc.of_perm p.ws.symm)⟩ (ZeM.outs p ok t)
theorem ZeM.reg{s s':Hs}(p:ZeM s s')(ok:ZdH s){x:Tri}:Zpk s x->Zpk s' x
 |⟨day,hg,wi,ne⟩=>⟨day,by rw[p.gs];exact hg,by rw[p.rs];exact wi.turn ok.bk ok.rows (Yc.of_perm p.ws.symm),ne⟩
theorem ZeM.ran{s s':Hs}(p:ZeM s s')(day:Int)(zs:List Str):ZeM (Zfr s day zs) (Zfr s' day zs):=by
 refine⟨p.rs,p.ws, ?_, ?_⟩
 ·show s'.gs++zs.map (fun r=>(r,((s'.runs.length+1:Nat):Int),day))=s.gs++zs.map (fun r=>(r,((s.runs.length+1:Nat):Int),day));rw[p.gs,p.runs]
 ·show s'.runs++[day]=s.runs++[day];rw[p.runs]
theorem Zqq(xs:List V){b e:Nat}(h:e<=xs.length)(g:b<=e):ZaB xs (some (b:Int)) (some (e:Int))=(xs.drop b).take (e-b):=by
 unfold ZaB;rw[HT.ZgH,HT.ZgH,Nat.min_eq_left h,Nat.min_eq_left (Nat.le_trans g h)]
theorem Zqr{ds:List Int}(h:ds.Pairwise (· <= ·)){k:Nat}{d e:Int}(hd:(ds.take k).getLast? =some d)(he:ds[k]? =some e):d<=e:=by
 have m:=List.mem_of_getLast? hd;have s:=h.sublist (List.take_sublist (k+1) ds);rw[List.take_add_one,he] at s
 exact(List.pairwise_append.mp s).2.2 d m e (List.mem_singleton_self _)
theorem Zqs{α:Type}(ws:List α){b e:Nat}(g:b<=e):ws.take b++(ws.drop b).take (e-b)=ws.take e:=by
 rw[show e=b+(e-b) by omega,List.take_add,Nat.add_sub_cancel_left]
theorem Zja{α β:Type}{R:α->β->Prop}:∀{as:List α} {bs:List β} (m:Nat),Paired R as bs->Paired R (as.drop m) (bs.drop m)
 |_,_,_,.nil=>by simp only [List.drop_nil];exact .nil
 |_,_,0,.cons h t=> .cons h t
 |_,_,m+1,.cons _ t=>Zja m t
theorem Zjb{α β:Type}{R:α->β->Prop}:∀{as:List α} {bs:List β} (m:Nat),Paired R as bs->Paired R (as.take m) (bs.take m)
 |_,_,_,.nil=>by simp only [List.take_nil];exact .nil
 |_,_,0,.cons _ _=> .nil
 |_,_,m+1,.cons h t=> .cons h (Zjb m t)
theorem Zlb{s:Hs}{rs:List Sr}{i:Nat}{xs:List Str}(ok:ZdH s)(wo:ZcA s)(ri:Ym rs i xs s.ws):s.wd.length<=i:=by
 have:=congrArg List.length wo.keys;rw[List.length_map,List.length_map] at this
 rw[this];exact Zi3 ok ri
theorem Zqt{S:List Int}{n:Nat}{e1 e2 e3:Int}(p:S.Perm [e1,e2,e3])(so:S.Pairwise (· <= ·))(h1:0<=e1/\e1<=(n:Int))(h2:0<=e2/\e2<=(n:Int))(h3:0<=e3/\e3<=(n:Int)):∃es:List Nat,S.map V.int++[V.int (n:Int)]=es.map (fun k:Nat=>V.int (k:Int))/\es.length=4/\es.Pairwise (· <= ·)/\(∀e∈es,e<=n)/\es[3]? =some n:=by
 have all:∀e∈S,0<=e/\e<=(n:Int):=fun e he=>by
  have:=p.subset he;simp only [List.mem_cons,List.mem_nil_iff,or_false] at this
  rcases this with rfl|rfl|rfl
  ·exact h1
  ·exact h2
  ·exact h3
 have l:=p.length_eq;have l:S.length=3:=l;refine⟨S.map Int.toNat++[n], ?_,by rw[List.length_append,List.length_map,l];rfl, ?_,fun e he=> ?_, ?_⟩
 ·rw[List.map_append,List.map_map]
  congr 1
  exact List.map_congr_left fun e he=>congrArg V.int (Int.toNat_of_nonneg (all e he).1).symm
 ·refine List.pairwise_append.mpr ⟨List.pairwise_map.mpr (so.imp fun{a b} h=>Int.toNat_le_toNat h),List.pairwise_singleton ..,fun a ha b hb=> ?_⟩;obtain⟨e,he,rfl⟩:=List.mem_map.mp ha;rw[List.mem_singleton.mp hb];have:=all e he;omega
 ·rcases List.mem_append.mp he with he|he
  ·obtain⟨e',he',rfl⟩:=List.mem_map.mp he;have:=all e' he';omega
  ·rw[List.mem_singleton.mp he];exact Nat.le_refl _
 ·rw[List.getElem?_append_right (by rw[List.length_map,l];exact Nat.le_refl _),List.length_map,l]
  rfl
theorem Zrw{es:List Nat}(h:es.Pairwise (· <= ·)){i:Nat}(hi:i<es.length):(0::es).getD i 0<=es[i]:=by
 cases i with
 |zero=>exact Nat.zero_le _
 |succ i=>
  have:=List.pairwise_iff_getElem.mp h i (i+1) (by omega) hi (by omega);show es.getD i 0<=es[i+1];rw[List.getD_eq_getElem?_getD,List.getElem?_eq_getElem (by omega)];exact this
theorem Zrx{es:List Nat}{i:Nat}(hi:i<es.length):atI (es.map fun k:Nat=>V.int (k:Int)) (0+(i:Int))=some (.int (es[i]:Int)):=by
 unfold atI ixN;rw[if_pos (by omega),if_pos (by rw[List.length_map];omega)]
 show(es.map fun k:Nat=>V.int (k:Int))[(0+(i:Int)).toNat]? =_;rw[show(0+(i:Int)).toNat=i by omega,List.getElem?_map,List.getElem?_eq_getElem hi]
 rfl
theorem Zry{es:List Int}{i:Nat}(hi:i<es.length):atI (es.map V.int) (0+(i:Int))=some (.int es[i]):=by
 unfold atI ixN;rw[if_pos (by omega),if_pos (by rw[List.length_map];omega)]
 show(es.map V.int)[(0+(i:Int)).toNat]? =_;rw[show(0+(i:Int)).toNat=i by omega,List.getElem?_map,List.getElem?_eq_getElem hi]
 rfl
structure Pr (cn ca cl ce C x y:Addr) (rs:List Sr) (ws:List Rw) (b:Nat) (rd:List Int) (s s':Hs) (F F':List Addr) (H:Hp):Prop where
 two:Two cn ca cl ce C x y s s' F F' H
 ok:ZdH s
 ok':ZdH s'
 wo:ZcA s
 wo':ZcA s'
 pe:ZeM s s'
 rs_:s.rs=rs
 ws_:s.ws=ws.take b
 rd_:s.runs=rd
structure Zlc (s s2:Hs) (us:List Rw):Prop where
 ok:ZdH s2
 wo:ZcA s2
 rs:s2.rs=s.rs
 ws:s2.ws=s.ws++us
 gs:s2.gs=s.gs
 runs:s2.runs=s.runs
theorem Zlc.more{s s2:Hs}{us:List Rw}{w:Rw}{wd:List (Str×Str)}{i:Nat}{xs:List Str}(h:Zlc s s2 us)(ri:Ym s2.rs i xs (s2.ws++[w]))(hi:i<=63)(wo:ZcA {s2 with ws:=s2.ws++[w],wd:=wd}):Zlc s {s2 with ws:=s2.ws++[w],wd:=wd} (us++[w]):=by
 have z:=Zk8 h.ok ri hi;refine⟨⟨z.bk,z.lr,z.rows,z.few,z.one,z.own⟩,wo,h.rs, ?_,h.gs,h.runs⟩;show s2.ws++[w]=_;rw[h.ws,List.append_assoc]
theorem Zpr(w u:Rw):Zb6 2 (rwD w) (rwD u)=true:=by
 cases w<;>cases u<;>rfl
theorem Zps(w:Rw):Xu 2 (rwD w) (rwD w)=true:=by
 have:ZdN 2 (rwD w):=Zft fun d hd=>by
  obtain⟨x,hx,rfl⟩:=List.mem_map.mp hd;exact ZeK (Zk7 w x hx)
 exact this.1
def Zrz(H:Hp)(zs:List (Addr×Rw)):Prop:=∀z∈zs,ZbP H z.1 z.2
theorem ZqL{H:Hp}:∀{ds:List Addr} {ws:List Rw},Paired (ZbP H) ds ws->∃zs:List (Addr×Rw),ds=zs.map (·.1)/\ws=zs.map (·.2)/\Zrz H zs
 |_,_,.nil=>⟨[],rfl,rfl,fun z h=>nomatch h⟩
 |_,_,.cons (a:=a) (b:=w) h t=>by
  obtain⟨zs,e1,e2,hz⟩:=ZqL t;refine⟨(a,w)::zs,by rw[e1];rfl,by rw[e2];rfl,fun z hm=> ?_⟩
  cases hm with
  |head=>exact h
  |tail _ m=>exact hz z m
theorem ZqM{H:Hp}:∀{zs:List (Addr×Rw)},Zrz H zs->Paired (ZbP H) (zs.map (·.1)) (zs.map (·.2))
 |[],_=> .nil
 |z::zs,h=> .cons (h z (List.mem_cons_self ..)) (ZqM fun y hy=>h y (List.mem_cons_of_mem _ hy))
def rfs(zs:List (Addr×Rw)):List V:=zs.map fun z=>V.ref z.1
theorem Zpt(zs:List (Addr×Rw)):(zs.map (·.1)).map V.ref=rfs zs:=by
 rw[List.map_map]
 rfl
theorem Zpu{H H':Hp}{p:Addr}{zs us:List (Addr×Rw)}(s:Zx H H')(h:Zrz H zs)(sub:us.Perm zs)(e:H' p=some (.lst (rfs us))):YG H' p (us.map (·.2)):=
 ⟨us.map (·.1),by rw[Zpt];exact e,ZqM fun z hz=>s _ _ (h z (sub.mem_iff.mp hz))⟩
theorem Zld(xs:List V)(k:Nat):ZaB xs (some (k:Int)) none=xs.drop k:=by
 unfold ZaB;rw[HT.Zkn,HT.ZgH,List.take_of_length_le (by rw[List.length_drop];omega)]
 by_cases h:k<=xs.length
 ·rw[Nat.min_eq_left h]
 ·have lt:xs.length<=k:=Nat.le_of_not_le h;rw[Nat.min_eq_right lt,List.drop_length,List.drop_of_length_le lt]
theorem Zpv(xs:List V)(k:Nat):ZaB xs none (some (k:Int))=xs.take k:=by
 unfold ZaB;rw[HT.ZgH,HT.Zkn,List.drop_zero,Nat.sub_zero]
 by_cases h:k<=xs.length
 ·rw[Nat.min_eq_left h]
 ·have lt:xs.length<=k:=Nat.le_of_not_le h;rw[Nat.min_eq_right lt,List.take_length,List.take_of_length_le lt]
def ZdO(r:Int)(zs:List (Addr×Rw)):List (Addr×Rw):=(List.range zs.length).flatMap fun i:Nat=>if(i:Int)%2=r then(zs[i]?).toList else[]
theorem Zle(r:Int)(zs:List (Addr×Rw)):((List.range zs.length).flatMap fun i:Nat=>if(i:Int)%2=r then((zs[i]?).map fun z=>V.ref z.1).toList else[])=rfs (ZdO r zs):=by
 unfold rfs ZdO;rw[List.map_flatMap]
 congr 1
 funext i
 by_cases h:(i:Int)%2=r
 ·rw[if_pos h,if_pos h];cases zs[i]? <;>rfl
 ·rw[if_neg h,if_neg h]
  rfl
theorem Zjc(r:Int)(zs:List (Addr×Rw)):∀n,((List.range n).flatMap fun i:Nat=>if(i:Int)%2=r then(zs[i]?).toList else[]).length<=n:=fun n=>by
 induction n with
 |zero=>exact Nat.le_refl _
 |succ n ih=>
  rw[List.range_succ,List.flatMap_append,List.length_append,List.flatMap_singleton];have:(if(n:Int)%2=r then(zs[n]?).toList else[]).length<=1:=by
   split
   ·cases zs[n]? <;>simp
   ·simp
  omega
theorem Zmg(zs:List (Addr×Rw)):(ZdO 1 zs++ZdO 0 zs).Perm zs:=by
 unfold ZdO;have go:∀n,n<=zs.length->(((List.range n).flatMap fun i:Nat=>if(i:Int)%2=1 then(zs[i]?).toList else[])++((List.range n).flatMap fun i:Nat=>if(i:Int)%2=0 then(zs[i]?).toList else[])).Perm (zs.take n):=by
  intro n
  induction n with
  |zero=>intro _;simp
  |succ n ih=>
   intro hn;have hn':n<zs.length:=by omega
   rw[List.range_succ,List.flatMap_append,List.flatMap_append,List.flatMap_singleton,List.flatMap_singleton,List.take_add_one,List.getElem?_eq_getElem hn'];have e:(n:Int)%2=0\/(n:Int)%2=1:=by omega
   show List.Perm ((_++_)++(_++_)) (_++[zs[n]]);rcases e with e|e
   ·rw[e,if_neg (by decide),if_pos rfl,List.append_nil,<-List.append_assoc];exact(ih (by omega)).append_right _
   ·rw[e,if_pos rfl,if_neg (by decide),List.append_nil];refine List.Perm.trans ?_ ((ih (by omega)).append_right _);rw[List.append_assoc,List.append_assoc];exact List.Perm.append_left _ List.perm_append_comm
 have h:=go zs.length (Nat.le_refl _)
 rwa [List.take_length] at h
theorem Zek:ZC ["_law_rows","_law_by","_law_at"] ["_law_rows","_law_by"] (Zu ZcQ):=⟨rfl,rfl,rfl,by decide+kernel,rfl,by decide+kernel,by decide+kernel⟩
theorem ZiA{f:Addr}{fd:FuncData}(F:Fun K "_law_turned" "_law_turned" ZcQ f fd)(T:Txt K mg Zg Zd Ze Zb Zk):Yr P w K mg base CX0 1 f fd ["_law_rows","_law_by"] Zca:=by
 refine F.ok Zek (fun vs H Q E h=> ?_) (fun cdv A outer s H vs Q E hr h=> ?_)
 ·obtain⟨p,ws,b,rfl,_⟩:=h
  rfl
 ·obtain⟨p,ws,b,rfl,⟨ds,hp,pr⟩,lw,q⟩:=h;have l5:=Xl;obtain⟨zs,rfl,rfl,hz⟩:=ZqL pr;rw[Zpt] at hp
  rw[List.length_map] at lw
  have lr:(rfs zs).length=zs.length:=List.length_map ..;refine⟨_,(Zi (Zv (i:=2) Zek.nd rfl (Or.inl rfl) (Zr ZP (Zr ZZ (pv 1) Zh) (Zr YW (ZM YJ (by rfl) T.z_len Jk (Za (pv 0) Zj)) Zh))) (Zi (Ye (Zt Yo (Zr ZP (pv 1) Zh) Zh (Zy _)) (Zo (Zw (ZlI rfl (by rfl) T.z_list (by rfl) T.z_reversed (pv 0)))) ZF) (Zi (Ye (Zt Yo (Zr ZP (pv 1) Zh) Zh (Zy _)) (Zo (Zw (Zr ZcK (Zcn ZgJ (pv 0) (ZbQ (pv 2)) ZgI) (Zcn ZgJ (pv 0) ZgI (ZbQ (pv 2)))))) ZF) (Zo (Zw (Zr ZcK (Je ["_law_k"] [("_law_rows",0)] rfl (Zal rfl T.z_range (Za (ZM YJ (by rfl) T.z_len Jk (Za (pv 0) Zj)) Zj)) (by rfl) (by exact⟨rfl,trivial⟩) (by rfl) (by exact⟨⟨rfl,rfl,rfl⟩,trivial⟩) (fun _ _ _ _=>(ZK (i:=0) (show(nmY ["_law_k"] [("_law_rows",0)]).Nodup by decide+kernel) rfl (Or.inl rfl))) (fun _ _ _ _=>(JM (Zt Yo (Zr ZP (pv 0) Zh) Zh (Zy _)))) (fun _ _ _ _=>(Zz (Zky (K:=K) rfl) (pv 1) (pv 0) (fun _ _=>rfl)))) (Je ["_law_k"] [("_law_rows",0)] rfl (Zal rfl T.z_range (Za (ZM YJ (by rfl) T.z_len Jk (Za (pv 0) Zj)) Zj)) (by rfl) (by exact⟨rfl,trivial⟩) (by rfl) (by exact⟨⟨rfl,rfl,rfl⟩,trivial⟩) (fun _ _ _ _=>(ZK (i:=0) (show(nmY ["_law_k"] [("_law_rows",0)]).Nodup by decide+kernel) rfl (Or.inl rfl))) (fun _ _ _ _=>(JM (Zt Yo (Zr ZP (pv 0) Zh) Zh (Zy _)))) (fun _ _ _ _=>(Zz (Zky (K:=K) rfl) (pv 1) (pv 0) (fun _ _=>rfl)))))))))), ?_⟩
  have pos:(0:Int)<(((rfs zs).length:Nat):Int)+1:=by omega
  have fin:∀(us:List (Addr×Rw)) (a:Addr) (H1:Hp),us.Perm zs->Zx H H1->H a=none->H1 a=some (.lst (rfs us))->Q (.ref a) H1:=fun us a H1 pm s1 n e=>q a _ H1 n s1 (Zpu s1 hz pm e) (pm.map _);obtain⟨k,ek⟩:∃k:Nat,b/3%((((rfs zs).length:Nat):Int)+1)=(k:Int):=⟨(b/3%((((rfs zs).length:Nat):Int)+1)).toNat,(Int.toNat_of_nonneg (Int.emod_nonneg _ (Int.ne_of_gt pos))).symm⟩
  refine(vI rfl ⟨by decide,by decide⟩ ⟨_,rfl,_,_,rfl,.inl ⟨_,SqL.of hp,rfl⟩,_,_,rfl,rfl,_,_,rfl,rfl,pos, ?_⟩);refine(vI rfl (by show(0:Int)<3;decide) ⟨rfl,_,rfl,YZ (fun _=> ?_) (fun _=> ?_)⟩)
  ·refine⟨_,rfl,p,_,rfl,SqL.of hp,fun l hl=>fin zs.reverse l _ (List.reverse_perm _) (Zn hl) hl ?_⟩;rw[Zc];unfold rfs;rw[List.map_reverse]
  refine(vI rfl (by show(0:Int)<3;decide) ⟨rfl,_,rfl,YZ (fun _=> ?_) (fun _=> ?_)⟩)
  ·refine⟨_,rfl,_,rfl,(k:Int),congrArg V.int ek,p,_,rfl,SqL.of hp,fun a1 h1=> ?_⟩;refine⟨_,rfl,_,rfl,(k:Int),congrArg V.int ek,p,_,rfl,SqL.of (Zn h1 _ _ hp),fun a2 h2=> ?_⟩;have s2:=(Zn h1 (o:=.lst (ZaB (rfs zs) (some (k:Int)) none))).trans (Zn h2 (o:=.lst (ZaB (rfs zs) none (some (k:Int)))));refine⟨a1,a2,_,_,rfl,rfl,SqL.of (Zn h2 _ _ Zc),SqL.of Zc, ?_,fun a3 h3=>fin (zs.drop k++zs.take k) a3 _ ?_ (s2.trans (Zn h3)) (YK s2 h3) ?_⟩
   ·rw[Zld,Zpv,List.length_drop,List.length_take];omega
   ·exact List.Perm.trans List.perm_append_comm (by rw[List.take_append_drop])
   ·rw[Zc,Zld,Zpv];unfold rfs;rw[List.map_append,List.map_drop,List.map_take]
  ·have half:∀(r:Int),(∀i:Nat,(if(i:Int)%2=r then((zs[i]?).map fun z=>V.ref z.1).toList else[]:List V).length<=1):=fun r i=>by
    split
    ·cases zs[i]? <;>simp
    ·simp
   refine⟨_,rfl,_,_,rfl,.inl ⟨_,SqL.of hp,rfl⟩,_,rfl,by omega,by omega,XC zs.length (fun i:Nat=>if(i:Int)%2=1 then((zs[i]?).map fun z=>V.ref z.1).toList else[]) (by omega) (half 1) (fun j H3 s3 lt=> ?_) (fun H3 s3=> ?_) (fun j y H3 H4 s3 lt yl RT RF rt rf=> ?_) fun D H3 hD s3 d3=> ?_⟩
   ·show j<((((rfs zs).length:Nat):Int)).toNat;omega
   ·show((((rfs zs).length:Nat):Int)).toNat<=zs.length;omega
   ·obtain⟨rfl,rfl⟩:=yl;have ej:(zs[j]?)=some zs[j]:=List.getElem?_eq_getElem lt;have iy:atI (rfs zs) (0+(j:Int))=some (.ref zs[j].1):=by
     unfold atI ixN;rw[if_pos (by omega),if_pos (by omega)];show(rfs zs)[(0+(j:Int)).toNat]? =_;rw[show(0+(j:Int)).toNat=j by omega];unfold rfs;rw[List.getElem?_map,ej]
     rfl
    refine⟨⟨rfl,trivial⟩,vI rfl (by show(0:Int)<2;decide) ⟨rfl,_,rfl,YZ (fun e=> ?_) (fun e=>rf _ ?_ (Zx.refl _))⟩⟩
    ·refine⟨_,rfl,_,rfl,p,_,_,_,rfl,rfl,SqL.of (s3 _ _ hp),iy,rt _ _ ?_ (Zx.refl _)⟩;have e:(j:Int)%2=1:=by
      have:=of_decide_eq_true e
      injection this with this
      omega
     rw[if_pos e,ej]
     rfl
    ·refine if_neg fun z=>e (decide_eq_true ?_);rw[show 0+(j:Int)=(j:Int) by omega,z]
   rw[Zle] at d3
   have hp3:=s3 _ _ hp;refine⟨_,rfl,_,_,rfl,.inl ⟨_,SqL.of hp3,rfl⟩,_,rfl,by omega,by omega,XC zs.length (fun i:Nat=>if(i:Int)%2=0 then((zs[i]?).map fun z=>V.ref z.1).toList else[]) (by omega) (half 0) (fun j H5 s5 lt=> ?_) (fun H5 s5=> ?_) (fun j y H5 H6 s5 lt yl RT RF rt rf=> ?_) fun D2 H5 hD2 s5 d5=> ?_⟩
   ·show j<((((rfs zs).length:Nat):Int)).toNat;omega
   ·show((((rfs zs).length:Nat):Int)).toNat<=zs.length;omega
   ·obtain⟨rfl,rfl⟩:=yl;have ej:(zs[j]?)=some zs[j]:=List.getElem?_eq_getElem lt;have iy:atI (rfs zs) (0+(j:Int))=some (.ref zs[j].1):=by
     unfold atI ixN;rw[if_pos (by omega),if_pos (by omega)];show(rfs zs)[(0+(j:Int)).toNat]? =_;rw[show(0+(j:Int)).toNat=j by omega];unfold rfs;rw[List.getElem?_map,ej]
     rfl
    refine⟨⟨rfl,trivial⟩,vI rfl (by show(0:Int)<2;decide) ⟨rfl,_,rfl,YZ (fun e=> ?_) (fun e=>rf _ ?_ (Zx.refl _))⟩⟩
    ·refine⟨_,rfl,_,rfl,p,_,_,_,rfl,rfl,SqL.of (s5 _ _ hp3),iy,rt _ _ ?_ (Zx.refl _)⟩;have e:(j:Int)%2=0:=by
      have:=of_decide_eq_true e
      injection this with this
      omega
     rw[if_pos e,ej]
     rfl
    ·refine if_neg fun z=>e (decide_eq_true ?_);rw[show 0+(j:Int)=(j:Int) by omega,z]
   rw[Zle] at d5
   have l1:=Zjc 1 zs zs.length;have l2:=Zjc 0 zs zs.length;refine⟨D,D2,_,_,rfl,rfl,SqL.of (s5 _ _ d3),SqL.of d5, ?_,fun a3 h3=>fin (ZdO 1 zs++ZdO 0 zs) a3 _ (Zmg zs) (s3.trans (s5.trans (Zn h3))) (YK (s3.trans s5) h3) ?_⟩
   ·unfold rfs ZdO;rw[List.length_map,List.length_map];omega
   ·rw[Zc];unfold rfs;rw[List.map_append]
theorem ZnD{α β:Type}{f:α->β}:∀{zs l:List β},zs.Perm l->∀T:List α,l=T.map f->∃T':List α,T'.Perm T/\zs=T'.map f:=by
 intro zs l h
 induction h with
 |nil=>
  intro T e;cases T with
  |nil=>exact⟨[],List.Perm.refl _,rfl⟩
  |cons _ _=>cases e
 |cons x _ ih=>
  intro T e;cases T with
  |nil=>cases e
  |cons t T=>
   injection e with e1 e2
   obtain⟨T',p,q⟩:=ih T e2;exact⟨t::T',p.cons t,by rw[q,e1];rfl⟩
 |swap x y l=>
  intro T e;cases T with
  |nil=>cases e
  |cons t T=>
   cases T with
   |nil=>injection e with e1 e2;cases e2
   |cons u T=>
    injection e with e1 e2
    injection e2 with e2 e3
    exact⟨u::t::T,List.Perm.swap ..,by rw[e1,e2,e3];rfl⟩
 |trans _ _ ih1 ih2=>
  intro T e;obtain⟨T1,p1,q1⟩:=ih2 T e;obtain⟨T2,p2,q2⟩:=ih1 T1 q1;exact⟨T2,p2.trans p1,q2⟩
theorem Zi4{H:Hp}:∀ns:List Int,Paired (Zrl H) ns (ns.map V.int)
 |[]=> .nil
 |n::ns=> .cons rfl (Zi4 ns)
theorem Zlf:∀ns:List Int,(ns.map V.int).zip ns=ns.map fun n=>(V.int n,n)
 |[]=>rfl
 |n::ns=>congrArg (List.cons _) (Zlf ns)
theorem Zgm{ns:List Int}{zs:List (V×Int)}(p:zs.Perm ((ns.map V.int).zip ns))(o:zs.Pairwise fun a b=>ZaE b.2 a.2=false):∃S:List Int,S.Perm ns/\zs.map (·.1)=S.map V.int/\S.Pairwise (· <= ·):=by
 obtain⟨S,ps,rfl⟩:=ZnD p _ (Zlf ns);refine⟨S,ps,by rw[List.map_map];rfl, ?_⟩
 rw[List.pairwise_map] at o
 exact o.imp fun{a b} h=>Int.not_lt.mp fun z=>by
  have h:decide (b<a)=false:=h;rw[decide_eq_true z] at h
  cases h
theorem ZdP:ZC ["_law_cells","_law_far","_law_days_here","_law_cell"] ["_law_cells","_law_far"] (Zu Zev):=⟨rfl,rfl,rfl,by decide+kernel,rfl,by decide+kernel,by decide+kernel⟩
theorem Zlg{f:Addr}{fd:FuncData}(F:Fun K "_law_days" "_law_days" Zev f fd)(T:Txt K mg Zg Zd Ze Zb Zk):Yr P w K mg base CX0 1 f fd ["_law_cells","_law_far"] ZdC:=by
 refine F.ok ZdP (fun vs H Q E h=> ?_) (fun cdv A outer s H vs Q E hr h=> ?_)
 ·obtain⟨a,ns,far,rfl,_⟩:=h
  rfl
 ·obtain⟨a,ns,far,rfl,ha,ln,q⟩:=h;have l5:=Xl;have hu3:=ZlF hr;refine⟨_,(Zi (Zv (i:=2) ZdP.nd rfl (Or.inl rfl) (Yl Zj)) (Zi (XQ PassesOwn.never rfl (Yy (pv 0)) (ZK (i:=3) ZdP.nd rfl (Or.inl rfl)) (Zo (Xf (ZaC PySem.F.plainAttrs_list PySem.F.slot_list_append PySem.F.type_list_append Yz (pv 2) (Za (Zr YW (pv 1) (Zr ZP (Zr Zax (ZM Zh2 (by rfl) T.z_abs Zlz (Za (pv 3) Zj)) Zh) Zh)) Zj))))) (Zo (Zw (ZM (ZcN ZkA hu3) (by rfl) T.z_sorted Zbh (Za (pv 2) Zj)))))), ?_⟩
  refine⟨Nat.zero_le _,fun R hR=>⟨_,rfl,a,rfl,⟨_,SqL.of (Zn hR _ _ ha)⟩,Xm (xs:=ns.map V.int) (fun i σ H'=>∃(v3:Option V) (ys:List Int),σ=[some (.ref a),some (.int far),some (.ref R),v3]/\H' R=some (.lst (ys.map V.int))/\ys.length=i/\∀c u,c≠R->H c=some u->H' c=some u) ?_ ?_ ?_ ?_⟩⟩
  ·exact⟨none,[],rfl,Zc,rfl,fun c u n e=>by rw[Zm n];exact e⟩
  ·rintro i σ H1 _ ⟨v3,ys,rfl,_,_,fr⟩;exact SqL.of (fr _ _ (Zf ha hR) ha)
  ·rintro i x σ H1 hx ⟨v3,ys,rfl,hR1,ly,fr⟩;have hi2:i<ns.length:=by
    have:=(List.getElem?_eq_some_iff.mp hx).1
    rwa [List.length_map] at this
   obtain⟨c,rfl⟩:∃c,x=V.int c:=by
    rw[List.getElem?_map] at hx
    cases q:ns[i]? with
    |none=>rw[q] at hx;cases hx
    |some c=>rw[q] at hx;cases hx;exact⟨c,rfl⟩
   refine⟨_,rfl,.inl ⟨rfl,_,SqL.of hR1⟩,_,rfl,_,rfl,_,rfl,_,_,rfl,rfl,IntMulOk.of_right (intBits_le_64 (by decide) (by decide)),_,_,rfl,rfl,(by show(0:Int)<5000;decide),_,_,rfl,rfl,R,_,_,rfl,rfl,hR1,by rw[List.length_map];omega, ?_⟩
   exact⟨_,ys++[_],rfl,by rw[Zc,List.map_append];rfl,by rw[List.length_append,ly];rfl,fun c u n e=>by rw[Zm n];exact fr c u n e⟩
  ·rintro σ H1 ⟨v3,ys,rfl,hR1,ly,fr⟩;rw[List.length_map] at ly
   refine⟨_,rfl,R,_,ys,rfl,SqL.of hR1,by rw[List.length_map];omega,Zi4 ys,fun zs pz oz D hD=> ?_⟩
   obtain⟨S,ps,es,so⟩:=Zgm pz oz;refine q D S _ ?_ ?_ (by rw[Zc,es]) (by rw[ps.length_eq,ly]) so
   ·cases e:H D with
    |none=>rfl
    |some u=>
     by_cases z:D=R
     ·rw[z,hR1] at hD;cases hD
     ·rw[fr D u z e] at hD;cases hD
   ·exact fun c u e=>Zn hD _ _ (fr c u (Zf e hR) e)
theorem Js:ZC ["_law_script","_law_names_by","_law_by","_law_book","_law_far","_law_rows","_law_days_here","_law_ends","_law_one","_law_other","_law_begin","_law_k","_law_part","_law_row"] ["_law_script"] (Zu Zf8):=⟨rfl,rfl,rfl,by decide+kernel,rfl,by decide+kernel,by decide+kernel⟩
theorem ZrA{f:Addr}{fd:FuncData}(F:Fun K "law" "law" Zf8 f fd)(T:Txt K mg Zg Zd Ze Zb Zk)(ZgV:Zju P w K mg base CX0 1 "House" Zk ["self","book"] (Zcb Zk))(Zcf:Cal P w K mg base CX0 3 "_law_book_by" ["_law_script","_law_names_by"] (ZbB K))(YS:Cal P w K mg base CX0 1 "_law_cell_at" ["_law_script","_law_k"] (Za9 K))(ZeN:Cal P w K mg base CX0 1 "_law_days" ["_law_cells","_law_far"] ZdC)(Zcg:Cal P w K mg base CX0 4 "_law_rows_by" ["_law_cells","_law_names_by","_law_far","_law_book"] ZbC)(ZdQ:Cal P w K mg base CX0 17 "_law_terms" ["_law_book"] (ZcZ Zg Zd Ze Zb))(Zdb:Cal P w K mg base CX0 1 "_law_turned" ["_law_rows","_law_by"] Zca)(Zk9:Za2 P w K mg base CX0 13 "gone" ["self"] (ZgO Zg Zd Ze Zb 12) (fun C=>C=Zk))(Zed:Za2 P w K mg base CX0 13 "regrets" ["self"] (Zda Zg Zd Ze Zb 12) (fun C=>C=Zk))(Zi5:Za2 P w K mg base CX0 13 "rows" ["self"] (ZgN Zg Zd Ze Zb 12) (fun C=>C=Zk))(ZmN:Za2 P w K mg base CX0 40 "run" ["self","day"] (ZjU Zg Zd Ze Zb 12) (fun C=>C=Zk))(Zka:Za2 P w K mg base CX0 40 "tell" ["self","row"] (ZgU Zg Zd Ze Zb 12) (fun C=>C=Zk)):Yr P w K mg base CX0 41 f fd ["_law_script"] (Zo8 K):=by
 refine F.ok Js (fun vs H Q E h=> ?_) (fun cdv A outer s H vs Q E hr h=> ?_)
 ·obtain⟨a,ns,rfl,_⟩:=h
  rfl
 ·obtain⟨a,ns,rfl,hS,hlen,_,fin⟩:=h;have l5:=Xl;have hu3:=ZlF hr;refine⟨_,(Zi (Zv (i:=1) Js.nd rfl (Or.inl rfl) (ZX YS (hr.mono (by omega)) rfl ZD (Za (pv 0) (Za Zh Zj)))) (Zi (Zv (i:=2) Js.nd rfl (Or.inl rfl) (ZM Zh2 (by rfl) T.z_abs Zlz (Za (ZX YS (hr.mono (by omega)) rfl ZD (Za (pv 0) (Za Zh Zj))) Zj))) (Zi (Zv (i:=3) Js.nd rfl (Or.inl rfl) (ZX ZdQ (hr.mono (by omega)) rfl ZD (Za (ZX Zcf (hr.mono (by omega)) rfl ZD (Za (pv 0) (Za (pv 1) Zj))) Zj))) (Zi (Zv (i:=4) Js.nd rfl (Or.inl rfl) (Zz YC (Yl (Za Zh (Za Zh (Za (Zr YW (Zr ZnP Zh Zh) Zh) Zj)))) (Zr ZP (pv 1) Zh) (fun _ _=>rfl))) (Zi (Zv (i:=5) Js.nd rfl (Or.inl rfl) (ZX Zcg (hr.mono (by omega)) rfl ZD (Za (Zcn ZgJ (pv 0) (ZbQ Zh) (ZbQ Zh)) (Za (pv 1) (Za (pv 4) (Za (pv 3) Zj)))))) (Zi (Zv (i:=6) Js.nd rfl (Or.inl rfl) (ZX ZeN (hr.mono (by omega)) rfl ZD (Za (Yl (Za (pv 2) (Za (Zr YW (Zr ZZ (pv 2) Zh) Zh) (Za (Zr YW (Zr ZZ (pv 2) Zh) Zh) (Za (ZX YS (hr.mono (by omega)) rfl ZD (Za (pv 0) (Za Zh Zj))) Zj))))) (Za (pv 4) Zj)))) (Zi (Zv (i:=7) Js.nd rfl (Or.inl rfl) (Zr ZcK (ZM (ZcN ZkA hu3) (by rfl) T.z_sorted Zbh (Za (Yl (Za (Zr ZP (pv 2) (Zr YW (ZM YJ (by rfl) T.z_len Jk (Za (pv 5) Zj)) Zh)) (Za (Zr ZP (Zr ZZ (pv 2) Zh) (Zr YW (ZM YJ (by rfl) T.z_len Jk (Za (pv 5) Zj)) Zh)) (Za (Zr ZP (Zr ZZ (pv 2) Zh) (Zr YW (ZM YJ (by rfl) T.z_len Jk (Za (pv 5) Zj)) Zh)) Zj)))) Zj)) (Yl (Za (ZM YJ (by rfl) T.z_len Jk (Za (pv 5) Zj)) Zj)))) (Zi (Zv (i:=8) Js.nd rfl (Or.inl rfl) (Zhh ZgV (hr.mono (by omega)) rfl ZD (Za (pv 3) Zj))) (Zi (Zv (i:=9) Js.nd rfl (Or.inl rfl) (Zhh ZgV (hr.mono (by omega)) rfl ZD (Za (pv 3) Zj))) (Zi (Zv (i:=10) Js.nd rfl (Or.inl rfl) Zh) (Zi (XQ PassesOwn.never rfl (Zal rfl T.z_range (Za Zh Zj)) (ZK (i:=11) Js.nd rfl (Or.inl rfl)) (Zi (Zv (i:=12) Js.nd rfl (Or.inl rfl) (Zcn ZgJ (pv 5) (ZbQ (pv 10)) (ZbQ (Zz YC (pv 7) (pv 11) (fun _ _=>rfl))))) (Zi (XQ PassesOwn.never rfl (Yy (pv 12)) (ZK (i:=13) Js.nd rfl (Or.inl rfl)) (Zo (Xf (JQ (pv 8) Zka (hr.mono (by omega)) ZD (Za (pv 13) Zj))))) (Zi (XQ PassesOwn.never rfl (Yy (ZX Zdb (hr.mono (by omega)) rfl ZD (Za (pv 12) (Za (Zr ZZ (pv 2) (Zr YW Zh (pv 11))) Zj)))) (ZK (i:=13) Js.nd rfl (Or.inl rfl)) (Zo (Xf (JQ (pv 9) Zka (hr.mono (by omega)) ZD (Za (pv 13) Zj))))) (Zi (Ye (PW.pt (ZiB (Zt (Zol hu3) (JN (pv 8) Zed (hr.mono (by omega)) ZD) (JN (pv 9) Zed (hr.mono (by omega)) ZD) (Zy _)) (ZiB (Zt (Zol hu3) (JQ (pv 8) ZmN (hr.mono (by omega)) ZD (Za (Zz YC (pv 6) (pv 11) (fun _ _=>rfl)) Zj)) (JQ (pv 9) ZmN (hr.mono (by omega)) ZD (Za (Zz YC (pv 6) (pv 11) (fun _ _=>rfl)) Zj)) (Zy _)) (ZgZ (Zt (Zrm hu3) (JN (pv 8) Zk9 (hr.mono (by omega)) ZD) (JN (pv 9) Zk9 (hr.mono (by omega)) ZD) (Zy _)))))) (Zo (Zw Zmh)) ZF) (Zo (Zv (i:=10) Js.nd rfl (Or.inl rfl) (Zz YC (pv 7) (pv 11) (fun _ _=>rfl))))))))) (Zi (XQ PassesOwn.never rfl (Yy (pv 5)) (ZK (i:=13) Js.nd rfl (Or.inl rfl)) (Zo (Ye (Zt (ZiO hu3) (pv 13) (JN (pv 9) Zi5 (hr.mono (by omega)) ZD) rfl) (Zo (Zw Zmh)) ZF))) (Zo (Zw (Zaw Yo (ZM YJ (by rfl) T.z_len Jk (Za (JN (pv 8) Zi5 (hr.mono (by omega)) ZD) Zj)) (ZM YJ (by rfl) T.z_len Jk (Za (JN (pv 9) Zi5 (hr.mono (by omega)) ZD) Zj)) (Zy _)))))))))))))))), ?_⟩
  obtain⟨ms,em,lm⟩:=Zpm ns (some 2) (some 42);have lm63:ms.length<=63:=by omega
  refine Zeh fun B_ hB=> ?_;refine⟨_,rfl,a,ns,0,rfl,hS,fun H0 s0=> ?_⟩;refine hB _ _ ?_;generalize ns[0]?.getD 0=n0;refine Zeh fun B_ hB=> ?_;refine⟨_,rfl,a,ns,1,rfl,s0.seq hS,fun H1 s01=>⟨_,rfl, ?_⟩⟩;refine hB _ _ ?_;have hBy:0<=(if ns[1]?.getD 0<0 then-(ns[1]?.getD 0) else ns[1]?.getD 0):=by split<;>omega
  generalize (if ns[1]?.getD 0<0 then-(ns[1]?.getD 0) else ns[1]?.getD 0)=B at hBy
  have s1:=s0.trans s01;refine Zeh fun B_ hB=> ?_;refine⟨_,rfl,_,rfl,a,ns,n0,rfl,s1.seq hS,fun p rs H2 hp2 s2 lb bk lo hi=> ?_⟩;refine⟨p,rs,rfl,lb,hi,Ze8 bk,fun S H6 hS6 s6 bk6=> ?_⟩;refine hB _ _ ?_;refine Zeh fun B_ hB=> ?_;obtain⟨far,_,efar⟩:=Zpf [0,0,10^(43:Int).toNat+7] (n0%3) rfl (Int.emod_nonneg _ (by decide)) (Int.emod_lt_of_pos _ (by decide));refine⟨_,_,rfl,rfl,ZoM (by decide) (by decide),_,_,rfl,rfl,(show 3<=sizeLine from sl),fun t1 ht1=>vI rfl (by show(0:Int)<3;decide) ⟨t1,_,_,_,rfl,rfl,SqL.of Zc,efar, ?_⟩⟩
  have s3:=Zn ht1 (o:=.lst [.int 0,.int 0,.int (10^(43:Int).toNat+7)]);refine hB _ _ ?_;generalize upd H6 t1 (.lst [.int 0,.int 0,.int (10^(43:Int).toNat+7)])=H7 at s3
  have s17:=s1.trans (s2.trans (s6.trans s3));refine Zeh fun B_ hB=> ?_;refine⟨_,rfl,_,rfl,_,rfl,a,_,rfl,s17.seq hS,fun Pc hP=> ?_⟩;have s4:=Zn hP (o:=.lst (ZaB (ns.map V.int) (some 2) (some 42)));have hPc:upd H7 Pc (.lst (ZaB (ns.map V.int) (some 2) (some 42))) Pc=some (.lst (ms.map V.int)):=by rw[Zc,em]
  generalize upd H7 Pc (.lst (ZaB (ns.map V.int) (some 2) (some 42)))=H8 at s4 hPc
  have bk8:=JB (s3.trans s4) bk6;obtain⟨es,hes,pes⟩:=id bk8;refine⟨_,rfl,_,rfl,_,rfl,Pc,ms,n0,far,S,rs,rfl,hPc,by omega,⟨es,hes,Zl4 pes⟩,lo,hi,fun ws xs R H9 hR s5 rw9 ri=> ?_⟩;refine hB _ _ ?_;have bk9:=JB s5 bk8;have hS9:=(s17.trans (s4.trans s5)).seq hS;refine Zeh fun B_ hB=> ?_;refine⟨_,rfl,vI rfl ⟨by decide,by decide⟩ ⟨_,_,rfl,rfl,vI rfl ⟨by decide,by decide⟩ ⟨_,_,rfl,rfl,_,rfl,a,ns,2,rfl,hS9,fun HA sA=> ?_⟩⟩⟩
  refine⟨show 4<=sizeLine from sl,fun t2 ht2=>⟨_,rfl,t2,[B,B/7+1,B/11+2,ns[2]?.getD 0],far,rfl,Zc,by show 4<=63;decide,fun D ds HB hD sB hDs lds sds=> ?_⟩⟩
  refine hB _ _ ?_;have s9B:=sA.trans ((Zn ht2).trans sB);have bkB:=JB s9B bk9;obtain⟨rr,hRB,pwB⟩:=Yj s9B rw9;have lrr:=Paired.length pwB;have lds:ds.length=4:=lds;clear rw9 bk9 hS9 sA sB ht2 em hPc hes pes bk8 bk6 lb;refine Zeh fun B_ hB=> ?_;have pos:(0:Int)<(((rr.map V.ref).length:Nat):Int)+1:=by omega
  refine⟨_,rfl,_,rfl,_,_,rfl,.inl ⟨_,SqL.of hRB,rfl⟩,_,_,rfl,rfl,_,_,rfl,rfl,pos,vI rfl ⟨by decide,by decide⟩ ⟨_,rfl,_,_,rfl,.inl ⟨_,SqL.of hRB,rfl⟩,_,_,rfl,rfl,_,_,rfl,rfl,pos,vI rfl ⟨by decide,by decide⟩ ⟨_,rfl,_,_,rfl,.inl ⟨_,SqL.of hRB,rfl⟩,_,_,rfl,rfl,_,_,rfl,rfl,pos,show 3<=sizeLine from sl,fun t3 ht3=> ?_⟩⟩⟩;have bnd:∀z:Int,0<=z%((((rr.map V.ref).length:Nat):Int)+1)/\z%((((rr.map V.ref).length:Nat):Int)+1)<=(((rr.map V.ref).length:Nat):Int):=fun z=>⟨Int.emod_nonneg _ (by omega),by have:=Int.emod_lt_of_pos z pos;omega⟩
  have b1:=bnd B;have b2:=bnd (B/3);have b3:=bnd (B/5);refine⟨t3,_,[B%((((rr.map V.ref).length:Nat):Int)+1),B/3%((((rr.map V.ref).length:Nat):Int)+1),B/5%((((rr.map V.ref).length:Nat):Int)+1)],rfl,SqL.of Zc,by show 3<64;decide,Zi4 [B%((((rr.map V.ref).length:Nat):Int)+1),B/3%((((rr.map V.ref).length:Nat):Int)+1),B/5%((((rr.map V.ref).length:Nat):Int)+1)],fun zs pz oz t4 ht4=> ?_⟩
  obtain⟨S3,ps,es3,so⟩:=Zgm (ns:=[B%((((rr.map V.ref).length:Nat):Int)+1),B/3%((((rr.map V.ref).length:Nat):Int)+1),B/5%((((rr.map V.ref).length:Nat):Int)+1)]) pz oz;rw[es3];have sC:=(Zn ht3 (o:=.lst [.int (B%((((rr.map V.ref).length:Nat):Int)+1)),.int (B/3%((((rr.map V.ref).length:Nat):Int)+1)),.int (B/5%((((rr.map V.ref).length:Nat):Int)+1))])).trans (Zn ht4 (o:=.lst (S3.map V.int)));have h4:upd (upd HB t3 (.lst [.int (B%((((rr.map V.ref).length:Nat):Int)+1)),.int (B/3%((((rr.map V.ref).length:Nat):Int)+1)),.int (B/5%((((rr.map V.ref).length:Nat):Int)+1))])) t4 (.lst (S3.map V.int)) t4=some (.lst (S3.map V.int)):=Zc
  generalize upd (upd HB t3 (.lst [.int (B%((((rr.map V.ref).length:Nat):Int)+1)),.int (B/3%((((rr.map V.ref).length:Nat):Int)+1)),.int (B/5%((((rr.map V.ref).length:Nat):Int)+1))])) t4 (.lst (S3.map V.int))=HC at sC h4
  have l3:S3.length=3:=ps.length_eq;refine⟨_,rfl,_,_,rfl,.inl ⟨_,SqL.of (sC _ _ hRB),rfl⟩,show 1<=sizeLine from sl,fun t5 ht5=>⟨t4,t5,_,_,rfl,rfl,SqL.of (Zn ht5 _ _ h4),SqL.of Zc,by rw[List.length_map,l3];show 4<=sizeLine;omega,fun E0 hE0=> ?_⟩⟩
  refine hB _ _ ?_;obtain⟨es,ees,les,ses,bes,es3'⟩:=Zqt ps so b1 b2 b3;have sD:=sC.trans ((Zn ht5 (o:=.lst [.int (((rr.map V.ref).length:Nat):Int)])).trans (Zn hE0 (o:=.lst (S3.map V.int++[.int (((rr.map V.ref).length:Nat):Int)]))));have hE:upd (upd HC t5 (.lst [.int (((rr.map V.ref).length:Nat):Int)])) E0 (.lst (S3.map V.int++[.int (((rr.map V.ref).length:Nat):Int)])) E0=some (.lst (es.map fun k:Nat=>V.int (k:Int))):=by rw[Zc,ees]
  generalize upd (upd HC t5 (.lst [.int (((rr.map V.ref).length:Nat):Int)])) E0 (.lst (S3.map V.int++[.int (((rr.map V.ref).length:Nat):Int)]))=HE at sD hE
  have lR:(rr.map V.ref).length=ws.length:=by rw[List.length_map];exact lrr
  rw[lR] at bes es3'
  have hRE:=sD _ _ hRB;have pwE:=ZS sD pwB;have hDE:=sD _ _ hDs;obtain⟨cs,hcE,pcE⟩:=JB sD bkB;clear ees es3 pz oz ps so b1 b2 b3 bnd pos h4 l3 sC ht3 ht4 ht5 sD hRB pwB hDs bkB;refine Zeh fun B_ hB=> ?_;refine⟨_,rfl, ?_⟩;refine(fun x dx hx hdx _=> ?_);have hcS:upd (upd HE dx (.own x)) x (.ins Zk dx []) S=some (.lst (cs.map V.ref)):=by rw[Zm (Zf hcE hx),Zm (Zf hcE hdx)];exact hcE
  refine⟨x,dx,S,_,rfl,Zc,hcS,fun b t o h r k w HF nd fr kp hxA hbA htA hoA hhA hrA hkA hwA=>⟨rfl, ?_⟩⟩;refine hB _ _ ?_;have sF:Zx HE HF:=fun c u e=>kp c u (Zf e hx) (by rw[Zm (Zf e hx),Zm (Zf e hdx)];exact e)
  have hA0:ZQ Zg Zd Ze Zb Zk HF x ⟨rs,[],[],[],[]⟩ [t,o,h,r,k,w]:=Zj7 (b:=b) (dx:=dx) nd hxA ⟨cs,hbA,Zbj sF pcE⟩ htA hoA hhA hrA hkA hwA;have off0:∀c u,HE c=some u->c∉[t,o,h,r,k,w]:=fun c u e m=>by
   have:=fr c (List.mem_cons_of_mem _ m);rw[Zm (Zf e hx),Zm (Zf e hdx),e] at this
   cases this
  generalize [t,o,h,r,k,w]=F0 at hA0 off0
  have hRF:=sF _ _ hRE;have pwF:=ZS sF pwE;have hDF:=sF _ _ hDE;have hEF:=sF _ _ hE;have hcF:=sF _ _ hcE;have pcF:=Zbj sF pcE;have oR:=off0 _ _ hRE;have oD:=off0 _ _ hDE;have oE:=off0 _ _ hE;clear off0 fr kp hxA hbA htA hoA hhA hrA hkA hwA nd hcS hx hdx sF hRE pwE hDE hE hcE pcE;refine Zeh fun B_ hB=> ?_;refine⟨_,rfl, ?_⟩;refine(fun y dy hy hdy _=> ?_);have hcS:upd (upd HF dy (.own y)) y (.ins Zk dy []) S=some (.lst (cs.map V.ref)):=by rw[Zm (Zf hcF hy),Zm (Zf hcF hdy)];exact hcF
  refine⟨y,dy,S,_,rfl,Zc,hcS,fun b t o h r k w HL nd fr kp hxA hbA htA hoA hhA hrA hkA hwA=>⟨rfl, ?_⟩⟩;refine hB _ _ ?_;have sL:Zx HF HL:=fun c u e=>kp c u (Zf e hy) (by rw[Zm (Zf e hy),Zm (Zf e hdy)];exact e)
  have hB0:ZQ Zg Zd Ze Zb Zk HL y ⟨rs,[],[],[],[]⟩ [t,o,h,r,k,w]:=Zj7 (b:=b) (dx:=dy) nd hxA ⟨cs,hbA,Zbj sL pcF⟩ htA hoA hhA hrA hkA hwA;have non:∀c∈[b,t,o,h,r,k,w],HF c=none:=fun c m=>by
   cases e:HF c with
   |none=>rfl
   |some u=>
    have:=fr c m;rw[Zm (Zf e hy),Zm (Zf e hdy),e] at this
    cases this
  have offB:∀c u,HF c=some u->c∉[t,o,h,r,k,w]:=fun c u e m=>by
   rw[non c (List.mem_cons_of_mem _ m)] at e
   cases e
  have hbn:=non b (List.mem_cons_self ..);generalize [t,o,h,r,k,w]=G0 at hB0 offB
  have two0:Two Zg Zd Ze Zb Zk x y ⟨rs,[],[],[],[]⟩ ⟨rs,[],[],[],[]⟩ F0 G0 HL:=by
   refine⟨hA0.same sL,hB0,fun c m=> ?_,fun dx' b' t' o' h' r' k' w' e=> ?_,fun dx' b' t' o' h' r' k' w' e=> ?_⟩
   ·rcases hA0.kinds c m with ⟨_,z⟩|⟨_,z⟩<;>exact offB _ _ z
   ·obtain⟨dx2,b2,t2,o2,h2,r2,k2,w2,ha,_⟩:=hA0.ins;have ha2:=sL _ _ ha;rw[e] at ha2
    obtain⟨u,hu⟩:=hA0.book (show HF x=some (.ins Zk dx' (fH b' t' o' h' r' k' w')) by rw[ha,ha2]);exact offB _ _ hu
   ·rw[hxA] at e
    injection e with e
    injection e with _ _ e
    rw[<-Zpq e];exact hA0.off hbn
  have hRL:=sL _ _ hRF;have pwL:=ZS sL pwF;have hDL:=sL _ _ hDF;have hEL:=sL _ _ hEF;have oR0:R∉F0++G0:=fun z=>(List.mem_append.mp z).elim oR (offB _ _ hRF);have oD0:D∉F0++G0:=fun z=>(List.mem_append.mp z).elim oD (offB _ _ hDF);have oE0:E0∉F0++G0:=fun z=>(List.mem_append.mp z).elim oE (offB _ _ hEF);have pr0:Pr Zg Zd Ze Zb Zk x y rs ws 0 [] ⟨rs,[],[],[],[]⟩ ⟨rs,[],[],[],[]⟩ F0 G0 HL:=by
   have ok0:ZdH ⟨rs,[],[],[],[]⟩:=⟨bk,by show rs.length<=63;omega,⟨Nat.zero_le _,(by show 0<64;decide),(fun r y z=>nomatch z)⟩,Nat.zero_le _,.nil,(fun g hg=>nomatch hg)⟩
   have wo0:ZcA ⟨rs,[],[],[],[]⟩:=⟨rfl,(fun f hf=>nomatch hf)⟩
   exact⟨two0,ok0,ok0,wo0,wo0,⟨rfl,.refl _,rfl,rfl⟩,rfl,rfl,rfl⟩
  clear offB non hbn two0 hB0 hA0 fr kp hxA hbA htA hoA hhA hrA hkA hwA nd hcS hy hdy sL hRF pwF hDF hEF hcF pcF oR oD oE;refine Zeh fun B_ hB=> ?_;refine hB _ _ ?_;refine Zeh fun B_ hB=> ?_;refine⟨4,rfl,by decide,by decide,ZfC (fun i σ H'=>∃(s s':Hs) (F F':List Addr) (v11 v12 v13:Option V),σ=[some (.ref a),some (.int n0),some (.int B),some (.ref S),some (.int far),some (.ref R),some (.ref D),some (.ref E0),some (.ref x),some (.ref y),some (.int (((0::es).getD i 0:Nat):Int)),v11,v12,v13]/\Pr Zg Zd Ze Zb Zk x y rs ws ((0::es).getD i 0) (ds.take i) s s' F F' H'/\Jr (F0++G0) HL (F++F') H') ?_ ?_ ?_⟩
  ·exact⟨_,_,F0,G0,none,none,none,rfl,pr0,Jr.refl _ _⟩
  ·rintro i σ H1 hi4 ⟨s,s',F,F',v11,v12,v13,rfl,pr,gr⟩;have hi4:i<4:=hi4;have ie:i<es.length:=by omega
   have idd:i<ds.length:=by omega
   have be:=Zrw ses ie;have en:es[i]<=ws.length:=bes _ (List.getElem_mem ie);have eg:(0::es).getD (i+1) 0=es[i]:=by
    show es.getD i 0=_;rw[List.getD_eq_getElem?_getD,List.getElem?_eq_getElem ie]
    rfl
   have eat:=Zrx ie;have dat:=Zry idd;have dtk:ds.take (i+1)=ds.take i++[ds[i]]:=by rw[List.take_add_one,List.getElem?_eq_getElem idd];rfl
   have dle:∀d,(ds.take i).getLast? =some d->d<=ds[i]:=fun d h=>Zqr sds h (List.getElem?_eq_getElem idd);generalize (0::es).getD i 0=bg at pr be
   generalize es[i]=en_ at be en eg eat
   generalize ds[i]=dy at dat dtk dle
   have hR1:=gr.at oR0 hRL
   have hE1:=gr.at oE0 hEL
   have kt1:∀c ys,HL c=some (.tup ys)->H1 c=some (.tup ys):=fun c ys e=>gr.1 c _ (fun z=>(List.mem_append.mp z).elim (pr0.two.ho.tup e) (pr0.two.ho'.tup e)) e;have pw1:=ZbJ kt1 pwL;refine Zeh fun B_ hB=> ?_;refine⟨_,rfl,_,rfl,(bg:Int),rfl,_,rfl,_,rfl,E0,_,_,_,rfl,rfl,SqL.of hE1,eat,(en_:Int),rfl,R,_,rfl,SqL.of hR1,fun P hP=> ?_⟩;refine hB _ _ ?_;have s2:=Zn hP (o:=.lst (ZaB (rr.map V.ref) (some (bg:Int)) (some (en_:Int))))
   have hP2:upd H1 P (.lst (ZaB (rr.map V.ref) (some (bg:Int)) (some (en_:Int)))) P=some (.lst (((rr.drop bg).take (en_-bg)).map V.ref)):=by rw[Zc,Zqq _ (by rw[lR];exact en) be,List.map_take,List.map_drop]
   generalize upd H1 P (.lst (ZaB (rr.map V.ref) (some (bg:Int)) (some (en_:Int))))=H2 at s2 hP2
   have pp2:=ZS s2 (Zjb (en_-bg) (Zja bg pw1));have epart:=Zqs ws be;have lpp:=Paired.length pp2;have lpw:((ws.drop bg).take (en_-bg)).length<=ws.length:=by rw[List.length_take,List.length_drop];omega
   generalize (ws.drop bg).take (en_-bg)=part at pp2 epart lpp lpw
   generalize (rr.drop bg).take (en_-bg)=pa at hP2 pp2 lpp
   have hP0:=hP;have oP:P∉F++F':=fun z=>(List.mem_append.mp z).elim (pr.two.ho.off hP) (pr.two.ho'.off hP);have tw2:=pr.two.same s2;have gr2:=gr.trans (Jr.same s2);have permx:(s.ws++part++ws.drop en_).Perm ws:=by rw[pr.ws_,epart,List.take_append_drop]
   have lws:=ri.len;clear hP s2 hR1 hE1 kt1 pw1;refine Zeh fun B_ hB=> ?_;refine⟨_,rfl,P,rfl,⟨_,SqL.of hP2⟩,Xm (xs:=pa.map V.ref) (fun j σ H'=>∃(s2:Hs) (F2:List Addr) (v13:Option V),σ=[some (.ref a),some (.int n0),some (.int B),some (.ref S),some (.int far),some (.ref R),some (.ref D),some (.ref E0),some (.ref x),some (.ref y),some (.int (bg:Int)),some (.int (0+(i:Int))),some (.ref P),v13]/\Two Zg Zd Ze Zb Zk x y s2 s' F2 F' H'/\Zlc s s2 (part.take j)/\Jr (F++F') H2 (F2++F') H') ?_ ?_ ?_ ?_⟩
   ·exact⟨s,F,_,rfl,tw2,⟨pr.ok,pr.wo,rfl,(List.append_nil _).symm,rfl,rfl⟩,Jr.refl _ _⟩
   ·rintro j σ H3 _ ⟨s2,F2,v13,rfl,_,_,g3⟩;exact SqL.of (g3.at oP hP2)
   ·rintro j v σ H3 hv ⟨s2,F2,v13,rfl,tw3,so3,g3⟩;have kt3:∀c ys,H2 c=some (.tup ys)->H3 c=some (.tup ys):=fun c ys e=>g3.1 c _ (fun z=>(List.mem_append.mp z).elim (tw2.ho.tup e) (tw2.ho'.tup e)) e;obtain⟨d,rfl,ed⟩:=Xq hv;obtain⟨w,ew,hd⟩:=Yq (ZbJ kt3 pp2) j d ed;have tk:part.take (j+1)=part.take j++[w]:=by rw[List.take_add_one,ew];rfl
    have ri2:Ym s2.rs ms.length xs (s2.ws++[w]):=by
     have:=ri.part permx (j+1);rw[so3.ws,List.append_assoc,<-tk,so3.rs,pr.rs_];exact this
    have rg:Ym s2.rs ms.length xs s2.ws:=ri2.sub (vs:=[w]) (.refl _);have lg:=Zi3 so3.ok rg;obtain⟨dx',b',t',o',h',r',k',w',ha,_⟩:=tw3.ho.ins;refine⟨_,rfl,x,_,dx',_,rfl,ha,rfl,Zb9 (by decide+kernel),_,rfl,x,d,w,s2,F2,rfl,by decide,tw3.ho,hd,Ym.takes ri2 rfl rfl,so3.ok.lr,Zk8 so3.ok ri2 (by omega),so3.wo,by omega,fun L zs wd H7 F7 kp sub sup hA7 wo7 hL nL hl7 sz _=> ?_⟩;refine⟨_,F7,_,rfl,tw3.step kp sub hA7, ?_,g3.trans (Jr.left ⟨kp,sub,sup⟩)⟩
    rw[tk];exact so3.more ri2 (by omega) wo7
   rintro σ H3 ⟨s2,F2,v13',rfl,tw3,so3,g3⟩;refine hB _ _ ?_;rw[List.length_map,lpp,List.take_length] at so3
   have kt3:∀c ys,H2 c=some (.tup ys)->H3 c=some (.tup ys):=fun c ys e=>g3.1 c _ (fun z=>(List.mem_append.mp z).elim (tw2.ho.tup e) (tw2.ho'.tup e)) e;have hP3:=g3.at oP hP2
   have gr3:=gr2.trans g3;refine Zeh fun B_ hB=> ?_;refine⟨_,rfl,_,rfl,_,rfl,_,_,rfl,rfl,_,_,rfl,rfl,⟨by omega,by omega⟩,P,part,_,rfl,⟨pa,hP3,ZbJ kt3 pp2⟩,by omega,fun P' us H4 hn4 s4 ⟨pb,hP4,pp4⟩ pm=> ?_⟩;have tw4:=tw3.same s4;have gr4:=gr3.trans (Jr.same s4);have oP':P'∉F2++F':=fun z=>(List.mem_append.mp z).elim (tw3.ho.off hn4) (tw3.ho'.off hn4);have lpb:=Paired.length pp4;have permy:(s'.ws++us++ws.drop en_).Perm ws:=((pr.pe.ws.append pm).append_right _).trans permx
   refine⟨P',rfl,⟨_,SqL.of hP4⟩,Xm (xs:=pb.map V.ref) (fun j σ H'=>∃(s2':Hs) (F2':List Addr) (v13:Option V),σ=[some (.ref a),some (.int n0),some (.int B),some (.ref S),some (.int far),some (.ref R),some (.ref D),some (.ref E0),some (.ref x),some (.ref y),some (.int (bg:Int)),some (.int (0+(i:Int))),some (.ref P),v13]/\Two Zg Zd Ze Zb Zk x y s2 s2' F2 F2' H'/\Zlc s' s2' (us.take j)/\Jr (F2++F') H4 (F2++F2') H') ?_ ?_ ?_ ?_⟩
   ·exact⟨s',F',_,rfl,tw4,⟨pr.ok',pr.wo',rfl,(List.append_nil _).symm,rfl,rfl⟩,Jr.refl _ _⟩
   ·rintro j σ H5 _ ⟨s2',F2',v13,rfl,_,_,g5⟩;exact SqL.of (g5.at oP' hP4)
   ·rintro j v σ H5 hv ⟨s2',F2',v13,rfl,tw5,so5,g5⟩;have kt5:∀c ys,H4 c=some (.tup ys)->H5 c=some (.tup ys):=fun c ys e=>g5.1 c _ (fun z=>(List.mem_append.mp z).elim (tw4.ho.tup e) (tw4.ho'.tup e)) e;obtain⟨d,rfl,ed⟩:=Xq hv;obtain⟨w,ew,hd⟩:=Yq (ZbJ kt5 pp4) j d ed;have tk:us.take (j+1)=us.take j++[w]:=by rw[List.take_add_one,ew];rfl
    have ri2:Ym s2'.rs ms.length xs (s2'.ws++[w]):=by
     have:=ri.part permy (j+1);rw[so5.ws,List.append_assoc,<-tk,so5.rs,pr.pe.rs,pr.rs_];exact this
    have rg:Ym s2'.rs ms.length xs s2'.ws:=ri2.sub (vs:=[w]) (.refl _);have lg:=Zi3 so5.ok rg;obtain⟨dx',b',t',o',h',r',k',w',ha,_⟩:=tw5.ho'.ins;refine⟨_,rfl,y,_,dx',_,rfl,ha,rfl,Zb9 (by decide+kernel),_,rfl,y,d,w,s2',F2',rfl,by decide,tw5.ho',hd,Ym.takes ri2 rfl rfl,so5.ok.lr,Zk8 so5.ok ri2 (by omega),so5.wo,by omega,fun L zs wd H7 F7 kp sub sup hA7 wo7 hL nL hl7 sz _=> ?_⟩;refine⟨_,F7,_,rfl,(tw5.swap.step kp sub hA7).swap, ?_,g5.trans (Jr.right ⟨kp,sub,sup⟩)⟩
    rw[tk];exact so5.more ri2 (by omega) wo7
   rintro σ H5 ⟨s2',F2',v14,rfl,tw5,so5,g5⟩;refine hB _ _ ?_;rw[List.length_map,lpb,List.take_length] at so5
   have gr5:=gr4.trans g5;have pe5:ZeM s2 s2':=⟨by rw[so5.rs,so3.rs,pr.pe.rs],by rw[so5.ws,so3.ws];exact pr.pe.ws.append pm,by rw[so5.gs,so3.gs,pr.pe.gs],by rw[so5.runs,so3.runs,pr.pe.runs]⟩
   have rs5:s2.rs=rs:=so3.rs.trans pr.rs_;have ws5:s2.ws=ws.take en_:=by rw[so3.ws,pr.ws_,epart]
   have rd5:s2.runs=ds.take i:=so3.runs.trans pr.rd_;have rix:Ym rs ms.length xs s2.ws:=by rw[ws5];exact ri.take _
   have riy:Ym rs ms.length xs s2'.ws:=rix.sub (vs:=[]) (by rw[List.append_nil];exact pe5.ws)
   have okx:=so3.ok;have oky:=so5.ok;have wox:=so3.wo;have woy:=so5.wo;have lgx:=Zi3 okx rix;have lgy:=Zi3 oky riy;have lwx:=Zlb okx wox rix;have lwy:=Zlb oky woy riy;clear so3 so5 pr gr gr2 gr3 gr4 g3 g5 tw2 tw3 tw4 permx permy pp2 pp4 hP2 hP3 hP4 pm kt3 epart lpp lpb lpw oP oP' hn4 s4 hP0;refine Zeh fun B_ hB=> ?_;obtain⟨dx1,b1,t1,o1,h1,r1,k1,w1,hax,_⟩:=tw5.ho.ins;obtain⟨dx2,b2,t2,o2,h2,r2,k2,w2,hay,_⟩:=tw5.ho'.ins
   refine⟨_,rfl,x,_,dx1,_,rfl,hax,rfl,Zb9 (by decide+kernel),x,s2,F2,rfl,by decide,tw5.ho,wox.keys,okx.one,by omega,fun L1 us1 zs1 H7 hL1 s7 hl1 po1 st1 iff1=> ?_⟩;refine⟨_,rfl,y,_,dx2,_,rfl,s7 _ _ hay,rfl,Zb9 (by decide+kernel),y,s2',F2',rfl,by decide,tw5.ho'.same s7,woy.keys,oky.one,by omega,fun L2 us2 zs2 H8 hL2 s8 hl2 po2 st2 iff2=> ?_⟩;obtain rfl:zs1=zs2:=Zqn st1 st2 fun x=>(iff1 x).trans ((Zpl wox okx.one x).trans (Iff.trans ⟨pe5.reg okx,pe5.swap.reg oky⟩ ((Zpl woy oky.one x).symm.trans (iff2 x).symm)))
   refine⟨2,.lst (zs1.map Zqp),.lst (zs1.map Zqp),by decide,rfl,.lst (SqL.of (s8 _ _ hl1)) (Zi2 (ZaN (fun c xs e=>s8 _ _ e) po1)),.lst (SqL.of hl2) (Zi2 po2),(Zj8 zs1).2,_,rfl, ?_⟩;rw[(Zj8 zs1).1];refine Xh ?_;have tw8:=tw5.same (s7.trans s8);have gr8:=gr5.trans (Jr.same (s7.trans s8));have hD8:=gr8.at oD0 hDL
   refine⟨_,rfl,x,_,dx1,_,rfl,s8 _ _ (s7 _ _ hax),rfl,Zb9 (by decide+kernel),_,rfl,_,rfl,D,_,_,_,rfl,rfl,SqL.of hD8,dat,x,dy,s2,F2,rfl,by decide,tw8.ho,okx,rix.recs (by omega),wox.keys,by rw[rd5,List.length_take];omega,by omega,by rw[rd5];exact dle,fun L3 us3 zs3 H9 kp9 hA9 hL3 nL3 hl3 po3 st3 iff3=> ?_⟩
   have tw9:=tw8.step kp9 (fun _ z=> .inl z) hA9;have gr9:=gr8.trans (Jr.left (F':=F2') (Jr.own kp9));have hD9:=gr9.at oD0 hDL
   have hay9:=tw8.ho.kinds.ins kp9 _ _ _ _ (s8 _ _ (s7 _ _ hay));refine⟨_,rfl,y,_,dx2,_,rfl,hay9,rfl,Zb9 (by decide+kernel),_,rfl,_,rfl,D,_,_,_,rfl,rfl,SqL.of hD9,dat,y,dy,s2',F2',rfl,by decide,tw9.ho',oky,riy.recs (by omega),woy.keys,by rw[pe5.runs,rd5,List.length_take];omega,by omega,by rw[pe5.runs,rd5];exact dle,fun L4 us4 zs4 H10 kp10 hA10 hL4 nL4 hl4 po4 st4 iff4=> ?_⟩
   have pe5':=pe5.swap;obtain rfl:zs3=zs4:=Zmc st3 st4 fun r=>(iff3 r).trans (Iff.trans (by rw[pe5.gs];exact and_congr Iff.rfl ⟨pe5.due okx,pe5'.due oky⟩) (iff4 r).symm)
   have kt10:∀c ys,H9 c=some (.tup ys)->H10 c=some (.tup ys):=tw9.ho'.kinds.tup kp10;have oL3:L3∉F2':=tw8.ho'.off hL3;obtain⟨dd,q1,q2,q3⟩:=Zl9 (K:=K) (ZdK kt10 po3) (pe5'.outs oky po4);have q3:ZdN 3 (.lst dd):=Zl5 q3;refine⟨3,.lst dd,.lst dd,by decide,rfl,.lst (SqL.of (kp10 _ _ oL3 hl3)) q1,.lst (SqL.of hl4) q2,q3.2,_,rfl, ?_⟩;rw[q3.1];refine Xh ?_;have twA:=(tw9.swap.step kp10 (fun _ z=> .inl z) hA10).swap
   have grA:=gr9.trans (Jr.right (F:=F2) (Jr.own kp10));have okx':=Zpp okx (Zbg st3) iff3;have oky':=Zpp oky (Zbg st4) iff4;have wox':=Zj9 wox iff3;have woy':=Zj9 woy iff4;have pe':=pe5.ran dy zs3;clear q1 q2 q3 po1 po2 po3 po4 hl1 hl2 hl3 hl4 kt10;obtain⟨dx1,b1,t1,o1,h1,r1,k1,w1,hax,_⟩:=twA.ho.ins;obtain⟨dx2,b2,t2,o2,h2,r2,k2,w2,hay,_⟩:=twA.ho'.ins;refine⟨_,rfl,x,_,dx1,_,rfl,hax,rfl,Zb9 (by decide+kernel),x,_,F2,rfl,by decide,twA.ho,fun L5 kvs5 HB hL5 sB hl5 pk5=> ?_⟩
   refine⟨_,rfl,y,_,dx2,_,rfl,sB _ _ hay,rfl,Zb9 (by decide+kernel),y,_,F2',rfl,by decide,twA.ho'.same sB,fun L6 kvs6 HC hL6 sC hl6 pk6=> ?_⟩;rw[pe'.gs] at pk6
   have g2:=Zrt (K:=K) okx'.one (Jh (fun b xs e=>sC _ _ e) pk5) pk6;refine⟨L5,L6,kvs5,kvs6,rfl,rfl,.inl (sC _ _ hl5),.inl hl6,g2.1,g2.2,_,rfl,Xh ?_⟩;refine hB _ _ ?_;have hE2:=(grA.trans (Jr.same (sB.trans sC))).at oE0 hEL
   refine⟨_,rfl,_,rfl,E0,_,_,_,rfl,rfl,SqL.of hE2,eat, ?_⟩;refine⟨Zfr s2 dy zs3,Zfr s2' dy zs3,F2,F2',some (.int (0+(i:Int))),some (.ref P),v14, ?_,⟨twA.same (sB.trans sC),okx',oky',wox',woy',pe',rs5, ?_, ?_⟩,grA.trans (Jr.same (sB.trans sC))⟩
   ·rw[eg]
    rfl
   ·rw[eg];exact ws5
   ·show s2.runs++[dy]=_;rw[rd5,dtk]
  rintro σ H1 ⟨s,s',F,F',v11,v12,v13,rfl,pr,gr⟩;refine hB _ _ ?_;have e4:(0::es).getD 4 0=ws.length:=by
   show es.getD 3 0=_;rw[List.getD_eq_getElem?_getD,es3']
   rfl
  have ew:s.ws=ws:=by
   rw[pr.ws_];show ws.take ((0::es).getD 4 0)=ws;rw[e4,List.take_length]
  have pw:s'.ws.Perm ws:=by rw[<-ew];exact pr.pe.ws
  have hR1:=gr.at oR0 hRL
  have kt1:∀c ys,HL c=some (.tup ys)->H1 c=some (.tup ys):=fun c ys e=>gr.1 c _ (fun z=>(List.mem_append.mp z).elim (pr0.two.ho.tup e) (pr0.two.ho'.tup e)) e;have pw1:=ZbJ kt1 pwL;refine Zeh fun B_ hB=> ?_;refine⟨_,rfl,R,rfl,⟨_,SqL.of hR1⟩,Xm (xs:=rr.map V.ref) (fun j σ H'=>∃(v13:Option V),σ=[some (.ref a),some (.int n0),some (.int B),some (.ref S),some (.int far),some (.ref R),some (.ref D),some (.ref E0),some (.ref x),some (.ref y),some (.int (((0::es).getD 4 0:Nat):Int)),v11,v12,v13]/\Zx H1 H') ?_ ?_ ?_ ?_⟩
  ·exact⟨_,rfl,Zx.refl _⟩
  ·rintro j σ H2 _ ⟨_,rfl,s2⟩;exact SqL.of (s2 _ _ hR1)
  ·rintro j v σ H2 hv ⟨_,rfl,s2⟩;obtain⟨d,rfl,ed⟩:=Xq hv;obtain⟨w,ew1,hd⟩:=Yq (ZS s2 pw1) j d ed;obtain⟨dx2,b2,t2,o2,h2,r2,k2,w2,hay,_⟩:=pr.two.ho'.ins;refine⟨_,rfl,_,rfl,y,_,dx2,_,rfl,s2 _ _ hay,rfl,Zb9 (by decide+kernel),y,s',F',rfl,by decide,pr.two.ho'.same s2,fun L3 H3 hL3 s3 ⟨ts,hl3,pt3⟩=> ?_⟩;refine⟨L3,2,rwD w,_,_,rfl,by decide,SqL.of hl3,(.tup (SqT.of (show H3 d=some (.tup w.vs) from s3 _ _ hd)) (Zme _ (Zk7 w))),ZmK pt3,fun e he=> ?_,_,rfl, ?_⟩
   ·obtain⟨w',_,rfl⟩:=List.mem_map.mp he;exact Zpr _ _
   have yes:((s'.ws.map rwD).any fun e=>Xu 2 e (rwD w))=true:=List.any_eq_true.mpr ⟨rwD w,List.mem_map_of_mem (pw.mem_iff.mpr (List.mem_of_getElem? ew1)),Zps w⟩;show if(!((s'.ws.map rwD).any fun e=>Xu 2 e (rwD w)))=true then _ else _;rw[yes];exact Xh ⟨_,rfl,s2.trans s3⟩
  rintro σ H2 ⟨_,rfl,s2⟩;refine hB _ _ ?_;have tw2:=pr.two.same s2;obtain⟨dx1,b1,t1,o1,h1,r1,k1,w1,hax,_⟩:=tw2.ho.ins;obtain⟨dx2,b2,t2,o2,h2,r2,k2,w2,hay,_⟩:=tw2.ho'.ins;refine⟨_,rfl,x,_,dx1,_,rfl,hax,rfl,Zb9 (by decide+kernel),x,s,F,rfl,by decide,tw2.ho,fun L3 H3 hL3 s3 ⟨ts,hl3,pt3⟩=> ?_⟩;refine⟨_,_,rfl,.inl ⟨_,SqL.of hl3,rfl⟩,_,rfl,y,_,dx2,_,rfl,s3 _ _ hay,rfl,Zb9 (by decide+kernel),y,s',F',rfl,by decide,tw2.ho'.same s3,fun L4 H4 hL4 s4 ⟨ts4,hl4,pt4⟩=> ?_⟩
  refine⟨_,_,rfl,.inl ⟨_,SqL.of hl4,rfl⟩, ?_⟩;have l3:=Paired.length pt3;have l4:=Paired.length pt4;have lp:=pw.length_eq;rw[ew] at l3
  refine⟨rfl, ?_⟩;show Q (.bl (decide (V.int (((ts.map V.ref).length:Nat):Int)=V.int (((ts4.map V.ref).length:Nat):Int)))) _;rw[decide_eq_true (by rw[List.length_map,List.length_map,l3,l4,lp])];exact fin _
end
def Gd(K:PySem.W.Frag)(x:Str)(st:Stmt):Prop:=∃A fd,PySem.W.nsIn K mainGlobals x=some (some (.ref A))/\Fun K x x st A fd
def Md(K:PySem.W.Frag)(C:Addr)(x q:Str)(st:Stmt):Prop:=∃A fd,PySem.W.findIn K (.ref C) x=some (some (.ref A))/\PySem.W.isFn K (.ref A)=true/\Fun K x q st A fd
theorem all_mk{l:PySem.W.OpenLaw}{w:World}{K:PySem.W.Frag}{h:Heap}{mg:Str->Option Value}{fa:Addr}{A_law:Addr}{oc_law kV_law dc_law pm_law cd_law ct_law:Value}{od_law an_law:Option Addr}{sl_law:Array (Option Value)}{Zg:Addr}{Zd:Addr}{Ze:Addr}{Zb:Addr}{Zk:Addr}
  (X:K.In h)(G:h.Ns mainGlobals mg)(hfa:mg "law"=some (.ref fa))
  (Z0N:Gd K "never" Zjy)
  (Z0O:Gd K "after" Zjz)
  (Z0P:Gd K "later" ZjA)
  (Z0t:Gd K "earlier" ZfK)
  (Z0u:Gd K "line_of" ZfL)
  (Z0g:Gd K "owner_of" Zeq)
  (Z0v:Gd K "term_of" ZfM)
  (Y0:Gd K "owning_series" ZaS)
  (Z0F:Gd K "judged" Zhp)
  (Z0G:Gd K "reason" Zhq)
  (Z0w:Gd K "counted" ZfN)
  (Z0H:Gd K "is_put" Zhr)
  (Z0e:Gd K "series_of" Zdq)
  (Z0x:Gd K "life_of" ZfO)
  (Z0h:Gd K "holds_on" Zer)
  (Z0i:Gd K "standing" Zes)
  (Z04:Gd K "is_laid_on" ZcO)
  (Z0j:Gd K "word_for" Zet)
  (Z0y:Gd K "is_laid" ZfP)
  (Y8:Gd K "series_named" Zbu)
  (X7:Gd K "_law_cell_at" Zc1)
  (X8:Gd K "_law_name_by" Zc2)
  (Y4:Gd K "_law_length_by" ZaT)
  (J3:Gd K "_law_tree_by" Zc3)
  (Z0c:Gd K "_law_made" Zeu)
  (J5:Gd K "_law_book_by" Zc4)
  (Z0f:Gd K "_law_terms" Zdr)
  (Y5:Gd K "_law_record_by" ZaU)
  (Y6:Gd K "_law_number_by" ZaV)
  (Z05:Gd K "_law_row_by" ZcP)
  (J6:Gd K "_law_rows_by" Zc5)
  (Z0k:Gd K "_law_days" Zev)
  (Z06:Gd K "_law_turned" ZcQ)
  (Z1q:PySem.W.nsIn K mainGlobals "law"=some (some (.ref A_law)))
  (l_law:K.lookup A_law=some ⟨oc_law,od_law,.func (PySem.W.fnOf "law" "law" (Ze2 Zf8) (ZcJ Zf8) (Zu Zf8) .none kV_law dc_law pm_law an_law cd_law ct_law),sl_law⟩)
  (cd_law':PySem.W.codeIn K cd_law "law"=true)
  (k_law:PySem.W.keepIn K (.ref A_law)=true)
  (Z16:PySem.W.nsIn K mainGlobals "Never"=some (some (.ref Zg)))
  (Z17:PySem.W.nsIn K mainGlobals "After"=some (some (.ref Zd)))
  (Z18:PySem.W.nsIn K mainGlobals "Later"=some (some (.ref Ze)))
  (Z0I:PySem.W.nsIn K mainGlobals "Earlier"=some (some (.ref Zb)))
  (Z19:PySem.W.nsIn K mainGlobals "House"=some (some (.ref Zk)))
  (Z0Q:PySem.W.plainGet K Zg Str.empty=true)
  (Z0R:PySem.W.hasDictIn K Zg=true)
  (Z0S:PySem.W.plainOver K Zg=true)
  (Z0T:PySem.W.findIn K (.ref Zg) "__setattr__"=some (some (.builtin "object.__setattr__")))
  (Z1a:PySem.W.makesIn K Zg=true)
  (Z1b:PySem.W.keepIn K (.ref Zg)=true)
  (in_Never:PySem.W.findIn K (.ref Zg) "__init__"=some (some (.builtin "object.__init__")))
  (Z1c:PySem.W.findIn K (.ref Zg) "__class__"=some (some (.builtin "object.__class__")))
  (Z1d:PySem.W.mroIn K Zg (.type "object")=some true)
  (Z0U:PySem.W.plainGet K Zd Str.empty=true)
  (Z0V:PySem.W.hasDictIn K Zd=true)
  (Z0W:PySem.W.plainOver K Zd=true)
  (Z0X:PySem.W.findIn K (.ref Zd) "__setattr__"=some (some (.builtin "object.__setattr__")))
  (Z1e:PySem.W.makesIn K Zd=true)
  (Z1f:PySem.W.keepIn K (.ref Zd)=true)
  (Z07:Md K Zd "__init__" "After.__init__" ZcR)
  (Z0p:PySem.W.findIn K (.ref Zd) "kind"=some none)
  (Z0q:PySem.W.findIn K (.ref Zd) "days"=some none)
  (Z1g:PySem.W.findIn K (.ref Zd) "__class__"=some (some (.builtin "object.__class__")))
  (Z1h:PySem.W.mroIn K Zd (.type "object")=some true)
  (Z0Y:PySem.W.plainGet K Ze Str.empty=true)
  (Z0Z:PySem.W.hasDictIn K Ze=true)
  (Z10:PySem.W.plainOver K Ze=true)
  (Z11:PySem.W.findIn K (.ref Ze) "__setattr__"=some (some (.builtin "object.__setattr__")))
  (Z1i:PySem.W.makesIn K Ze=true)
  (Z1j:PySem.W.keepIn K (.ref Ze)=true)
  (Z08:Md K Ze "__init__" "Pair.__init__" ZbS)
  (Z0z:PySem.W.findIn K (.ref Ze) "one"=some none)
  (Z0l:PySem.W.findIn K (.ref Ze) "other"=some none)
  (Z1k:PySem.W.findIn K (.ref Ze) "__class__"=some (some (.builtin "object.__class__")))
  (Z1l:PySem.W.mroIn K Ze (.type "object")=some true)
  (Z0A:PySem.W.plainGet K Zb Str.empty=true)
  (Z0B:PySem.W.hasDictIn K Zb=true)
  (Z0C:PySem.W.plainOver K Zb=true)
  (Z0D:PySem.W.findIn K (.ref Zb) "__setattr__"=some (some (.builtin "object.__setattr__")))
  (Z0J:PySem.W.makesIn K Zb=true)
  (Z0K:PySem.W.keepIn K (.ref Zb)=true)
  (Y9:Md K Zb "__init__" "Pair.__init__" ZbS)
  (Z0m:PySem.W.findIn K (.ref Zb) "one"=some none)
  (Z0d:PySem.W.findIn K (.ref Zb) "other"=some none)
  (Z0L:PySem.W.findIn K (.ref Zb) "__class__"=some (some (.builtin "object.__class__")))
  (Z0M:PySem.W.mroIn K Zb (.type "object")=some true)
  (Z12:PySem.W.plainGet K Zk Str.empty=true)
  (Z13:PySem.W.hasDictIn K Zk=true)
  (Z14:PySem.W.plainOver K Zk=true)
  (Z15:PySem.W.findIn K (.ref Zk) "__setattr__"=some (some (.builtin "object.__setattr__")))
  (Z1m:PySem.W.makesIn K Zk=true)
  (Z1n:PySem.W.keepIn K (.ref Zk)=true)
  (Z09:Md K Zk "__init__" "House.__init__" ZcS)
  (Z0r:PySem.W.findIn K (.ref Zk) "book"=some none)
  (Z0s:PySem.W.findIn K (.ref Zk) "told"=some none)
  (Z0E:PySem.W.findIn K (.ref Zk) "own"=some none)
  (Z0a:PySem.W.findIn K (.ref Zk) "holdings"=some none)
  (Z0b:PySem.W.findIn K (.ref Zk) "run_days"=some none)
  (Z0n:PySem.W.findIn K (.ref Zk) "taken"=some none)
  (Z0o:PySem.W.findIn K (.ref Zk) "words"=some none)
  (Z1o:PySem.W.findIn K (.ref Zk) "__class__"=some (some (.builtin "object.__class__")))
  (Z1p:PySem.W.mroIn K Zk (.type "object")=some true)
  (hn:PySem.W.specialIn K (.builtin "object.__class__") "__get__"=some (some (.builtin "getset_descriptor.__get__")))
  (htk:PySem.W.takesIn K (.builtin "object.__class__")=some true)
  (J7:Md K Zg "due" "Never.due" Zds)
  (J8:Md K Zd "due" "After.due" Zdt)
  (J9:Md K Ze "due" "Later.due" Zdu)
  (Y7:Md K Zb "due" "Earlier.due" Zc6)
  (Z6:Md K Zg "leaves" "Never.leaves" Zbv)
  (Z7:Md K Zd "leaves" "After.leaves" Zbw)
  (Z8:Md K Ze "leaves" "Pair.leaves" Zay)
  (Z3:Md K Zb "leaves" "Pair.leaves" Zay)
  (X4:Md K Zk "tell" "House.tell" ZcT)
  (Z0:Md K Zk "refuse_row" "House.refuse_row" JR)
  (Z4:Md K Zk "keep_row" "House.keep_row" Zan)
  (Z1:Md K Zk "touched_by" "House.touched_by" JS)
  (Z2:Md K Zk "words_now" "House.words_now" Za7)
  (Z00:Md K Zk "run" "House.run" Zdv)
  (Z9:Md K Zk "due_on" "House.due_on" Zbx)
  (Z5:Md K Zk "regrets" "House.regrets" ZaW)
  (X5:Md K Zk "gone" "House.gone" ZcV)
  (X6:Md K Zk "rows" "House.rows" ZcU)
  (z_abs:PySem.W.nsIn K mainGlobals "abs"=some none)
  (z_any:PySem.W.nsIn K mainGlobals "any"=some none)
  (z_dict:PySem.W.nsIn K mainGlobals "dict"=some none)
  (z_int:PySem.W.nsIn K mainGlobals "int"=some none)
  (z_len:PySem.W.nsIn K mainGlobals "len"=some none)
  (z_list:PySem.W.nsIn K mainGlobals "list"=some none)
  (z_max:PySem.W.nsIn K mainGlobals "max"=some none)
  (z_min:PySem.W.nsIn K mainGlobals "min"=some none)
  (z_range:PySem.W.nsIn K mainGlobals "range"=some none)
  (z_reversed:PySem.W.nsIn K mainGlobals "reversed"=some none)
  (z_sorted:PySem.W.nsIn K mainGlobals "sorted"=some none)
  (z_tuple:PySem.W.nsIn K mainGlobals "tuple"=some none)
  (kib:PySem.W.kitOne K (.type "int") (.type "bool")=some false)
  (kii:PySem.W.kitOne K (.type "int") (.type "int")=some true)
  (kll:PySem.W.kitOne K (.type "list") (.type "list")=some true)
  (ktt:PySem.W.kitOne K (.type "tuple") (.type "tuple")=some true)
  (kss:PySem.W.kitOne K (.type "str") (.type "str")=some true)
  (ne_Never_After:Zg≠Zd)
  (ne_Never_Later:Zg≠Ze)
  (ne_Never_Earlier:Zg≠Zb)
  (Z01:Zg≠Zk)
  (ne_After_Later:Zd≠Ze)
  (ne_After_Earlier:Zd≠Zb)
  (Z02:Zd≠Zk)
  (ne_Later_Earlier:Ze≠Zb)
  (Z03:Ze≠Zk)
  (X3:Zb≠Zk)
  :∃fd:FuncData,(∀(s:Shared) (v:Value),BindsTo s fd ⟨[v],[]⟩ [("_law_script",v)])/\∀base:Heap,K.In base->base.Ns mainGlobals mg->Yr l.prog w K mg base CX0 41 fa fd ["_law_script"] (Zo8 K):=by
 have e:=hfa.symm.trans (PySem.W.mg_of X G Z1q);cases e;have T:Txt K mg Zg Zd Ze Zb Zk:=⟨PySem.W.mg_none_of X G z_abs,PySem.W.mg_none_of X G z_any,PySem.W.mg_none_of X G z_dict,PySem.W.mg_none_of X G z_int,PySem.W.mg_none_of X G z_len,PySem.W.mg_none_of X G z_list,PySem.W.mg_none_of X G z_max,PySem.W.mg_none_of X G z_min,PySem.W.mg_none_of X G z_range,PySem.W.mg_none_of X G z_reversed,PySem.W.mg_none_of X G z_sorted,PySem.W.mg_none_of X G z_tuple,kib,kii,kll,ktt,kss,⟨Z0Q,Z0R,Z0S,Z0T⟩,⟨⟨Z0Q,Z0R,Z0S,Z0T⟩,Z1c,hn,htk,Z1d⟩,⟨Z0U,Z0V,Z0W,Z0X⟩,Z0p,Z0q,⟨⟨Z0U,Z0V,Z0W,Z0X⟩,Z1g,hn,htk,Z1h⟩,⟨Z0Y,Z0Z,Z10,Z11⟩,Z0z,Z0l,⟨⟨Z0Y,Z0Z,Z10,Z11⟩,Z1k,hn,htk,Z1l⟩,⟨Z0A,Z0B,Z0C,Z0D⟩,Z0m,Z0d,⟨⟨Z0A,Z0B,Z0C,Z0D⟩,Z0L,hn,htk,Z0M⟩,⟨Z12,Z13,Z14,Z15⟩,Z0r,Z0s,Z0E,Z0a,Z0b,Z0n,Z0o,⟨⟨Z12,Z13,Z14,Z15⟩,Z1o,hn,htk,Z1p⟩,ne_Never_After,ne_Never_Later,ne_Never_Earlier,Z01,ne_After_Later,ne_After_Earlier,Z02,ne_Later_Earlier,Z03,X3⟩
 have Zsu:=Zlv (st:=Zf8) l_law cd_law' k_law;obtain⟨_,_,Z0N,Zkb⟩:=Z0N;obtain⟨_,_,Z0O,Zkc⟩:=Z0O;obtain⟨_,_,Z0P,Zkd⟩:=Z0P;obtain⟨_,_,Z0t,Zg6⟩:=Z0t;obtain⟨_,_,Z0u,Zg7⟩:=Z0u;obtain⟨_,_,Z0g,ZeO⟩:=Z0g;obtain⟨_,_,Z0v,Zg8⟩:=Z0v;obtain⟨_,_,Y0,Zb2⟩:=Y0;obtain⟨_,_,Z0F,Zi6⟩:=Z0F;obtain⟨_,_,Z0G,Zi7⟩:=Z0G;obtain⟨_,_,Z0w,Zg9⟩:=Z0w;obtain⟨_,_,Z0H,Zi8⟩:=Z0H;obtain⟨_,_,Z0e,ZdR⟩:=Z0e;obtain⟨_,_,Z0x,Zga⟩:=Z0x;obtain⟨_,_,Z0h,ZeP⟩:=Z0h
 obtain⟨_,_,Z0i,ZeQ⟩:=Z0i;obtain⟨_,_,Z04,Zdc⟩:=Z04;obtain⟨_,_,Z0j,ZeR⟩:=Z0j;obtain⟨_,_,Z0y,Zgb⟩:=Z0y;obtain⟨_,_,Y8,ZbL⟩:=Y8;obtain⟨_,_,X7,Zch⟩:=X7;obtain⟨_,_,X8,Zci⟩:=X8;obtain⟨_,_,Y4,Zb3⟩:=Y4;obtain⟨_,_,J3,Zcj⟩:=J3;obtain⟨_,_,Z0c,ZbM⟩:=Z0c;obtain⟨_,_,J5,Zck⟩:=J5;obtain⟨_,_,Z0f,ZdS⟩:=Z0f;obtain⟨_,_,Y5,Zb4⟩:=Y5;obtain⟨_,_,Y6,Zb5⟩:=Y6;obtain⟨_,_,Z05,Zdd⟩:=Z05;obtain⟨_,_,J6,Zcl⟩:=J6;obtain⟨_,_,Z0k,ZeS⟩:=Z0k
 obtain⟨_,_,Z06,Zde⟩:=Z06;obtain⟨_,_,Z07,Zke,Zfu⟩:=Z07;obtain⟨_,_,Z08,Zkf,Zfv⟩:=Z08;obtain⟨_,_,Y9,Zi9,ZdT⟩:=Y9;obtain⟨_,_,Z09,Zkg,Zfw⟩:=Z09;obtain⟨_,_,J7,Zgn,ZaO⟩:=J7;obtain⟨_,_,J8,Zgo,ZaP⟩:=J8;obtain⟨_,_,J9,Zgp,ZaQ⟩:=J9;obtain⟨_,_,Y7,Zel,JL⟩:=Y7;obtain⟨_,_,Z6,ZdU,Jt⟩:=Z6;obtain⟨_,_,Z7,ZdV,Ju⟩:=Z7;obtain⟨_,_,Z8,ZdW,Jv⟩:=Z8;obtain⟨_,_,Z3,ZcE,XX⟩:=Z3;obtain⟨_,_,X4,Zfx,Zai⟩:=X4;obtain⟨_,_,Z0,ZbN,Xo⟩:=Z0
 obtain⟨_,_,Z4,ZcF,Ja⟩:=Z4;obtain⟨_,_,Z1,ZbO,Xp⟩:=Z1;obtain⟨_,_,Z2,ZbZ,XH⟩:=Z2;obtain⟨_,_,Z00,Zgq,ZaR⟩:=Z00;obtain⟨_,_,Z9,ZdX,Jw⟩:=Z9;obtain⟨_,_,Z5,Zdh,Jj⟩:=Z5;obtain⟨_,_,X5,Zfy,Zaj⟩:=X5;obtain⟨_,_,X6,Zfz,Zak⟩:=X6;refine⟨PySem.W.fnOf "law" "law" (Ze2 Zf8) (ZcJ Zf8) (Zu Zf8) .none kV_law dc_law pm_law an_law cd_law ct_law,fun s v=> .of_eq rfl,fun base Kb _=> ?_⟩;have ZjH:Zrd K mg "Never" Zg:=⟨PySem.W.mg_of X G Z16,Z1a,in_Never,Z1b⟩
 have ZjZ:Cal l.prog w K mg base CX0 1 "never" [] (Zht Zg Zd Ze Zb):=⟨_,_,PySem.W.mg_of X G Z0N,Zkb.kp,Zkb.binds (fun _ _ _ _ _ _=>ZsP rfl),ZoP Zkb T ZjH⟩
 have ZjI:Zju l.prog w K mg base CX0 1 "After" Zd ["self","kind","days"] (Zc7 Zd):=⟨_,_,PySem.W.mg_of X G Z17,⟨Z1e,Z07,Zke,Z1f⟩,Zfu.binds (fun _ _ _ _ _ _=>ZlH fun _ _ _=>rfl),Zij Zfu T T.cl_After T.n_After_kind T.n_After_days⟩
 have ZjX:Cal l.prog w K mg base CX0 3 "after" ["kind","days"] (Zhu Zg Zd Ze Zb):=⟨_,_,PySem.W.mg_of X G Z0O,Zkc.kp,Zkc.binds (fun _ _ _ _ _ _=>Xv fun _ _=>rfl),ZoR Zkc T ZjI⟩
 have ZjJ:Zju l.prog w K mg base CX0 1 "Later" Ze ["self","one","other"] (Za8 Ze):=⟨_,_,PySem.W.mg_of X G Z18,⟨Z1i,Z08,Zkf,Z1j⟩,Zfv.binds (fun _ _ _ _ _ _=>ZlH fun _ _ _=>rfl),Zfh Zfv T T.cl_Later T.n_Later_one T.n_Later_other⟩
 have ZjY:Cal l.prog w K mg base CX0 3 "later" ["one","other"] (Zhv Zg Zd Ze Zb):=⟨_,_,PySem.W.mg_of X G Z0P,Zkd.kp,Zkd.binds (fun _ _ _ _ _ _=>Xv fun _ _=>rfl),ZoT Zkd T ZjJ⟩
 have ZfS:Zju l.prog w K mg base CX0 1 "Earlier" Zb ["self","one","other"] (Za8 Zb):=⟨_,_,PySem.W.mg_of X G Z0I,⟨Z0J,Y9,Zi9,Z0K⟩,ZdT.binds (fun _ _ _ _ _ _=>ZlH fun _ _ _=>rfl),Zfh ZdT T T.cl_Earlier T.n_Earlier_one T.n_Earlier_other⟩
 have ZfY:Cal l.prog w K mg base CX0 3 "earlier" ["one","other"] (Zew Zg Zd Ze Zb):=⟨_,_,PySem.W.mg_of X G Z0t,Zg6.kp,Zg6.binds (fun _ _ _ _ _ _=>Xv fun _ _=>rfl),ZlS Zg6 T ZfS⟩
 have ZfV:Cal l.prog w K mg base CX0 1 "line_of" ["book","name"] (Zex Zg Zd Ze Zb):=⟨_,_,PySem.W.mg_of X G Z0u,Zg7.kp,Zg7.binds (fun _ _ _ _ _ _=>Xv fun _ _=>rfl),ZlT Zg7 T⟩
 have Xx:Cal l.prog w K mg base CX0 1 "owning_series" ["book","name"] (Jx Zg Zd Ze Zb):=⟨_,_,PySem.W.mg_of X G Y0,Zb2.kp,Zb2.binds (fun _ _ _ _ _ _=>Xv fun _ _=>rfl),ZfT Zb2 T⟩
 have ZeC:Cal l.prog w K mg base CX0 2 "owner_of" ["book","name"] (Zdy Zg Zd Ze Zb):=⟨_,_,PySem.W.mg_of X G Z0g,ZeO.kp,ZeO.binds (fun _ _ _ _ _ _=>Xv fun _ _=>rfl),ZkF ZeO T Xx⟩
 have Zbl:Cal l.prog w K mg base CX0 2 "term_of" ["book","name"] (ZcW Zg Zd Ze Zb):=⟨_,_,PySem.W.mg_of X G Z0v,Zg8.kp,Zg8.binds (fun _ _ _ _ _ _=>Xv fun _ _=>rfl),ZlV Zg8 T Xx⟩
 have Xy:Cal l.prog w K mg base CX0 1 "counted" ["rows","day"] Zaq:=⟨_,_,PySem.W.mg_of X G Z0w,Zg9.kp,Zg9.binds (fun _ _ _ _ _ _=>Xv fun _ _=>rfl),ZlX Zg9 T⟩
 have Zdg:∀n,Za2 l.prog w K mg base CX0 (0+n+1) "due" ["self","life"] (Zc8 Zg Zd Ze Zb n) (fun C=>C=Zg\/C=Zd\/C=Ze\/C=Zb):=fun n=>by
  induction n with
  |zero=>
   refine⟨fun C hC=> ?_⟩;rcases hC with hC|hC|hC|hC
   ·cases hC.symm;exact⟨T.cl_Never,_,_,⟨J7,Zgn,ZaO.kp⟩,ZaO.binds (fun _ _ _ _ _ _=>Xv fun _ _=>rfl),Xi Zfe⟩
   ·cases hC.symm;exact⟨T.cl_After,_,_,⟨J8,Zgo,ZaP.kp⟩,ZaP.binds (fun _ _ _ _ _ _=>Xv fun _ _=>rfl),Xi Zfe⟩
   ·cases hC.symm;exact⟨T.cl_Later,_,_,⟨J9,Zgp,ZaQ.kp⟩,ZaQ.binds (fun _ _ _ _ _ _=>Xv fun _ _=>rfl),Xi Zfe⟩
   ·cases hC.symm;exact⟨T.cl_Earlier,_,_,⟨Y7,Zel,JL.kp⟩,JL.binds (fun _ _ _ _ _ _=>Xv fun _ _=>rfl),Xi Zfe⟩
  |succ n ih=>
   refine⟨fun C hC=> ?_⟩;rcases hC with hC|hC|hC|hC
   ·cases hC.symm;exact⟨T.cl_Never,_,_,⟨J7,Zgn,ZaO.kp⟩,ZaO.binds (fun _ _ _ _ _ _=>Xv fun _ _=>rfl),Zk1 ZaO T n⟩
   ·cases hC.symm;exact⟨T.cl_After,_,_,⟨J8,Zgo,ZaP.kp⟩,ZaP.binds (fun _ _ _ _ _ _=>Xv fun _ _=>rfl),Zk3 ZaP T n⟩
   ·cases hC.symm;exact⟨T.cl_Later,_,_,⟨J9,Zgp,ZaQ.kp⟩,ZaQ.binds (fun _ _ _ _ _ _=>Xv fun _ _=>rfl),Zk4 ZaQ T n ih⟩
   ·cases hC.symm;exact⟨T.cl_Earlier,_,_,⟨Y7,Zel,JL.kp⟩,JL.binds (fun _ _ _ _ _ _=>Xv fun _ _=>rfl),ZhT JL T n ih⟩
 have Zd2:Cal l.prog w K mg base CX0 1 "is_laid_on" ["row","record","over"] Zc9:=⟨_,_,PySem.W.mg_of X G Z04,Zdc.kp,Zdc.binds (fun _ _ _ _ _ _=>ZlH fun _ _ _=>rfl),Zil Zdc T⟩
 have Jg:Cal l.prog w K mg base CX0 1 "standing" ["rows"] ZaH:=⟨_,_,PySem.W.mg_of X G Z0i,ZeQ.kp,ZeQ.binds (fun _ _ _ _ _ _=>Zcq fun _=>rfl),ZkN ZeQ T⟩
 have ZeB:Cal l.prog w K mg base CX0 2 "holds_on" ["rows","record","line"] ZdA:=⟨_,_,PySem.W.mg_of X G Z0h,ZeP.kp,ZeP.binds (fun _ _ _ _ _ _=>ZlH fun _ _ _=>rfl),ZkQ ZeP T Zd2 Jg⟩
 have Zac:Cal l.prog w K mg base CX0 1 "is_put" ["rows","record"] Zcv:=⟨_,_,PySem.W.mg_of X G Z0H,Zi8.kp,Zi8.binds (fun _ _ _ _ _ _=>Xv fun _ _=>rfl),Znl Zi8 T⟩
 have Zbk:Cal l.prog w K mg base CX0 1 "life_of" ["rows","record"] ZcX:=⟨_,_,PySem.W.mg_of X G Z0x,Zga.kp,Zga.binds (fun _ _ _ _ _ _=>Xv fun _ _=>rfl),ZlY Zga T⟩
 have JZ:Cal l.prog w K mg base CX0 1 "series_of" ["rows","record"] Zbc:=⟨_,_,PySem.W.mg_of X G Z0e,ZdR.kp,ZdR.binds (fun _ _ _ _ _ _=>Xv fun _ _=>rfl),ZjL ZdR T⟩
 have ZeD:Cal l.prog w K mg base CX0 1 "word_for" ["due","holds","day"] ZdB:=⟨_,_,PySem.W.mg_of X G Z0j,ZeR.kp,ZeR.binds (fun _ _ _ _ _ _=>ZlH fun _ _ _=>rfl),ZkL ZeR T⟩
 have Zcz:Cal l.prog w K mg base CX0 14 "judged" ["book","rows","record","day"] (Ze7 Zg Zd Ze Zb):=⟨_,_,PySem.W.mg_of X G Z0F,Zi6.kp,Zi6.binds (fun _ _ _ _ _ _=>ZpS fun _ _ _ _=>rfl),Znp Zi6 T Xy (Zdg 12) ZeB Zac Zbk ZfV ZeC JZ Zbl ZeD⟩
 have ZaK:∀n,Za2 l.prog w K mg base CX0 (0+n+1) "leaves" ["self"] (JX Zg Zd Ze Zb n) (fun C=>C=Zg\/C=Zd\/C=Ze\/C=Zb):=fun n=>by
  induction n with
  |zero=>
   refine⟨fun C hC=> ?_⟩;rcases hC with hC|hC|hC|hC
   ·cases hC.symm;exact⟨T.cl_Never,_,_,⟨Z6,ZdU,Jt.kp⟩,Jt.binds (fun _ _ _ _ _ _=>Zcq fun _=>rfl),Xi ZbT⟩
   ·cases hC.symm;exact⟨T.cl_After,_,_,⟨Z7,ZdV,Ju.kp⟩,Ju.binds (fun _ _ _ _ _ _=>Zcq fun _=>rfl),Xi ZbT⟩
   ·cases hC.symm;exact⟨T.cl_Later,_,_,⟨Z8,ZdW,Jv.kp⟩,Jv.binds (fun _ _ _ _ _ _=>Zcq fun _=>rfl),Xi ZbT⟩
   ·cases hC.symm;exact⟨T.cl_Earlier,_,_,⟨Z3,ZcE,XX.kp⟩,XX.binds (fun _ _ _ _ _ _=>Zcq fun _=>rfl),Xi ZbT⟩
  |succ n ih=>
   refine⟨fun C hC=> ?_⟩;rcases hC with hC|hC|hC|hC
   ·cases hC.symm;exact⟨T.cl_Never,_,_,⟨Z6,ZdU,Jt.kp⟩,Jt.binds (fun _ _ _ _ _ _=>Zcq fun _=>rfl),Zgx Jt T n⟩
   ·cases hC.symm;exact⟨T.cl_After,_,_,⟨Z7,ZdV,Ju.kp⟩,Ju.binds (fun _ _ _ _ _ _=>Zcq fun _=>rfl),Zgz Ju T n⟩
   ·cases hC.symm;exact⟨T.cl_Later,_,_,⟨Z8,ZdW,Jv.kp⟩,Jv.binds (fun _ _ _ _ _ _=>Zcq fun _=>rfl),ZdF Jv T n (.inl rfl) ih⟩
   ·cases hC.symm;exact⟨T.cl_Earlier,_,_,⟨Z3,ZcE,XX.kp⟩,XX.binds (fun _ _ _ _ _ _=>Zcq fun _=>rfl),ZdF XX T n (.inr (rfl)) ih⟩
 have ZhO:Cal l.prog w K mg base CX0 14 "reason" ["book","rows","record","day"] (ZfQ Zg Zd Ze Zb):=⟨_,_,PySem.W.mg_of X G Z0G,Zi7.kp,Zi7.binds (fun _ _ _ _ _ _=>ZpS fun _ _ _ _=>rfl),Znq Zi7 T Xy (Zdg 12) (ZaK 12) Zac Zbk JZ Zbl⟩
 have ZfX:Cal l.prog w K mg base CX0 1 "is_laid" ["rows","hold"] Zey:=⟨_,_,PySem.W.mg_of X G Z0y,Zgb.kp,Zgb.binds (fun _ _ _ _ _ _=>Xv fun _ _=>rfl),Zm2 Zgb T⟩
 have ZbH:Cal l.prog w K mg base CX0 1 "series_named" ["row"] ZaX:=⟨_,_,PySem.W.mg_of X G Y8,ZbL.kp,ZbL.binds (fun _ _ _ _ _ _=>Zcq fun _=>rfl),ZgB ZbL T⟩
 have YS:Cal l.prog w K mg base CX0 1 "_law_cell_at" ["_law_script","_law_k"] (Za9 K):=⟨_,_,PySem.W.mg_of X G X7,Zch.kp,Zch.binds (fun _ _ _ _ _ _=>Xv fun _ _=>rfl),ZhV Zch T⟩
 have Yh:Cal l.prog w K mg base CX0 1 "_law_name_by" ["_law_cell","_law_k"] XR:=⟨_,_,PySem.W.mg_of X G X8,Zci.kp,Zci.binds (fun _ _ _ _ _ _=>Xv fun _ _=>rfl),ZhQ Zci T⟩
 have ZaZ:Cal l.prog w K mg base CX0 1 "_law_length_by" ["_law_cell"] Zao:=⟨_,_,PySem.W.mg_of X G Y4,Zb3.kp,Zb3.binds (fun _ _ _ _ _ _=>Zcq fun _=>rfl),ZfZ Zb3 T⟩
 have Zce:Cal l.prog w K mg base CX0 2 "_law_tree_by" ["_law_cells","_law_names_by","_law_most"] Zby:=⟨_,_,PySem.W.mg_of X G J3,Zcj.kp,Zcj.binds (fun _ _ _ _ _ _=>ZlH fun _ _ _=>rfl),ZhS Zcj T ZaZ Yh⟩
 have Jq:∀n,Cal l.prog w K mg base CX0 (3+n+1) "_law_made" ["_law_tree"] (ZaG Zg Zd Ze Zb n):=fun n=>by
  induction n with
  |zero=>exact⟨_,_,PySem.W.mg_of X G Z0c,ZbM.kp,ZbM.binds (fun _ _ _ _ _ _=>Zcq fun _=>rfl),Xi Zih⟩
  |succ n ih=>exact⟨_,_,PySem.W.mg_of X G Z0c,ZbM.kp,ZbM.binds (fun _ _ _ _ _ _=>Zcq fun _=>rfl),Zl2 ZbM T n ih ZjX ZfY ZjY ZjZ⟩
 have Zcf:Cal l.prog w K mg base CX0 3 "_law_book_by" ["_law_script","_law_names_by"] (ZbB K):=⟨_,_,PySem.W.mg_of X G J5,Zck.kp,Zck.binds (fun _ _ _ _ _ _=>Xv fun _ _=>rfl),ZhW Zck T YS Yh Zce⟩
 have ZdQ:Cal l.prog w K mg base CX0 17 "_law_terms" ["_law_book"] (ZcZ Zg Zd Ze Zb):=⟨_,_,PySem.W.mg_of X G Z0f,ZdS.kp,ZdS.binds (fun _ _ _ _ _ _=>Zcq fun _=>rfl),Zk5 ZdS T (Jq 12)⟩
 have Zb1:Cal l.prog w K mg base CX0 2 "_law_record_by" ["_law_number","_law_names_by"] Zar:=⟨_,_,PySem.W.mg_of X G Y5,Zb4.kp,Zb4.binds (fun _ _ _ _ _ _=>Xv fun _ _=>rfl),Zg3 Zb4 T Yh⟩
 have Zb0:Cal l.prog w K mg base CX0 1 "_law_number_by" ["_law_cell","_law_names_by"] Zas:=⟨_,_,PySem.W.mg_of X G Y6,Zb5.kp,Zb5.binds (fun _ _ _ _ _ _=>Xv fun _ _=>rfl),Zg1 Zb5 T⟩
 have Zd9:Cal l.prog w K mg base CX0 3 "_law_row_by" ["_law_cell","_law_names_by","_law_far","_law_book"] Zcc:=⟨_,_,PySem.W.mg_of X G Z05,Zdd.kp,Zdd.binds (fun _ _ _ _ _ _=>ZpS fun _ _ _ _=>rfl),Zix Zdd T Yh Zb0 Zb1⟩
 have Zcg:Cal l.prog w K mg base CX0 4 "_law_rows_by" ["_law_cells","_law_names_by","_law_far","_law_book"] ZbC:=⟨_,_,PySem.W.mg_of X G J6,Zcl.kp,Zcl.binds (fun _ _ _ _ _ _=>ZpS fun _ _ _ _=>rfl),ZhZ Zcl T Zd9⟩
 have ZeN:Cal l.prog w K mg base CX0 1 "_law_days" ["_law_cells","_law_far"] ZdC:=⟨_,_,PySem.W.mg_of X G Z0k,ZeS.kp,ZeS.binds (fun _ _ _ _ _ _=>Xv fun _ _=>rfl),Zlg ZeS T⟩
 have Zdb:Cal l.prog w K mg base CX0 1 "_law_turned" ["_law_rows","_law_by"] Zca:=⟨_,_,PySem.W.mg_of X G Z06,Zde.kp,Zde.binds (fun _ _ _ _ _ _=>Xv fun _ _=>rfl),ZiA Zde T⟩
 have ZgV:Zju l.prog w K mg base CX0 1 "House" Zk ["self","book"] (Zcb Zk):=⟨_,_,PySem.W.mg_of X G Z19,⟨Z1m,Z09,Zkg,Z1n⟩,Zfw.binds (fun _ _ _ _ _ _=>Xv fun _ _=>rfl),Zin Zfw T T.cl_House T.n_House_book T.n_House_told T.n_House_own T.n_House_holdings T.n_House_run_days T.n_House_taken T.n_House_words⟩
 have Zk9:∀n,Za2 l.prog w K mg base CX0 (0+n+1) "gone" ["self"] (ZgO Zg Zd Ze Zb n) (fun C=>C=Zk):=fun n=>by
  induction n with
  |zero=>
   refine⟨fun C hC=> ?_⟩;rcases hC with hC
   ·cases hC.symm;exact⟨T.cl_House,_,_,⟨X5,Zfy,Zaj.kp⟩,Zaj.binds (fun _ _ _ _ _ _=>Zcq fun _=>rfl),Xi Znj⟩
  |succ n ih=>
   refine⟨fun C hC=> ?_⟩;rcases hC with hC
   ·cases hC.symm;exact⟨T.cl_House,_,_,⟨X5,Zfy,Zaj.kp⟩,Zaj.binds (fun _ _ _ _ _ _=>Zcq fun _=>rfl),Zir Zaj T n⟩
 have Zed:∀n,Za2 l.prog w K mg base CX0 (0+n+1) "regrets" ["self"] (Zda Zg Zd Ze Zb n) (fun C=>C=Zk):=fun n=>by
  induction n with
  |zero=>
   refine⟨fun C hC=> ?_⟩;rcases hC with hC
   ·cases hC.symm;exact⟨T.cl_House,_,_,⟨Z5,Zdh,Jj.kp⟩,Jj.binds (fun _ _ _ _ _ _=>Zcq fun _=>rfl),Xi Zk6⟩
  |succ n ih=>
   refine⟨fun C hC=> ?_⟩;rcases hC with hC
   ·cases hC.symm;exact⟨T.cl_House,_,_,⟨Z5,Zdh,Jj.kp⟩,Jj.binds (fun _ _ _ _ _ _=>Zcq fun _=>rfl),Zg5 Jj T n⟩
 have Zi5:∀n,Za2 l.prog w K mg base CX0 (0+n+1) "rows" ["self"] (ZgN Zg Zd Ze Zb n) (fun C=>C=Zk):=fun n=>by
  induction n with
  |zero=>
   refine⟨fun C hC=> ?_⟩;rcases hC with hC
   ·cases hC.symm;exact⟨T.cl_House,_,_,⟨X6,Zfz,Zak.kp⟩,Zak.binds (fun _ _ _ _ _ _=>Zcq fun _=>rfl),Xi Zni⟩
  |succ n ih=>
   refine⟨fun C hC=> ?_⟩;rcases hC with hC
   ·cases hC.symm;exact⟨T.cl_House,_,_,⟨X6,Zfz,Zak.kp⟩,Zak.binds (fun _ _ _ _ _ _=>Zcq fun _=>rfl),Zip Zak T n⟩
 have ZhP:∀n,Za2 l.prog w K mg base CX0 (14+n+1) "due_on" ["self","day"] (Zec Zg Zd Ze Zb n) (fun C=>C=Zk):=fun n=>by
  induction n with
  |zero=>
   refine⟨fun C hC=> ?_⟩;rcases hC with hC
   ·cases hC.symm;exact⟨T.cl_House,_,_,⟨Z9,ZdX,Jw.kp⟩,Jw.binds (fun _ _ _ _ _ _=>Xv fun _ _=>rfl),Xi ZkX⟩
  |succ n ih=>
   refine⟨fun C hC=> ?_⟩;rcases hC with hC
   ·cases hC.symm;exact⟨T.cl_House,_,_,⟨Z9,ZdX,Jw.kp⟩,Jw.binds (fun _ _ _ _ _ _=>Xv fun _ _=>rfl),ZgE Jw T n Xy Zcz ZhO Jg⟩
 have ZmN:∀n,Za2 l.prog w K mg base CX0 (27+n+1) "run" ["self","day"] (ZjU Zg Zd Ze Zb n) (fun C=>C=Zk):=fun n=>by
  induction n with
  |zero=>
   refine⟨fun C hC=> ?_⟩;rcases hC with hC
   ·cases hC.symm;exact⟨T.cl_House,_,_,⟨Z00,Zgq,ZaR.kp⟩,ZaR.binds (fun _ _ _ _ _ _=>Xv fun _ _=>rfl),Xi Zp8⟩
  |succ n ih=>
   refine⟨fun C hC=> ?_⟩;rcases hC with hC
   ·cases hC.symm;exact⟨T.cl_House,_,_,⟨Z00,Zgq,ZaR.kp⟩,ZaR.binds (fun _ _ _ _ _ _=>Xv fun _ _=>rfl),ZjV ZaR T n (ZhP 12)⟩
 have ZeG:∀n,Za2 l.prog w K mg base CX0 (0+n+1) "keep_row" ["self","row"] (ZbW Zg Zd Ze Zb n) (fun C=>C=Zk):=fun n=>by
  induction n with
  |zero=>
   refine⟨fun C hC=> ?_⟩;rcases hC with hC
   ·cases hC.symm;exact⟨T.cl_House,_,_,⟨Z4,ZcF,Ja.kp⟩,Ja.binds (fun _ _ _ _ _ _=>Xv fun _ _=>rfl),Xi Zis⟩
  |succ n ih=>
   refine⟨fun C hC=> ?_⟩;rcases hC with hC
   ·cases hC.symm;exact⟨T.cl_House,_,_,⟨Z4,ZcF,Ja.kp⟩,Ja.binds (fun _ _ _ _ _ _=>Xv fun _ _=>rfl),Zfn Ja T n⟩
 have Zd4:∀n,Za2 l.prog w K mg base CX0 (1+n+1) "refuse_row" ["self","row"] (Zaz Zg Zd Ze Zb n) (fun C=>C=Zk):=fun n=>by
  induction n with
  |zero=>
   refine⟨fun C hC=> ?_⟩;rcases hC with hC
   ·cases hC.symm;exact⟨T.cl_House,_,_,⟨Z0,ZbN,Xo.kp⟩,Xo.binds (fun _ _ _ _ _ _=>Xv fun _ _=>rfl),Xi ZgC⟩
  |succ n ih=>
   refine⟨fun C hC=> ?_⟩;rcases hC with hC
   ·cases hC.symm;exact⟨T.cl_House,_,_,⟨Z0,ZbN,Xo.kp⟩,Xo.binds (fun _ _ _ _ _ _=>Xv fun _ _=>rfl),Zee Xo T n ZfX Zac ZbH⟩
 have Zd5:∀n,Za2 l.prog w K mg base CX0 (0+n+1) "touched_by" ["self","row"] (ZaA Zg Zd Ze Zb n) (fun C=>C=Zk):=fun n=>by
  induction n with
  |zero=>
   refine⟨fun C hC=> ?_⟩;rcases hC with hC
   ·cases hC.symm;exact⟨T.cl_House,_,_,⟨Z1,ZbO,Xp.kp⟩,Xp.binds (fun _ _ _ _ _ _=>Xv fun _ _=>rfl),Xi ZgD⟩
  |succ n ih=>
   refine⟨fun C hC=> ?_⟩;rcases hC with hC
   ·cases hC.symm;exact⟨T.cl_House,_,_,⟨Z1,ZbO,Xp.kp⟩,Xp.binds (fun _ _ _ _ _ _=>Xv fun _ _=>rfl),Zeg Xp T n⟩
 have ZdJ:∀n,Za2 l.prog w K mg base CX0 (14+n+1) "words_now" ["self","records"] (Zbf Zg Zd Ze Zb n) (fun C=>C=Zk):=fun n=>by
  induction n with
  |zero=>
   refine⟨fun C hC=> ?_⟩;rcases hC with hC
   ·cases hC.symm;exact⟨T.cl_House,_,_,⟨Z2,ZbZ,XH.kp⟩,XH.binds (fun _ _ _ _ _ _=>Xv fun _ _=>rfl),Xi ZhK⟩
  |succ n ih=>
   refine⟨fun C hC=> ?_⟩;rcases hC with hC
   ·cases hC.symm;exact⟨T.cl_House,_,_,⟨Z2,ZbZ,XH.kp⟩,XH.binds (fun _ _ _ _ _ _=>Xv fun _ _=>rfl),ZeF XH T n Xy Zcz Jg⟩
 have Zka:∀n,Za2 l.prog w K mg base CX0 (27+n+1) "tell" ["self","row"] (ZgU Zg Zd Ze Zb n) (fun C=>C=Zk):=fun n=>by
  induction n with
  |zero=>
   refine⟨fun C hC=> ?_⟩;rcases hC with hC
   ·cases hC.symm;exact⟨T.cl_House,_,_,⟨X4,Zfx,Zai.kp⟩,Zai.binds (fun _ _ _ _ _ _=>Xv fun _ _=>rfl),Xi Znv⟩
  |succ n ih=>
   refine⟨fun C hC=> ?_⟩;rcases hC with hC
   ·cases hC.symm;exact⟨T.cl_House,_,_,⟨X4,Zfx,Zai.kp⟩,Zai.binds (fun _ _ _ _ _ _=>Xv fun _ _=>rfl),Ziw Zai T n (ZeG 12) (Zd4 12) (Zd5 12) (ZdJ 12)⟩
 exact ZrA Zsu T ZgV Zcf YS ZeN Zcg ZdQ Zdb (Zk9 12) (Zed 12) (Zi5 12) (ZmN 12) (Zka 12)
end K91
namespace PySem.W.Fast
theorem tw6378274027084611712:0=0:=rfl
theorem tw1342694850234384544:0=0:=rfl
theorem tw3522999498492092576:0=0:=rfl
theorem tw1081565541745972448:0=0:=rfl
theorem tw1487895780694349056:0=0:=rfl
theorem tw9440053353094497568:0=0:=rfl
theorem tw10184840711298261280:0=0:=rfl
theorem tw16719419339395297568:0=0:=rfl
theorem tw9484317850914244928:0=0:=rfl
theorem tw16768744719767125312:0=0:=rfl
theorem tw7180487969789754720:0=0:=rfl
theorem tw8153442590628499808:0=0:=rfl
theorem tw3806082605189203360:0=0:=rfl
theorem tw11444116672546540000:0=0:=rfl
theorem tw5776169786860028384:0=0:=rfl
theorem tw11446690682765687424:0=0:=rfl
theorem tw4916833606223993504:0=0:=rfl
theorem tw12154058593774292640:0=0:=rfl
theorem tw5928682657303093920:0=0:=rfl
theorem tw537148432523906816:0=0:=rfl
theorem tw13691385729067353920:0=0:=rfl
theorem tw11834155897518455616:0=0:=rfl
theorem tw11193564691632251744:0=0:=rfl
theorem tw6423547036332060544:0=0:=rfl
theorem tw3384568238737089537:0=0:=rfl
theorem tw8641293404305288417:0=0:=rfl
theorem tw5982823209886179585:0=0:=rfl
theorem tw11763022036892810529:0=0:=rfl
theorem tw980101464044698945:0=0:=rfl
theorem tw2286242470872319361:0=0:=rfl
theorem tw5900464637993603585:0=0:=rfl
theorem tw11457598826103236161:0=0:=rfl
theorem tw8331832935704944289:0=0:=rfl
theorem tw4060577547739271937:0=0:=rfl
theorem tw2750139133120199489:0=0:=rfl
theorem tw17552930330516423585:0=0:=rfl
theorem tw12888628389491608481:0=0:=rfl
theorem tw17717241891156760545:0=0:=rfl
theorem tw14265802073272522754:0=0:=rfl
theorem tw15721477321199896578:0=0:=rfl
theorem tw7117613519455686690:0=0:=rfl
theorem tw4397740769053801570:0=0:=rfl
theorem tw9188383273279243362:0=0:=rfl
theorem tw8712697700335299714:0=0:=rfl
theorem tw13225660491993134210:0=0:=rfl
theorem tw7185494245451440290:0=0:=rfl
theorem tw13061761025803781314:0=0:=rfl
theorem tw3868280012812821986:0=0:=rfl
theorem tw8376425382494808578:0=0:=rfl
theorem tw11067575536791168546:0=0:=rfl
theorem tw2847917466499637826:0=0:=rfl
theorem tw12934832837797527170:0=0:=rfl
theorem tw4142727081269196482:0=0:=rfl
theorem tw15430976344362683074:0=0:=rfl
theorem tw2557305779759785698:0=0:=rfl
theorem tw1631599964229994466:0=0:=rfl
theorem tw18390879437756366851:0=0:=rfl
theorem tw18096982145085047811:0=0:=rfl
theorem tw9829461233562160163:0=0:=rfl
theorem tw16103513491712572451:0=0:=rfl
theorem tw714999695202740259:0=0:=rfl
theorem tw15429798850309433443:0=0:=rfl
theorem tw15486119321386320067:0=0:=rfl
theorem tw6931027257065557187:0=0:=rfl
theorem tw11819115810868809955:0=0:=rfl
theorem tw4185525860964871459:0=0:=rfl
theorem tw11205848457198054723:0=0:=rfl
theorem tw12421721527253727555:0=0:=rfl
theorem tw13019700157359245795:0=0:=rfl
theorem tw5807746260578955747:0=0:=rfl
theorem tw6456992880498048643:0=0:=rfl
theorem tw2676559412858228387:0=0:=rfl
theorem tw18202993476885986051:0=0:=rfl
theorem tw3286134831520852803:0=0:=rfl
theorem tw11721212735643582339:0=0:=rfl
theorem tw11687708468325590979:0=0:=rfl
theorem tw11655567408060984356:0=0:=rfl
theorem tw711407913109409988:0=0:=rfl
theorem tw2684757867267164388:0=0:=rfl
theorem tw13356084523793156324:0=0:=rfl
theorem tw18005674494795801828:0=0:=rfl
theorem tw6537442746407433476:0=0:=rfl
theorem tw11751964880717239588:0=0:=rfl
theorem tw14167707124292081092:0=0:=rfl
theorem tw8451720196899467748:0=0:=rfl
theorem tw5584621018444480996:0=0:=rfl
theorem tw9045351071212804740:0=0:=rfl
theorem tw8261713788641223300:0=0:=rfl
theorem tw10084779160543642308:0=0:=rfl
theorem tw17477431309370287844:0=0:=rfl
theorem tw11606306826379872132:0=0:=rfl
theorem tw1784534343471238084:0=0:=rfl
theorem tw13851411579854298052:0=0:=rfl
theorem tw8689030709823805541:0=0:=rfl
theorem tw9056879044099251333:0=0:=rfl
theorem tw14071927302907192549:0=0:=rfl
theorem tw12870804263095702821:0=0:=rfl
theorem tw15706024660231823685:0=0:=rfl
theorem tw9102909587901810053:0=0:=rfl
theorem tw3291206863983220133:0=0:=rfl
theorem tw18018115701151288805:0=0:=rfl
theorem tw7672944813191724613:0=0:=rfl
theorem tw4348581964147853893:0=0:=rfl
theorem tw5428780418266578533:0=0:=rfl
theorem tw3702306067462682213:0=0:=rfl
theorem tw6365549493394803397:0=0:=rfl
theorem tw10110380188040993509:0=0:=rfl
theorem tw10319182028158192389:0=0:=rfl
theorem tw8802502095486391045:0=0:=rfl
theorem tw11233331037742006085:0=0:=rfl
theorem tw5843094451213677413:0=0:=rfl
theorem tw4049342164651374469:0=0:=rfl
theorem tw15324732229650750373:0=0:=rfl
theorem tw9664248600303078341:0=0:=rfl
theorem tw11298907787479987141:0=0:=rfl
theorem tw5186757224794530822:0=0:=rfl
theorem tw4073319128503267334:0=0:=rfl
theorem tw16107535766993485830:0=0:=rfl
theorem tw15186652694851719206:0=0:=rfl
theorem tw7017392350593575174:0=0:=rfl
theorem tw16941562596157320582:0=0:=rfl
theorem tw9293623116330054054:0=0:=rfl
theorem tw13313913589094102438:0=0:=rfl
theorem tw18156372740246292934:0=0:=rfl
theorem tw14240154161288796646:0=0:=rfl
theorem tw14427125000707002918:0=0:=rfl
theorem tw213003877847131782:0=0:=rfl
theorem tw2427723321841078950:0=0:=rfl
theorem tw9522928557742293862:0=0:=rfl
theorem tw7500075405611533190:0=0:=rfl
theorem tw74403144693358631:0=0:=rfl
theorem tw16730652898004466727:0=0:=rfl
theorem tw15819686598238505031:0=0:=rfl
theorem tw1121483946888631559:0=0:=rfl
theorem tw12694035726156118343:0=0:=rfl
theorem tw14898062727854770535:0=0:=rfl
theorem tw15821081017023175143:0=0:=rfl
theorem tw12533934957683020295:0=0:=rfl
theorem tw1428916979522257415:0=0:=rfl
theorem tw4571826629771282055:0=0:=rfl
theorem tw2725946852571252391:0=0:=rfl
theorem tw14260782652838691495:0=0:=rfl
theorem tw12774405826594538183:0=0:=rfl
theorem tw176295231404110663:0=0:=rfl
theorem tw13453709066010882184:0=0:=rfl
theorem tw5546957530471324840:0=0:=rfl
theorem tw8871367903503495432:0=0:=rfl
theorem tw11227337458469407048:0=0:=rfl
theorem tw8731005004278364520:0=0:=rfl
theorem tw16899660615481255272:0=0:=rfl
theorem tw17287460186521027976:0=0:=rfl
theorem tw7084403401167214088:0=0:=rfl
theorem tw13577433041510824584:0=0:=rfl
theorem tw16964590837869496008:0=0:=rfl
theorem tw17481774113155520232:0=0:=rfl
theorem tw18344534233118667560:0=0:=rfl
theorem tw9133905959761425224:0=0:=rfl
theorem tw5702004249290358632:0=0:=rfl
theorem tw12095135915353047049:0=0:=rfl
theorem tw15446398721895474217:0=0:=rfl
theorem tw1002950146600397897:0=0:=rfl
theorem tw15898325928815101033:0=0:=rfl
theorem tw11380572309672240329:0=0:=rfl
theorem tw6064858633092544713:0=0:=rfl
theorem tw4038461525811266793:0=0:=rfl
theorem tw8839110745135600873:0=0:=rfl
theorem tw11546326627480326441:0=0:=rfl
theorem tw12130472767950672201:0=0:=rfl
theorem tw14758956405977275721:0=0:=rfl
theorem tw13883053544591326537:0=0:=rfl
theorem tw7579769235915305321:0=0:=rfl
theorem tw13465849959008552489:0=0:=rfl
theorem tw6335669982383330889:0=0:=rfl
theorem tw2347549192863111785:0=0:=rfl
theorem tw14080094440396512905:0=0:=rfl
theorem tw1212300436238641833:0=0:=rfl
theorem tw13837768784112958121:0=0:=rfl
theorem tw2451572990792374985:0=0:=rfl
theorem tw5216017527730535113:0=0:=rfl
theorem tw14124226449363582697:0=0:=rfl
theorem tw1022069635286936297:0=0:=rfl
theorem tw8265770109376407305:0=0:=rfl
theorem tw701987104242666313:0=0:=rfl
theorem tw6989269699381975945:0=0:=rfl
theorem tw10471382233035053098:0=0:=rfl
theorem tw4350196436761904234:0=0:=rfl
theorem tw505377935416901738:0=0:=rfl
theorem tw1601284632945310858:0=0:=rfl
theorem tw7731305854627331210:0=0:=rfl
theorem tw71253662981286058:0=0:=rfl
theorem tw16336905619773149418:0=0:=rfl
theorem tw6413947792140026122:0=0:=rfl
theorem tw4449662857765903690:0=0:=rfl
theorem tw14596612201544599882:0=0:=rfl
theorem tw8591147155569624426:0=0:=rfl
theorem tw5012742977463135626:0=0:=rfl
theorem tw14512301181392597386:0=0:=rfl
theorem tw13651139194818487754:0=0:=rfl
theorem tw5599150680203934186:0=0:=rfl
theorem tw6360367601197603338:0=0:=rfl
theorem tw8380808819563898538:0=0:=rfl
theorem tw10807614007859129130:0=0:=rfl
theorem tw6018761060126062474:0=0:=rfl
theorem tw3406515943781312458:0=0:=rfl
theorem tw12681821435958215723:0=0:=rfl
theorem tw1342973517524763723:0=0:=rfl
theorem tw17652666043520610379:0=0:=rfl
theorem tw6781367118577902731:0=0:=rfl
theorem tw2816773128339079307:0=0:=rfl
theorem tw747807610933424299:0=0:=rfl
theorem tw841790226745623755:0=0:=rfl
theorem tw1217628915150334347:0=0:=rfl
theorem tw17336787248291641771:0=0:=rfl
theorem tw13016284993499227595:0=0:=rfl
theorem tw7186846405223140939:0=0:=rfl
theorem tw16877582416120879691:0=0:=rfl
theorem tw9706893046578347659:0=0:=rfl
theorem tw2638440927028054667:0=0:=rfl
theorem tw8345581231233559243:0=0:=rfl
theorem tw17499644659848883019:0=0:=rfl
theorem tw8775707617474632523:0=0:=rfl
theorem tw15107042309914740587:0=0:=rfl
theorem tw6159926063111826379:0=0:=rfl
theorem tw14091827259532523532:0=0:=rfl
theorem tw10236998900092501036:0=0:=rfl
theorem tw9516941704796845100:0=0:=rfl
theorem tw17183587132248080460:0=0:=rfl
theorem tw14555914489062798444:0=0:=rfl
theorem tw13802834517771529356:0=0:=rfl
theorem tw17257491770960941260:0=0:=rfl
theorem tw15182432455101397196:0=0:=rfl
theorem tw5171401723863955660:0=0:=rfl
theorem tw13359960538797215980:0=0:=rfl
theorem tw17311417470821741868:0=0:=rfl
theorem tw15020584574253371820:0=0:=rfl
theorem tw3449077677562548652:0=0:=rfl
theorem tw12770362748846764620:0=0:=rfl
theorem tw10839643106561816204:0=0:=rfl
theorem tw8277109457685715628:0=0:=rfl
theorem tw14006763249803079372:0=0:=rfl
theorem tw16114154497210530604:0=0:=rfl
theorem tw207278152990278540:0=0:=rfl
theorem tw13310738724460657580:0=0:=rfl
theorem tw9959422262697730028:0=0:=rfl
theorem tw6783005311182567404:0=0:=rfl
theorem tw8915978520928264269:0=0:=rfl
theorem tw15218000463833159757:0=0:=rfl
theorem tw4607058519308619885:0=0:=rfl
theorem tw5158852957066810573:0=0:=rfl
theorem tw8661446401569365197:0=0:=rfl
theorem tw3531379982196949421:0=0:=rfl
theorem tw13106217608202569165:0=0:=rfl
theorem tw16182174345552848397:0=0:=rfl
theorem tw15163684971461693997:0=0:=rfl
theorem tw5000091905429204525:0=0:=rfl
theorem tw5566260770851919437:0=0:=rfl
theorem tw15632537941303280205:0=0:=rfl
theorem tw10009487436904430157:0=0:=rfl
theorem tw16749524174174005933:0=0:=rfl
theorem tw15062461550978758349:0=0:=rfl
theorem tw12564625440761276141:0=0:=rfl
theorem tw3957191738428561229:0=0:=rfl
theorem tw13482776093479776237:0=0:=rfl
theorem tw10861013067904606189:0=0:=rfl
theorem tw17590079524087421006:0=0:=rfl
theorem tw2519982742875078798:0=0:=rfl
theorem tw7785080990821161230:0=0:=rfl
theorem tw486701462397006158:0=0:=rfl
theorem tw17457161259874458990:0=0:=rfl
theorem tw2723368896520027534:0=0:=rfl
theorem tw4388553994893621710:0=0:=rfl
theorem tw9663211883617599982:0=0:=rfl
theorem tw17344335589822255598:0=0:=rfl
theorem tw9393388061008861870:0=0:=rfl
theorem tw8875605140230952718:0=0:=rfl
theorem tw12829027013058354158:0=0:=rfl
theorem tw4404225105001619503:0=0:=rfl
theorem tw6102752205440972879:0=0:=rfl
theorem tw5268787659700481135:0=0:=rfl
theorem tw17403547672125957263:0=0:=rfl
theorem tw4914011184188893327:0=0:=rfl
theorem tw2512845254315766927:0=0:=rfl
theorem tw9680696222668154031:0=0:=rfl
theorem tw14557610684331717807:0=0:=rfl
theorem tw17467760668667582767:0=0:=rfl
theorem tw13005422402716445039:0=0:=rfl
theorem tw16791926728050882959:0=0:=rfl
theorem tw3698414908412392879:0=0:=rfl
theorem tw382050997128670671:0=0:=rfl
theorem tw10522991774060686799:0=0:=rfl
theorem tw18394994713967415919:0=0:=rfl
theorem tw9299113554954144399:0=0:=rfl
theorem tw2805625703928467119:0=0:=rfl
theorem tw3181134760098246447:0=0:=rfl
theorem tw14688396971882086351:0=0:=rfl
theorem tw5747340552258221104:0=0:=rfl
theorem tw4780362248132393008:0=0:=rfl
theorem tw7110139791665088656:0=0:=rfl
theorem tw10636049719048880432:0=0:=rfl
theorem tw8849244600695615856:0=0:=rfl
theorem tw852057273082238480:0=0:=rfl
theorem tw9059414939525991984:0=0:=rfl
theorem tw4115135619452491312:0=0:=rfl
theorem tw17541604975038739120:0=0:=rfl
theorem tw4412962350296175312:0=0:=rfl
theorem tw6497819315494992784:0=0:=rfl
theorem tw2267308401387522032:0=0:=rfl
theorem tw14162748899342955601:0=0:=rfl
theorem tw12806197831826253937:0=0:=rfl
theorem tw5997278100828914833:0=0:=rfl
theorem tw5909889734856206545:0=0:=rfl
theorem tw9163576491422183633:0=0:=rfl
theorem tw177548206089432337:0=0:=rfl
theorem tw11783917265352291633:0=0:=rfl
theorem tw4875898849273581905:0=0:=rfl
theorem tw13227109677007942097:0=0:=rfl
theorem tw5929696553787293265:0=0:=rfl
theorem tw6938068510515308177:0=0:=rfl
theorem tw12337630186935009969:0=0:=rfl
theorem tw5413180925958773457:0=0:=rfl
theorem tw12479777097152559825:0=0:=rfl
theorem tw8860070640485004081:0=0:=rfl
theorem tw14405838957274690385:0=0:=rfl
theorem tw14111035335057707889:0=0:=rfl
theorem tw3648392466313839537:0=0:=rfl
theorem tw17947522812589539249:0=0:=rfl
theorem tw528137629020938386:0=0:=rfl
theorem tw5013243666628499634:0=0:=rfl
theorem tw16385875872307599602:0=0:=rfl
theorem tw10883872067209577778:0=0:=rfl
theorem tw7572534493911250258:0=0:=rfl
theorem tw12777812569069837714:0=0:=rfl
theorem tw2851703057970377170:0=0:=rfl
theorem tw10132162864729164370:0=0:=rfl
theorem tw13909931567745982034:0=0:=rfl
theorem tw17411735394298611314:0=0:=rfl
theorem tw7018250380389924466:0=0:=rfl
theorem tw586490686136502962:0=0:=rfl
theorem tw9859466198206918482:0=0:=rfl
theorem tw11865413473095362418:0=0:=rfl
theorem tw2250062935169284978:0=0:=rfl
theorem tw1739718547560182674:0=0:=rfl
theorem tw11283753423782861810:0=0:=rfl
theorem tw1149866254089391251:0=0:=rfl
theorem tw18214180859211978963:0=0:=rfl
theorem tw9096073520629497139:0=0:=rfl
theorem tw12199546976479926739:0=0:=rfl
theorem tw13049177593765340627:0=0:=rfl
theorem tw14920013858570273267:0=0:=rfl
theorem tw9208783007208119859:0=0:=rfl
theorem tw10269806276660798131:0=0:=rfl
theorem tw6344557116960951219:0=0:=rfl
theorem tw15542662249511623635:0=0:=rfl
theorem tw3326132934805675987:0=0:=rfl
theorem tw9228166841938282548:0=0:=rfl
theorem tw17396134165904924724:0=0:=rfl
theorem tw12762964765368915092:0=0:=rfl
theorem tw2365159056482317460:0=0:=rfl
theorem tw8390857074513495220:0=0:=rfl
theorem tw4599870110643461364:0=0:=rfl
theorem tw13893702832842608916:0=0:=rfl
theorem tw10133370574644359508:0=0:=rfl
theorem tw10928110467285720436:0=0:=rfl
theorem tw16145484892201931124:0=0:=rfl
theorem tw13505442254044639604:0=0:=rfl
theorem tw1171436463363312052:0=0:=rfl
theorem tw14066909600361193972:0=0:=rfl
theorem tw4033611031182663220:0=0:=rfl
theorem tw4380421695801643604:0=0:=rfl
theorem tw9882583426238005012:0=0:=rfl
theorem tw13575443605607564052:0=0:=rfl
theorem tw13521668987812214548:0=0:=rfl
theorem tw8364879384980667188:0=0:=rfl
theorem tw286876146669121332:0=0:=rfl
theorem tw9438340351553631028:0=0:=rfl
theorem tw10345318606961036116:0=0:=rfl
theorem tw13475582954618389332:0=0:=rfl
theorem tw17191170108239910740:0=0:=rfl
theorem tw16038831782824142740:0=0:=rfl
theorem tw6036626501999079316:0=0:=rfl
theorem tw17372190550670901172:0=0:=rfl
theorem tw18416161179119981492:0=0:=rfl
theorem tw12999261533028389812:0=0:=rfl
theorem tw1609121189840705492:0=0:=rfl
theorem tw15002575391416554517:0=0:=rfl
theorem tw15997938017324179509:0=0:=rfl
theorem tw5259319990281114709:0=0:=rfl
theorem tw18226819655935434837:0=0:=rfl
theorem tw286444398422274165:0=0:=rfl
theorem tw10749322452126348565:0=0:=rfl
theorem tw930281884604349717:0=0:=rfl
theorem tw12850402916548729173:0=0:=rfl
theorem tw13630767478907361685:0=0:=rfl
theorem tw5242594734346881461:0=0:=rfl
theorem tw11782736899000161781:0=0:=rfl
theorem tw3184562316064490005:0=0:=rfl
theorem tw16558289721403183637:0=0:=rfl
theorem tw16639443077305330261:0=0:=rfl
theorem tw6564494797829545589:0=0:=rfl
theorem tw17893319168155687573:0=0:=rfl
theorem tw10074647488659262165:0=0:=rfl
theorem tw16180598326199416565:0=0:=rfl
theorem tw6284820789650086645:0=0:=rfl
theorem tw17261702078756382485:0=0:=rfl
theorem tw13546751567780480789:0=0:=rfl
theorem tw15003685062111806389:0=0:=rfl
theorem tw15277257698686714869:0=0:=rfl
theorem tw2261081110899530774:0=0:=rfl
theorem tw9479908911397751830:0=0:=rfl
theorem tw5616218071067598966:0=0:=rfl
theorem tw4706395453281227926:0=0:=rfl
theorem tw16572260605868969142:0=0:=rfl
theorem tw6545060711085687990:0=0:=rfl
theorem tw10049096806750383350:0=0:=rfl
theorem tw7519711704332212630:0=0:=rfl
theorem tw9626071226871026166:0=0:=rfl
theorem tw9031137797391193654:0=0:=rfl
theorem tw6577123128078254646:0=0:=rfl
theorem tw15677578752083081814:0=0:=rfl
theorem tw11743522356049048182:0=0:=rfl
theorem tw904086371130529494:0=0:=rfl
theorem tw10333587189092131606:0=0:=rfl
theorem tw4107955257226621750:0=0:=rfl
theorem tw4409705561759053654:0=0:=rfl
theorem tw14327258669300130678:0=0:=rfl
theorem tw6042370457489492886:0=0:=rfl
theorem tw3103107474996411318:0=0:=rfl
theorem tw2914154130172965878:0=0:=rfl
theorem tw4937940600060248054:0=0:=rfl
theorem tw13692427188063226999:0=0:=rfl
theorem tw10028778095692731607:0=0:=rfl
theorem tw14694559449831277815:0=0:=rfl
theorem tw904232868229517559:0=0:=rfl
theorem tw14322677353277547799:0=0:=rfl
theorem tw16498101844391821623:0=0:=rfl
theorem tw16690004135716638007:0=0:=rfl
theorem tw3907937535415064919:0=0:=rfl
theorem tw16171636261216847255:0=0:=rfl
theorem tw7189153737010043287:0=0:=rfl
theorem tw5633575093075537399:0=0:=rfl
theorem tw15310440955155881527:0=0:=rfl
theorem tw12622158840741378743:0=0:=rfl
theorem tw12484025621108321047:0=0:=rfl
theorem tw5526096618321842007:0=0:=rfl
theorem tw13891473988492117847:0=0:=rfl
theorem tw1001506746252394327:0=0:=rfl
theorem tw15042990894659542903:0=0:=rfl
theorem tw14300229699573353624:0=0:=rfl
theorem tw16220753228773961944:0=0:=rfl
theorem tw10956364811033425112:0=0:=rfl
theorem tw13694579263728936152:0=0:=rfl
theorem tw8560847036461246712:0=0:=rfl
theorem tw460960085102590264:0=0:=rfl
theorem tw16927863641678734744:0=0:=rfl
theorem tw7267737704613748120:0=0:=rfl
theorem tw10378814512556112312:0=0:=rfl
theorem tw13638053293197349400:0=0:=rfl
theorem tw16511342993124358680:0=0:=rfl
theorem tw3123156424864304984:0=0:=rfl
theorem tw901043764772892504:0=0:=rfl
theorem tw11209243111704376248:0=0:=rfl
theorem tw11990339268574223481:0=0:=rfl
theorem tw9216115178771010745:0=0:=rfl
theorem tw14856469017724590297:0=0:=rfl
theorem tw10133165614823005401:0=0:=rfl
theorem tw9223349974501890329:0=0:=rfl
theorem tw15130647020326546713:0=0:=rfl
theorem tw10167388194828416409:0=0:=rfl
theorem tw5916348829881088409:0=0:=rfl
theorem tw7211922551776167321:0=0:=rfl
theorem tw8186017811772149177:0=0:=rfl
theorem tw1835294886855399897:0=0:=rfl
theorem tw12534507080207649273:0=0:=rfl
theorem tw5104935955805257241:0=0:=rfl
theorem tw15484815971800124057:0=0:=rfl
theorem tw17292801797070634745:0=0:=rfl
theorem tw726793691553845049:0=0:=rfl
theorem tw10046269450802450297:0=0:=rfl
theorem tw2777718984999999481:0=0:=rfl
theorem tw14642923938473272313:0=0:=rfl
theorem tw17884228809377376249:0=0:=rfl
theorem tw11695743289797197850:0=0:=rfl
theorem tw6656028387330969626:0=0:=rfl
theorem tw509283894389336122:0=0:=rfl
theorem tw13660370204565383258:0=0:=rfl
theorem tw13621031437123843194:0=0:=rfl
theorem tw7627878004198779034:0=0:=rfl
theorem tw3610374145986722074:0=0:=rfl
theorem tw11231542964626916730:0=0:=rfl
theorem tw14260519213906053530:0=0:=rfl
theorem tw16360420104534066586:0=0:=rfl
theorem tw8096598781658742234:0=0:=rfl
theorem tw7875076043597313562:0=0:=rfl
theorem tw9719621506331285082:0=0:=rfl
theorem tw15010019432793131610:0=0:=rfl
theorem tw10918623947356405402:0=0:=rfl
theorem tw6905761305238759130:0=0:=rfl
theorem tw15811020707890672378:0=0:=rfl
theorem tw10547302304012175194:0=0:=rfl
theorem tw10325465362103042906:0=0:=rfl
theorem tw17622501024700530586:0=0:=rfl
theorem tw7423925816129468378:0=0:=rfl
theorem tw17388331951584072698:0=0:=rfl
theorem tw10445136432936566778:0=0:=rfl
theorem tw7673049499672392763:0=0:=rfl
theorem tw14756567411689087035:0=0:=rfl
theorem tw8469328339079718971:0=0:=rfl
theorem tw7403861105505994843:0=0:=rfl
theorem tw5497296919657302107:0=0:=rfl
theorem tw15281303022207630427:0=0:=rfl
theorem tw12965609795692397691:0=0:=rfl
theorem tw15097639528982484155:0=0:=rfl
theorem tw13848050549935888635:0=0:=rfl
theorem tw7891465023131113915:0=0:=rfl
theorem tw15931348939932695995:0=0:=rfl
theorem tw3153699549280568891:0=0:=rfl
theorem tw1468200744779035227:0=0:=rfl
theorem tw11859472101032864411:0=0:=rfl
theorem tw10316595211250950843:0=0:=rfl
theorem tw1237861819521475259:0=0:=rfl
theorem tw9274352537240389307:0=0:=rfl
theorem tw14039427891760917211:0=0:=rfl
theorem tw14996101373889874779:0=0:=rfl
theorem tw10442025467256297500:0=0:=rfl
theorem tw836916595328518172:0=0:=rfl
theorem tw13002752767462301788:0=0:=rfl
theorem tw4902975116294225020:0=0:=rfl
theorem tw18051727350468543676:0=0:=rfl
theorem tw12669904627861467356:0=0:=rfl
theorem tw1552275236072301820:0=0:=rfl
theorem tw7848446259352404220:0=0:=rfl
theorem tw9251529346983096700:0=0:=rfl
theorem tw13205626211933581724:0=0:=rfl
theorem tw11904628218589239804:0=0:=rfl
theorem tw6817083586858930716:0=0:=rfl
theorem tw16334134906521152060:0=0:=rfl
theorem tw16273525846011031164:0=0:=rfl
theorem tw13758692518414328508:0=0:=rfl
theorem tw2291035803806700284:0=0:=rfl
theorem tw3380680454300299068:0=0:=rfl
theorem tw13848391075652494140:0=0:=rfl
theorem tw9495142807358277468:0=0:=rfl
theorem tw16970698453062140764:0=0:=rfl
theorem tw15329937550934673308:0=0:=rfl
theorem tw1561250886677608509:0=0:=rfl
theorem tw2407069924772553821:0=0:=rfl
theorem tw6253804495086114941:0=0:=rfl
theorem tw2469190294885890205:0=0:=rfl
theorem tw8214095248453933309:0=0:=rfl
theorem tw15976317265360553309:0=0:=rfl
theorem tw1866002720370486685:0=0:=rfl
theorem tw6879875704135553533:0=0:=rfl
theorem tw18396273949991215645:0=0:=rfl
theorem tw975238333652906589:0=0:=rfl
theorem tw2223415362908881597:0=0:=rfl
theorem tw4481145590216084189:0=0:=rfl
theorem tw7504642993824827165:0=0:=rfl
theorem tw9418997694541515549:0=0:=rfl
theorem tw5395358140185880413:0=0:=rfl
theorem tw16198159132669231997:0=0:=rfl
theorem tw5022981809531851709:0=0:=rfl
theorem tw12759881879225758685:0=0:=rfl
theorem tw7319847349367738365:0=0:=rfl
theorem tw9914692543286503454:0=0:=rfl
theorem tw11477270830094867550:0=0:=rfl
theorem tw17237326542752242814:0=0:=rfl
theorem tw3984147066932695358:0=0:=rfl
theorem tw3250753882586862046:0=0:=rfl
theorem tw1348124331911225918:0=0:=rfl
theorem tw8930078666307851966:0=0:=rfl
theorem tw8348234484825174814:0=0:=rfl
theorem tw9509202286089290590:0=0:=rfl
theorem tw4735184569708428158:0=0:=rfl
theorem tw3610437879210129278:0=0:=rfl
theorem tw1219910377067304862:0=0:=rfl
theorem tw14528636155034078142:0=0:=rfl
theorem tw3212645487305503678:0=0:=rfl
theorem tw7490857904615778399:0=0:=rfl
theorem tw10550291311553858751:0=0:=rfl
theorem tw4979509077621761247:0=0:=rfl
theorem tw13322770137437099295:0=0:=rfl
theorem tw5103921797708902687:0=0:=rfl
theorem tw8663964089280032063:0=0:=rfl
theorem tw2645766976029102431:0=0:=rfl
theorem tw13570118246540447103:0=0:=rfl
theorem tw15676901959653811615:0=0:=rfl
theorem tw2325180130207274431:0=0:=rfl
theorem tw16210963588904879615:0=0:=rfl
theorem tw462150770243814943:0=0:=rfl
theorem tw1724596264063053375:0=0:=rfl
theorem tw257885605739980351:0=0:=rfl
theorem tw15560428003509413471:0=0:=rfl
theorem tw15040198253969902207:0=0:=rfl
theorem tw18227269460991376063:0=0:=rfl
theorem tw13781134361201829599:0=0:=rfl
theorem tw18196889167872171743:0=0:=rfl
theorem tw14817392853281004351:0=0:=rfl
theorem tw17572385693072733087:0=0:=rfl
theorem tw9777480277859365096:0=0:=rfl
end PySem.W.Fast
open PySem PySem.W PyProof.Rows
set_option maxRecDepth 100000 in
set_option maxHeartbeats 0 in
theorem PySem.Challenge.cw_disposehall_k91_whole_any_order_between_holds : PySem.Challenge.rw_disposehall_k91_whole_any_order_between.Holds := by
 w_on;o_law;k_head;(case hw=>w_witness2)
 k_fill
 refine L3.Zs0 (l:=PySem.Challenge.rw_disposehall_k91_whole_any_order_between) (k:=41) (x:="_law_script") rfl rfl ⟨rfl,by decide,by decide⟩ (fun w h Y=>PySem.W.kIn_of Y) ?F
 case F=>
  intro w mg fa h KX G hmg;refine' K91.all_mk KX G hmg ?Z0N ?Z0O ?Z0P ?Z0t ?Z0u ?Z0g ?Z0v ?Y0 ?Z0F ?Z0G ?Z0w ?Z0H ?Z0e ?Z0x ?Z0h ?Z0i ?Z04 ?Z0j ?Z0y ?Y8 ?X7 ?X8 ?Y4 ?J3 ?Z0c ?J5 ?Z0f ?Y5 ?Y6 ?Z05 ?J6 ?Z0k ?Z06 ?Z1q ?l_law ?cd_law2 ?k_law ?Z16 ?Z17 ?Z18 ?Z0I ?Z19 ?Z0Q ?Z0R ?Z0S ?Z0T ?Z1a ?Z1b ?in_Never ?Z1c ?Z1d ?Z0U ?Z0V ?Z0W ?Z0X ?Z1e ?Z1f ?Z07 ?Z0p ?Z0q ?Z1g ?Z1h ?Z0Y ?Z0Z ?Z10 ?Z11 ?Z1i ?Z1j ?Z08 ?Z0z ?Z0l ?Z1k ?Z1l ?Z0A ?Z0B ?Z0C ?Z0D ?Z0J ?Z0K ?Y9 ?Z0m ?Z0d ?Z0L ?Z0M ?Z12 ?Z13 ?Z14 ?Z15 ?Z1m ?Z1n ?Z09 ?Z0r ?Z0s ?Z0E ?Z0a ?Z0b ?Z0n ?Z0o ?Z1o ?Z1p ?hn ?htk ?J7 ?J8 ?J9 ?Y7 ?Z6 ?Z7 ?Z8 ?Z3 ?X4 ?Z0 ?Z4 ?Z1 ?Z2 ?Z00 ?Z9 ?Z5 ?X5 ?X6 ?z_abs ?z_any ?z_dict ?z_int ?z_len ?z_list ?z_max ?z_min ?z_range ?z_reversed ?z_sorted ?z_tuple ?kib ?kii ?kll ?ktt ?kss ?ne_Never_After ?ne_Never_Later ?ne_Never_Earlier ?Z01 ?ne_After_Later ?ne_After_Earlier ?Z02 ?ne_Later_Earlier ?Z03 ?X3
  (case Z1q|Z16|Z17|Z18|Z0I|Z19=>k_is)
  (case Z0N|Z0O|Z0P|Z0t|Z0u|Z0g|Z0v|Y0|Z0F|Z0G|Z0w|Z0H|Z0e|Z0x|Z0h|Z0i|Z04|Z0j|Z0y|Y8|X7|X8|Y4|J3|Z0c|J5|Z0f|Y5|Y6|Z05|J6|Z0k|Z06=>exact⟨_,_,by k_is,L2.Zlv (by k_is) (by k_is) (by k_is)⟩)
  (case l_law|cd_law2|k_law|Z0Q|Z0R|Z0S|Z0T|Z1a|Z1b|in_Never|Z1c|Z1d|Z0U|Z0V|Z0W|Z0X|Z1e|Z1f|Z0p|Z0q|Z1g|Z1h|Z0Y|Z0Z|Z10|Z11|Z1i|Z1j|Z0z|Z0l|Z1k|Z1l|Z0A|Z0B|Z0C|Z0D|Z0J|Z0K|Z0m|Z0d|Z0L|Z0M|Z12|Z13|Z14|Z15|Z1m|Z1n|Z0r|Z0s|Z0E|Z0a|Z0b|Z0n|Z0o|Z1o|Z1p|hn|htk|z_abs|z_any|z_dict|z_int|z_len|z_list|z_max|z_min|z_range|z_reversed|z_sorted|z_tuple=>k_is)
  (case Z07|Z08|Y9|Z09|J7|J8|J9|Y7|Z6|Z7|Z8|Z3|X4|Z0|Z4|Z1|Z2|Z00|Z9|Z5|X5|X6=>exact⟨_,_,by k_is,by k_is,L2.Zlv (by k_is) (by k_is) (by k_is)⟩)
  (case kib|kii|kll|ktt|kss=>first|rfl|decide+kernel|k_is)
  (case ne_Never_After|ne_Never_Later|ne_Never_Earlier|Z01|ne_After_Later|ne_After_Earlier|Z02|ne_Later_Earlier|Z03|X3=>decide)
