import PyProof.Rows.All
import Wide.All
import OpenK.AllK
import Wide.FinOn
import Lean
import PyProof.EqAt
import PyProof.EqKinds
import PyProof.TupleCall
import PySem.Challenge.RW_disposehall_k14_too_wide
set_option Elab.async false
set_option linter.all false
set_option maxRecDepth 100000
namespace L2
open PySem PySem.Spec PyProof.Rows
abbrev Key:=Sum Int Str
def Ze5:Key->Value->Bool
 | .inl k,v=>Value.isInt k v
 | .inr x,v=>Value.isStrOf x v
def ZnD(w:World):Key->Int
 | .inl k=>hashInt k
 | .inr x=>hashStr w x
theorem YG:∀{k:Key} {v:Value},Ze5 k v=true->(∃i t,k=Sum.inl i/\v=Value.int i t)\/(∃x t,k=Sum.inr x/\v=Value.str x t)
 | .inl i,v,h=>by
  obtain⟨t,e⟩:=Value.isInt_shape (k:=i) (v:=v) h;exact .inl ⟨i,t,rfl,e⟩
 | .inr x,v,h=>by
  obtain⟨t,e⟩:=Value.isStrOf_shape (x:=x) (v:=v) h;exact .inr ⟨x,t,rfl,e⟩
theorem Zit(i:Int)(t:Tok):Ze5 (.inl i) (.int i t)=true:=by simp[Ze5,Value.isInt]
theorem Ziu(x:Str)(t:Tok):Ze5 (.inr x) (.str x t)=true:=by simp[Ze5,Value.isStrOf]
theorem ZlX(a b:Int):decide ((Sum.inl a:Key)=Sum.inl b)=(a==b):=by
 by_cases e:a=b
 ·subst e;simp
 ·have h:¬(Sum.inl a:Key)=Sum.inl b:=fun q=>e (Sum.inl.inj q);rw[decide_eq_false h];exact(beq_eq_false_iff_ne.mpr e).symm
theorem Zjg(a b:Str):decide ((Sum.inr a:Key)=Sum.inr b)=decide (a=b):=by
 by_cases e:a=b
 ·subst e;simp
 ·have h:¬(Sum.inr a:Key)=Sum.inr b:=fun q=>e (Sum.inr.inj q);rw[decide_eq_false h,decide_eq_false e]
theorem ZlY(a:Int)(b:Str):decide ((Sum.inl a:Key)=Sum.inr b)=false:=decide_eq_false (fun q=>nomatch q)
theorem ZlZ(a:Str)(b:Int):decide ((Sum.inr a:Key)=Sum.inl b)=false:=decide_eq_false (fun q=>nomatch q)
def Yu(prog:Program)(w:World):PySem.KeyKind prog w Key where
 is:=Ze5
 hash:=ZnD w
 inj:=fun v a b ha hb=>by
  rcases YG ha with ⟨i,t,rfl,rfl⟩|⟨x,t,rfl,rfl⟩
  ·rcases YG hb with ⟨j,u,rfl,e⟩|⟨y,u,rfl,e⟩
   ·injection e with e1 _;rw[e1]
   ·exact nomatch e
  ·rcases YG hb with ⟨j,u,rfl,e⟩|⟨y,u,rfl,e⟩
   ·exact nomatch e
   ·injection e with e1 _;rw[e1]
 byValue:=fun k v h=>by
  rcases YG h with ⟨i,t,rfl,rfl⟩|⟨x,t,rfl,rfl⟩<;>rfl
 pyHash:=fun hv h=>by
  rcases YG hv with ⟨i,t,rfl,rfl⟩|⟨x,t,rfl,rfl⟩
  ·exact wpAny_pyHash_int h
  ·exact wpAny_pyHash_str h
 eqBool:=fun hu hv h=>by
  rcases YG hu with ⟨i,t,rfl,rfl⟩|⟨x,t,rfl,rfl⟩
  ·rcases YG hv with ⟨j,u,rfl,rfl⟩|⟨y,u,rfl,rfl⟩
   ·rw[ZlX] at h;exact wpAny_eqBool_int h
   ·rw[ZlY] at h;exact SeqAt.EqAt.int_str i t y u _ _ _ _ h
  ·rcases YG hv with ⟨j,u,rfl,rfl⟩|⟨y,u,rfl,rfl⟩
   ·rw[ZlZ] at h;exact SeqAt.EqAt.str_int x t j u _ _ _ _ h
   ·rw[Zjg] at h;exact wpAny_eqBool_str h
 «strs»:=fun k x t v h=>by
  rcases YG h with ⟨i,u,rfl,e⟩|⟨y,u,rfl,e⟩
  ·exact nomatch e
  ·injection e with e1 _
   subst e1;cases v<;>rfl
theorem Zge(prog:Program)(w:World)(i:Int)(t:Tok):(Yu prog w).is (.inl i) (.int i t)=true:=Zit i t
theorem Zgf(prog:Program)(w:World)(x:Str)(t:Tok):(Yu prog w).is (.inr x) (.str x t)=true:=Ziu x t
end L2
namespace L2
open PySem PySem.Spec PyProof.Rows
inductive V where
 |non|bl (b:Bool)|int (i:Int)|str (x:Str)|byt (b:Array UInt8)|flt (b:UInt64)|ref (a:Addr)|ty (n:String)
 deriving DecidableEq
def ZR:V->Value->Prop
 | .non,u=>u=Value.none
 | .bl b,u=>u=Value.bool b
 | .int i,u=>∃t,u=Value.int i t
 | .str x,u=>∃t,u=Value.str x t
 | .byt b,u=>∃t,u=Value.bytes b t
 | .flt b,u=>∃t,u=Value.float b t
 | .ref a,u=>u=Value.ref a
 | .ty n,u=>u=Value.type n
abbrev ZW:List V->List Value->Prop:=Paired ZR
theorem ZW.length{xs:List V}{us:List Value}(r:ZW xs us):xs.length=us.length:=Paired.length r
theorem ZW.get:∀{xs:List V} {us:List Value} {i:Nat} {x:V},ZW xs us->xs[i]? =some x->∃u,us[i]? =some u/\ZR x u
 |_,_,_,_,.nil,e=>by simp at e
 |_,_,0,_,.cons r _,e=>by simp at e;subst e;exact⟨_,rfl,r⟩
 |_,_,i+1,x,.cons _ t,e=>by
  obtain⟨u,h1,h2⟩:=ZW.get (i:=i) (x:=x) t (by simpa using e);exact⟨u,by simpa using h1,h2⟩
theorem ZW.append:∀{xs ys:List V} {us ws:List Value},ZW xs us->ZW ys ws->ZW (xs++ys) (us++ws)
 |_,_,_,_,.nil,s=>s
 |_,_,_,_,.cons r t,s=> .cons r (ZW.append t s)
theorem ZW.take:∀{xs:List V} {us:List Value} (n:Nat),ZW xs us->ZW (xs.take n) (us.take n)
 |_,_,0,_=> .nil
 |_,_,_+1,.nil=> .nil
 |_,_,n+1,.cons r t=> .cons r (ZW.take n t)
theorem ZW.drop:∀{xs:List V} {us:List Value} (n:Nat),ZW xs us->ZW (xs.drop n) (us.drop n)
 |_,_,0,r=>r
 |_,_,_+1,.nil=> .nil
 |_,_,n+1,.cons _ t=>ZW.drop n t
def Zb5:Option V->Option Value->Prop
 |some v,some u=>ZR v u
 |none,none=>True
 |_,_=>False
def KV{κ:Type}:List (κ×V)->List (κ×Value)->Prop:=Paired fun(p:κ×V) (q:κ×Value)=>p.1=q.1/\ZR p.2 q.2
def kV:Key->V
 | .inl i=> .int i
 | .inr x=> .str x
inductive HO where
 |lst (xs:List V)
 |tup (xs:List V)
 |dK (kvs:List (Key×V))|dT (kvs:List (List Key×V))
 |set (S:Int->Bool) (n:Nat)
 |ins (C dx:Addr) (fs:List (Str×V))
 |own (x:Addr)
 |xd (fs:List (Str×V))
 |met (f x:Addr)
 |rng (lo hi:Int)
 |frz (o:Obj) (u:HO)
 |tbl (ps:Array Value)
 |ext (φ:Heap->Prop)
abbrev Hp:=Addr->Option HO
def upd(H:Hp)(a:Addr)(o:HO):Hp:=fun b=>if b=a then some o else H b
theorem Zd{H:Hp}{a:Addr}{o:HO}:upd H a o a=some o:=by unfold upd;rw[if_pos rfl]
theorem Zf{H:Hp}{a b:Addr}{o:HO}(h:b≠a):upd H a o b=H b:=by unfold upd;rw[if_neg h]
theorem Zck{H:Hp}{a:Addr}{o u:HO}:upd (upd H a o) a u=upd H a u:=by
 funext b;unfold upd;split<;>rfl
theorem Zgg{H:Hp}{a b:Addr}{o u:HO}(h:H a=some o)(h':H b=some u)(d:o≠u):a≠b:=by
 intro e;subst e;rw[h] at h';exact d (Option.some.inj h')
theorem Zk{H:Hp}{a b:Addr}{o:HO}(h:H a=some o)(h':H b=none):a≠b:=by
 intro e;subst e;rw[h] at h';cases h'
section
variable (P:Program) (w:World)
def Yz(H:Hp)(h:Heap)(a:Addr):HO->Prop
 | .lst xs=>xs.length<=sizeLine/\∃(its:List Value) (n:Nat),ZW xs its/\h.get? a=some {cls:=.type "list",data:=.seq its.toArray n}
 | .tup xs=>xs.length<=sizeLine/\∃its:List Value,ZW xs its/\IsTup h a its.toArray
 | .dK kvs=>kvs.length<=sizeLine/\(a==sysModules)=false/\∃vs,KV kvs vs/\h.DictOf (Yu P w) a vs
 | .dT kvs=>kvs.length<=sizeLine/\(a==sysModules)=false/\∃xs:List (List Key×Addr×Value),
   Paired (fun(p:List Key×V) (q:List Key×Addr×Value)=>p.1=q.1/\H q.2.1=some (.tup (p.1.map kV))/\ZR p.2 q.2.2) kvs xs/\
   ∃o es ep,h.get? a=some o/\o.ExactDict/\o.data=.dict es ep/\es.toList=xs.map (entryOfKey (tupleKind (Yu P w)))/\(xs.map (·.1)).Nodup
 | .set S n=>h.SetOf (intKind P w) a S n
 | .ins C dx fs=>H dx=some (.own a)/\fs.length<=1000/\dx≠a/\h.get? a=some (PySem.W.instObj C dx)/\
   ∃mA,h.Ns1 dx mA/\(∀f,Zb5 (fs.lookup f) (mA f))/\PySem.Within mA (fs.map (·.1))
 | .own _=>∃o,h.get? a=some o
 | .xd fs=>∃mA,h.Ns1 a mA/\∀f,Zb5 (fs.lookup f) (mA f)
 | .rng lo hi=>∃t u v,h.get? a=some {cls:=.type "range",data:=.fields #[.int lo t,.int hi u,.int 1 v]}
 | .frz o u=>h.get? a=some o/\Yz H h a u
 | .tbl ps=>h.get? a=some {cls:=.none,data:=.fields ps}
 | .met f x=>h.get? a=some (PySem.W.methodObj (.ref f) (.ref x))
 | .ext φ=>φ h/\(∃o,h.get? a=some o)/\∀h1 h2:Heap,φ h1->(∀o,h1.get? a=some o->h2.get? a=some o)->φ h2
def HOk(H:Hp)(h:Heap):Prop:=∀a o,H a=some o->Yz P w H h a o
end
section
variable {P:Program} {w:World} {H H':Hp} {h h':Heap} {a:Addr} {o:HO}
theorem Yz.lt(x:Yz P w H h a o):a<h.objs.size:=by
 cases o with
 |lst xs=>obtain⟨_,_,_,_,e⟩:=x;exact Heap.lt_size e
 |tup xs=>obtain⟨_,_,_,p⟩:=x;exact p.lt
 |dK kvs=>obtain⟨_,_,_,_,o,_,_,e,_⟩:=x;exact Heap.lt_size e
 |dT kvs=>obtain⟨_,_,_,_,o,_,_,e,_⟩:=x;exact Heap.lt_size e
 |set S n=>obtain⟨o,_,_,_,e,_⟩:=x;exact Heap.lt_size e
 |ins C dx fs=>obtain⟨_,_,_,e,_⟩:=x;exact Heap.lt_size e
 |own y=>obtain⟨_,e⟩:=x;exact Heap.lt_size e
 |xd fs=>obtain⟨_,⟨_,_,_,e,_⟩,_⟩:=x;exact Heap.lt_size e
 |rng lo hi=>obtain⟨_,_,_,e⟩:=x;exact Heap.lt_size e
 |frz ob u=>obtain⟨e,_⟩:=x;exact Heap.lt_size e
 |tbl ps=>exact Heap.lt_size (show h.get? a=some _ from x)
 |met f y=>exact Heap.lt_size (show h.get? a=some _ from x)
 |ext φ=>obtain⟨_,⟨_,e⟩,_⟩:=x;exact Heap.lt_size e
theorem Paired.mapP{α β:Type}{F G:α->β->Prop}:∀{l₁:List α} {l₂:List β},Paired F l₁ l₂->(∀a b,F a b->G a b)->Paired G l₁ l₂
 |_,_,.nil,_=> .nil
 |_,_,.cons r t,f=> .cons (f _ _ r) (Paired.mapP t f)
theorem Yz.stay(x:Yz P w H h a o)(k:∀b u,(b=a\/H b=some (.own a))->h.get? b=some u->h'.get? b=some u)
  (ho:∀b,H b=some (.own a)->H' b=some (.own a))(ht:∀b xs,H b=some (.tup xs)->H' b=some (.tup xs)):Yz P w H' h' a o:=by
 induction o with
 |lst xs=>obtain⟨z,its,n,r,e⟩:=x;exact⟨z,its,n,r,k _ _ (.inl rfl) e⟩
 |tup xs=>obtain⟨z,its,r,ob,e,c⟩:=x;exact⟨z,its,r,ob,k _ _ (.inl rfl) e,c⟩
 |dK kvs=>obtain⟨z,y,vs,r,ob,es,ep,e,c⟩:=x;exact⟨z,y,vs,r,ob,es,ep,k _ _ (.inl rfl) e,c⟩
 |dT kvs=>
  obtain⟨z,y,xs,r,ob,es,ep,e,c⟩:=x;exact⟨z,y,xs,Paired.mapP r fun p q z=>⟨z.1,ht _ _ z.2.1,z.2.2⟩,ob,es,ep,k _ _ (.inl rfl) e,c⟩
 |set S n=>obtain⟨ob,es,ep,t,e,c⟩:=x;exact⟨ob,es,ep,t,k _ _ (.inl rfl) e,c⟩
 |ins C dx fs=>
  obtain⟨d,z,ne,e,mA,⟨od,es,ep,e2,c⟩,r⟩:=x;exact⟨ho _ d,z,ne,k _ _ (.inl rfl) e,mA,⟨od,es,ep,k _ _ (.inr d) e2,c⟩,r⟩
 |own y=>obtain⟨ob,e⟩:=x;exact⟨ob,k _ _ (.inl rfl) e⟩
 |xd fs=>obtain⟨mA,⟨od,es,ep,e,c⟩,r⟩:=x;exact⟨mA,⟨od,es,ep,k _ _ (.inl rfl) e,c⟩,r⟩
 |rng lo hi=>obtain⟨t,u,v,e⟩:=x;exact⟨t,u,v,k _ _ (.inl rfl) e⟩
 |frz ob u ih=>obtain⟨e,q⟩:=x;exact⟨k _ _ (.inl rfl) e,ih q⟩
 |tbl ps=>
  have e:h.get? a=some {cls:=.none,data:=.fields ps}:=x;show h'.get? a=some {cls:=.none,data:=.fields ps};exact k a _ (.inl rfl) e
 |met f y=>
  have e:h.get? a=some (PySem.W.methodObj (.ref f) (.ref y)):=x;show h'.get? a=some (PySem.W.methodObj (.ref f) (.ref y));exact k a _ (.inl rfl) e
 |ext φ=>obtain⟨p,⟨o,e⟩,st⟩:=x;exact⟨st _ _ p fun o q=>k _ _ (.inl rfl) q,⟨o,k _ _ (.inl rfl) e⟩,st⟩
theorem HOk.lt(x:HOk P w H h)(e:H a=some o):a<h.objs.size:=(x a o e).lt
theorem HOk.fresh(x:HOk P w H h)(e:h.objs.size<=a):H a=none:=by
 cases q:H a with
 |none=>rfl
 |some u=>exact absurd (Nat.lt_of_lt_of_le (x.lt q) e) (Nat.lt_irrefl _)
theorem HOk.kept(x:HOk P w H h)(k:∀b u,h.get? b=some u->h'.get? b=some u):HOk P w H h':=fun a o e=>
 (x a o e).stay (fun b u _ q=>k b u q) (fun _ q=>q) fun _ _ q=>q
theorem HOk.laid(x:HOk P w H h)(k:∀b u,h.get? b=some u->h'.get? b=some u)(hp:h.objs.size<=a)(new:Yz P w (upd H a o) h' a o):HOk P w (upd H a o) h':=fun b u e=>by
 have hn:=x.fresh hp
 by_cases hb:b=a
 ·subst hb;rw[Zd] at e;cases e;exact new
 ·rw[Zf hb] at e
  exact(x b u e).stay (fun c v _ q=>k c v q) (fun c q=>by rw[Zf (Zk q hn)];exact q) fun c xs q=>by rw[Zf (Zk q hn)];exact q
end
def Rd(H:Hp)(a:Addr)(u:HO):Prop:=H a=some u\/∃o,H a=some (.frz o u)
theorem Rd.ok{P:Program}{w:World}{H:Hp}{h:Heap}{a:Addr}{u:HO}(r:Rd H a u)(x:HOk P w H h):Yz P w H h a u:=by
 rcases r with r|⟨o,r⟩
 ·exact x a u r
 ·obtain⟨_,q⟩:=x a _ r;exact q
def Mut:Option HO->Prop
 |some (.lst _)=>True
 |some (.dK _)=>True
 |some (.dT _)=>True
 |some (.set _ _)=>True
 |some (.ins _ _ _)=>True
 |some (.ext _)=>True
 |_=>False
section
variable {P:Program} {w:World} {H:Hp} {h h':Heap} {x e:Addr} {o':HO}
theorem HOk.write(ok:HOk P w H h)(mu:Mut (H x))(he:e=x\/H e=some (.own x))(k:∀b u,b≠e->h.get? b=some u->h'.get? b=some u)(heo:∃u,h'.get? e=some u)
  (new:Yz P w (upd H x o') h' x o'):HOk P w (upd H x o') h':=fun b u q=>by
 have nown:∀c y,H c=some (.own y)->c≠x:=fun c y r z=>by subst z;rw[r] at mu;exact mu
 have ntup:∀c xs,H c=some (.tup xs)->c≠x:=fun c xs r z=>by subst z;rw[r] at mu;exact mu
 by_cases hb:b=x
 ·subst hb;rw[Zd] at q;cases q;exact new
 ·rw[Zf hb] at q
  by_cases hbe:b=e
  ·have q':H b=some (.own x):=by
    rcases he with z|z
    ·exact absurd (hbe.trans z) hb
    ·rw[hbe];exact z
   rw[q] at q';cases q'
   obtain⟨v,hv⟩:=heo;exact⟨v,by rw[hbe];exact hv⟩
  ·refine(ok b u q).stay (fun c v hc r=>k c v ?_ r) (fun c r=>by rw[Zf (nown c b r)];exact r) fun c xs r=>by rw[Zf (ntup c xs r)];exact r
   rcases hc with rfl|hc
   ·exact hbe
   ·rintro rfl;rcases he with z|z
    ·exact nown c b hc z
    ·rw[hc] at z;cases z;exact hb rfl
end
structure Un (fs ex:List Addr) (H H':Hp) (h h':Heap):Prop where
 keep:∀b o,h.get? b=some o->H b=none->b∉fs->b∉ex->h'.get? b=some o
 slot:∀b o,h.get? b=some o->H b=none->b∈fs->b∉ex->∃sl,h'.get? b=some {o with slots:=sl}
 free:∀b o,h.get? b=some o->H b=none->b∉ex->H' b=none
 there:∀b o,h.get? b=some o->b∉ex->∃o',h'.get? b=some o'
 tups:∀b xs,H b=some (.tup xs)->H' b=some (.tup xs)
 frzs:∀b o u,H b=some (.frz o u)->H' b=some (.frz o u)
 tbls:∀b ps,H b=some (.tbl ps)->∃more,H' b=some (.tbl (ps++more))
section
variable {fs fs' ex ex':List Addr} {H H1 H2:Hp} {h h1 h2 h':Heap} {a x e:Addr} {o:HO}
theorem Un.any(u:Un fs ex H H1 h h1){b:Addr}{ob:Obj}(q:h.get? b=some ob)(n:H b=none)(hx:b∉ex):∃sl,h1.get? b=some {ob with slots:=sl}:=by
 by_cases hb:b∈fs
 ·exact u.slot b ob q n hb hx
 ·exact⟨ob.slots,u.keep b ob q n hb hx⟩
theorem Un.kept(k:∀b u,h.get? b=some u->h'.get? b=some u):Un fs ex H H h h':=
 ⟨fun b ob q _ _ _=>k b ob q,fun b ob q _ _ _=>⟨ob.slots,k b ob q⟩,fun _ _ _ n _=>n,fun b ob q _=>⟨ob,k b ob q⟩,fun _ _ q=>q,fun _ _ _ q=>q,fun _ ps q=>⟨#[],by rw[q];simp⟩⟩
theorem Un.refl:Un fs ex H H h h:=Un.kept fun _ _ q=>q
theorem Un.laid(k:∀b u,h.get? b=some u->h'.get? b=some u)(hp:h.objs.size<=a)(hn:H a=none):Un fs ex H (upd H a o) h h' where
 keep:=fun b u q _ _ _=>k b u q
 slot:=fun b u q _ _ _=>⟨u.slots,k b u q⟩
 free:=fun b u q n _=>by rw[Zf (Nat.ne_of_lt (Nat.lt_of_lt_of_le (Heap.lt_size q) hp))];exact n
 there:=fun b u q _=>⟨u,k b u q⟩
 tups:=fun b xs q=>by rw[Zf (Zk q hn)];exact q
 frzs:=fun b u xs q=>by rw[Zf (Zk q hn)];exact q
 tbls:=fun b ps q=>⟨#[],by rw[Zf (Zk q hn),q];simp⟩
theorem Un.write(mu:Mut (H x))(he:e=x\/H e=some (.own x))(k:∀b u,b≠e->h.get? b=some u->h'.get? b=some u)(heo:∃u,h'.get? e=some u):Un fs ex H (upd H x o) h h':=by
 have hx:∀b,H b=none->b≠x:=fun b n z=>by subst z;rw[n] at mu;exact mu
 have hb:∀b,H b=none->b≠e:=fun b n z=>by
  subst z;rcases he with r|r
  ·exact hx b n r
  ·rw[n] at r;cases r
 have hm:∀b u,H b=some u->¬Mut (some u)->b≠x:=fun b u q nm z=>by subst z;rw[q] at mu;exact nm mu
 refine⟨fun b u q n _ _=>k b u (hb b n) q,fun b u q n _ _=>⟨u.slots,k b u (hb b n) q⟩,fun b u q n _=>by rw[Zf (hx b n)];exact n,fun b u q _=> ?_,
  fun b xs q=>by rw[Zf (hm b _ q fun z=>z)];exact q,fun b u xs q=>by rw[Zf (hm b _ q fun z=>z)];exact q,fun b ps q=>⟨#[],by rw[Zf (hm b _ q fun z=>z),q];simp⟩⟩
 by_cases hbe:b=e
 ·subst hbe;exact heo
 ·exact⟨u,k b u hbe q⟩
end
def trk(h:Heap)(H:Hp):List Addr:=(List.range h.objs.size).filter fun a=>(H a).isSome
def Zft(h:Heap)(H:Hp):Heap:=PySem.W.hideAll h (trk h H)
theorem Ziv(h:Heap)(H:Hp):(Zft h H).objs.size=h.objs.size:=PySem.W.hideAll_size _ _
theorem Zjh{h:Heap}{H:Hp}{b:Addr}{o:Obj}(e:h.get? b=some o)(n:H b=none):(Zft h H).get? b=some o:=
 PySem.W.hideAll_get _ e fun hm=>by
  have q:(H b).isSome=true:=(List.mem_filter.mp hm).2;rw[n] at q;simp at q
theorem ZkN{h:Heap}{H:Hp}{b:Addr}{o:Obj}(e:(Zft h H).get? b=some o):h.get? b=some o/\H b=none:=by
 have e':h.get? b=some o:=PySem.W.of_hideAll (trk h H) e;refine⟨e', ?_⟩;cases q:H b with
 |none=>rfl
 |some x=>
  have hm:b∈trk h H:=List.mem_filter.mpr ⟨List.mem_range.mpr (Heap.lt_size e'),by simp[q]⟩;have z:(Zft h H).get? b=none:=PySem.W.hideAll_none (trk h H) hm;rw[z] at e;cases e
def ZdP(g h:Heap)(L:Addr):List (Addr×Obj):=(List.range h.objs.size).filterMap fun a=>if a=L\/(g.get? a).isSome=true then none else(h.get? a).map fun o=>(a,o)
theorem ZdC{g h:Heap}{L a:Addr}{o:Obj}(h1:a≠L)(h2:g.get? a=none)(h3:h.get? a=some o):(a,o)∈ZdP g h L:=
 List.mem_filterMap.mpr ⟨a,List.mem_range.mpr (Heap.lt_size h3),by simp[h1,h2,h3]⟩
theorem Ze6{g h:Heap}{L:Addr}{p:Addr×Obj}(hp:p∈ZdP g h L):p.1≠L/\g.get? p.1=none/\h.get? p.1=some p.2:=by
 obtain⟨b,_,e⟩:=List.mem_filterMap.mp hp
 split at e
 ·cases e
 ·rename_i hn
  cases q:h.get? b with
  |none=>rw[q] at e;simp at e
  |some u=>
   rw[q] at e
   simp only [Option.map_some,Option.some.injEq] at e
   subst e;refine⟨fun z=>hn (.inl z), ?_,q⟩;show g.get? b=none;cases r:g.get? b with
   |none=>rfl
   |some v=>exact(hn (.inr (by simp[r]))).elim
theorem Zji{g h:Heap}{L:Addr}:News g L h (ZdP g h L):=fun p hp=>let ⟨a,b,c⟩:=Ze6 hp;⟨c,a,b⟩
end L2
namespace L2
open PySem PySem.Spec PyProof.Rows
structure Mod (K:PySem.W.Frag) (mg:Str->Option Value) (base:Heap):Prop where
 kin:K.In base
 glob:base.Ns mainGlobals mg
 blt:∃mb,base.Ns builtinsNs mb/\∀x:Str,x≠"__name__"->mb x=bootBuiltins x
 nolimit:base.NoLimit
structure Cx where
 prog:Program
 w:World
 K:PySem.W.Frag
 mg:Str->Option Value
 base:Heap
 A:Around
 N:List Str
 s₀:Shared
 H₀:Hp
 env:Env
 outer:List Env
 stack:List Env
 ex:List Addr
 fn:Str->Bool
 calm:Bool
 pn:List (Addr×Obj)
 xe:Value->Shared->Prop
def frs(l:List Env):List Addr:=l.filterMap (·.frame)
abbrev Cx.fs(X:Cx):List Addr:=frs X.outer
def Vis(sc:Scope)(x:Str):Prop:=sc.names.lookup x=some .local\/sc.names.lookup x=some .cell\/sc.names.lookup x=some .free
def Loc(sc:Scope)(x:Str):Prop:=sc.names.lookup x=some .local\/sc.names.lookup x=some .cell
def ZnE(env:Env)(h:Heap)(m:Str->Option Value)(x:Str)(u:Value):Prop:=
 (env.kindOf x=some .local/\m x=some u)\/((env.kindOf x=some .cell\/env.kindOf x=some .free)/\∃c,env.cells.lookup x=some c/\h.IsCell c (some u))
structure Cx.Ok (X:Cx):Prop where
 mod:Mod X.K X.mg X.base
 kind:X.env.scope.kind=.function
 glob:X.env.globals=mainGlobals
 blt:X.env.builtins=builtinsNs
 above:X.s₀.heap.objs.size<=X.env.locals
 inj:∀x y c,X.env.cells.lookup x=some c->X.env.cells.lookup y=some c->x=y
 has:∀x,(X.env.kindOf x=some .cell\/X.env.kindOf x=some .free)->∃c,X.env.cells.lookup x=some c
 cab:∀x c,X.fn x=true->X.env.cells.lookup x=some c->X.s₀.heap.objs.size<=c
 hd:X.calm=true->X.A.handled=none
 frames:X.A.frames=some X.stack
 stk:X.stack=X.outer\/(X.stack=X.env::X.outer/\X.env.frame=some X.env.locals)
 exf:∀b∈X.ex,b≠X.env.locals/\∀x c,X.env.cells.lookup x=some c->c≠b
 bs:∀b o,X.base.get? b=some o->X.s₀.heap.get? b=some o/\X.H₀ b=none
 bsz:X.base.objs.size<=X.s₀.heap.objs.size
 noex:∀b o,X.base.get? b=some o->b∉X.ex
 exfs:∀b∈X.ex,b∉X.fs
 funs:X.s₀.heap.FunFrames X.base X.outer
 frf:∀b∈X.fs,X.H₀ b=none
structure Inv (X:Cx) (pins:List (Addr×Obj)) (σ:List (Option V)) (H:Hp) (s:Shared):Prop where
 ok:X.Ok
 os:s.os=X.s₀.os
 bare:AllBare s.gens
 base:Un X.fs X.ex X.H₀ H X.s₀.heap s.heap
 loc:∃m,s.heap.Ns X.env.locals m/\∀(i:Nat) (x:Str) (v:V),X.N[i]? =some x->σ[i]? =some (some v)->Vis X.env.scope x->∃u,ZR v u/\ZnE X.env s.heap m x u
 cell:∀x c,X.env.cells.lookup x=some c->∃v,s.heap.IsCell c v
 free:H X.env.locals=none
 freeC:∀x c,X.env.cells.lookup x=some c->H c=none
 pin:∀p∈X.pn++pins,s.heap.get? p.1=some p.2/\H p.1=none/\p.1≠X.env.locals/\p.1∉X.fs/\∀v,p.2.data≠.cell v
 hok:HOk X.prog X.w H s.heap
 len:σ.length=X.N.length
section
variable {X:Cx} {pins:List (Addr×Obj)} {σ:List (Option V)} {H H':Hp} {s:Shared} {h':Heap}
theorem Cx.Ok.nofr(ok:X.Ok){b:Addr}{o:Obj}(e:X.base.get? b=some o):b∉X.fs:=fun hb=>by
 have:=(ok.funs.mem hb).1;rw[e] at this;cases this
theorem Inv.bs(I:Inv X pins σ H s):∀b o,X.base.get? b=some o->s.heap.get? b=some o/\H b=none:=fun b o e=>
 ⟨I.base.keep b o (I.ok.bs b o e).1 (I.ok.bs b o e).2 (I.ok.nofr e) (I.ok.noex b o e),I.base.free b o (I.ok.bs b o e).1 (I.ok.bs b o e).2 (I.ok.noex b o e)⟩
theorem Inv.bk(I:Inv X pins σ H s):∀b o,X.base.get? b=some o->s.heap.get? b=some o:=fun b o e=>(I.bs b o e).1
theorem Inv.mod(I:Inv X pins σ H s):Mod X.K X.mg X.base:=I.ok.mod
theorem Inv.kIn(I:Inv X pins σ H s):X.K.In s.heap:=I.ok.mod.kin.keeps I.bk
theorem Inv.fr(I:Inv X pins σ H s):∃m,Fr X.base X.env.locals s.heap m:=
 let ⟨m,hn,_⟩:=I.loc
 ⟨m,hn,I.bk,Nat.le_trans I.ok.bsz I.ok.above⟩
theorem Inv.lt(I:Inv X pins σ H s):X.env.locals<s.heap.objs.size:=let ⟨_,hn,_⟩:=I.loc;hn.lt
theorem Inv.sz(I:Inv X pins σ H s):X.s₀.heap.objs.size<=s.heap.objs.size:=Nat.le_trans I.ok.above (Nat.le_of_lt I.lt)
theorem Inv.nofs(I:Inv X pins σ H s){a:Addr}(h:s.heap.objs.size<=a):a∉X.fs:=fun hb=>by
 obtain⟨_,o,ho,_⟩:=I.ok.funs.mem hb;exact absurd (Nat.lt_of_lt_of_le (Heap.lt_size ho) (Nat.le_trans I.sz h)) (Nat.lt_irrefl _)
theorem Inv.cne(I:Inv X pins σ H s):∀x c,X.env.cells.lookup x=some c->c≠X.env.locals:=fun x c e z=>by
 obtain⟨v,o,ho,hd⟩:=I.cell x c e;obtain⟨m,⟨o',es,ep,ho',hd',_⟩,_⟩:=I.loc;rw[z,ho'] at ho;cases ho;rw[hd'] at hd;cases hd
theorem Inv.funs(I:Inv X pins σ H s):s.heap.FunFrames X.base X.outer:=by
 have all:∀(l:List Env),(∀b∈frs l,b∈X.fs)->X.s₀.heap.FunFrames X.base l->s.heap.FunFrames X.base l:=by
  intro l
  induction l with
  |nil=>intro _ _;trivial
  |cons env r ih=>
   intro hs hl;obtain⟨hk,⟨L,o,hf,hn,ho,hd⟩,hr⟩:=hl;have hL:L∈X.fs:=hs L (by unfold frs;rw[List.filterMap_cons,hf];exact List.mem_cons_self)
   obtain⟨sl,e⟩:=I.base.slot L o ho (I.ok.frf L hL) hL fun z=>I.ok.exfs L z hL;exact⟨hk,⟨L,_,hf,hn,e,hd⟩,ih (fun b hb=>hs b (by unfold frs;rw[List.filterMap_cons,hf];exact List.mem_cons_of_mem _ hb)) hr⟩
 exact all X.outer (fun _ hb=>hb) I.ok.funs
theorem Inv.stack(I:Inv X pins σ H s):s.heap.FunFrames X.base X.stack:=by
 rcases I.ok.stk with e|⟨e,hf⟩
 ·rw[e];exact I.funs
 ·rw[e];obtain⟨m,hn,_⟩:=I.loc;refine .cons (by rw[I.ok.kind];decide) hf hn ?_ I.funs
  exact Heap.get?_none_of_le (Nat.le_trans I.ok.bsz I.ok.above)
theorem Inv.stkSub(I:Inv X pins σ H s):∀b∈frs X.stack,b∈X.env.locals::X.fs:=fun b hb=>by
 rcases I.ok.stk with e|⟨e,hf⟩
 ·rw[e] at hb;exact List.mem_cons_of_mem _ hb
 ·rw[e] at hb
  unfold frs at hb
  rw[List.filterMap_cons,hf] at hb
  exact hb
theorem Inv.stkFree(I:Inv X pins σ H s):∀b∈frs X.stack,H b=none:=fun b hb=>by
 rcases List.mem_cons.mp (I.stkSub b hb) with e|hb
 ·rw[e];exact I.free
 ·obtain⟨_,o,ho,_⟩:=I.ok.funs.mem hb;exact I.base.free b o ho (I.ok.frf b hb) fun z=>I.ok.exfs b z hb
theorem Inv.step{g':Array GenState}{t':Nat}{d':Drawn}{ch:List Addr}(I:Inv X pins σ H s)
  (hch:∀b∈ch,(b∈X.ex\/X.s₀.heap.objs.size<=b)/\b≠X.env.locals/\(∀x c,X.env.cells.lookup x=some c->c≠b)/\∀p∈X.pn++pins,p.1≠b)
  (keep:∀b o,b≠X.env.locals->b∉X.fs->b∉ch->s.heap.get? b=some o->H b=none->h'.get? b=some o)
  (slot:∀b o,b≠X.env.locals->b∈X.fs->b∉ch->s.heap.get? b=some o->H b=none->∃sl,h'.get? b=some {o with slots:=sl})(free:∀b o,b∉ch->s.heap.get? b=some o->H b=none->H' b=none)
  (there:∀b o,b∉ch->s.heap.get? b=some o->∃o',h'.get? b=some o')
  (tups:∀b xs,H b=some (.tup xs)->H' b=some (.tup xs))(frzs:∀b o u,H b=some (.frz o u)->H' b=some (.frz o u))(tbls:∀b ps,H b=some (.tbl ps)->∃more,H' b=some (.tbl (ps++more)))
  (ns:∀m,s.heap.Ns X.env.locals m->h'.Ns X.env.locals m)(hok:HOk X.prog X.w H' h')(hg:AllBare g'):
  Inv X pins σ H' {s with heap:=h',gens:=g',drawn:=d',toks:=t'}:=by
 have neL:∀b o,X.s₀.heap.get? b=some o->b≠X.env.locals:=fun b o e=>Nat.ne_of_lt (Nat.lt_of_lt_of_le (Heap.lt_size e) I.ok.above);have neC:∀b o,X.s₀.heap.get? b=some o->b∉X.ex->b∉ch:=fun b o e hx hb=>by
  rcases(hch b hb).1 with z|z
  ·exact hx z
  ·exact absurd (Nat.lt_of_lt_of_le (Heap.lt_size e) z) (Nat.lt_irrefl _)
 have cellK:∀x c,X.env.cells.lookup x=some c->∀v,s.heap.IsCell c v->h'.IsCell c v:=fun x c e v ⟨o,ho,hd⟩=>by
  have nch:c∉ch:=fun z=>(hch c z).2.2.1 x c e rfl
  by_cases hc:c∈X.fs
  ·obtain⟨sl,q⟩:=slot c o (I.cne x c e) hc nch ho (I.freeC x c e);exact⟨_,q,hd⟩
  ·exact⟨o,keep c o (I.cne x c e) hc nch ho (I.freeC x c e),hd⟩
 refine⟨I.ok,I.os,hg,⟨fun b o e n hb hx=> ?_,fun b o e n hb hx=> ?_,fun b o e n hx=> ?_,fun b o e hx=> ?_,fun b xs e=>tups b xs (I.base.tups b xs e),fun b o xs e=>frzs b o xs (I.base.frzs b o xs e),fun b ps e=> ?_⟩, ?_,fun x c e=> ?_, ?_,fun x c e=> ?_,fun p hp=> ?_,hok,I.len⟩
 ·exact keep b o (neL b o e) hb (neC b o e hx) (I.base.keep b o e n hb hx) (I.base.free b o e n hx)
 ·obtain⟨sl,e1⟩:=I.base.slot b o e n hb hx;obtain⟨sl',e2⟩:=slot b _ (neL b o e) hb (neC b o e hx) e1 (I.base.free b o e n hx);exact⟨sl',e2⟩
 ·obtain⟨o',e1⟩:=I.base.there b o e hx;exact free b o' (neC b o e hx) e1 (I.base.free b o e n hx)
 ·obtain⟨o',e1⟩:=I.base.there b o e hx;exact there b o' (neC b o e hx) e1
 ·obtain⟨m1,e1⟩:=I.base.tbls b ps e;obtain⟨m2,e2⟩:=tbls b _ e1;exact⟨m1++m2,by rw[e2,Array.append_assoc]⟩
 ·obtain⟨m,hn,hl⟩:=I.loc;refine⟨m,ns m hn,fun i x v e1 e2 e3=> ?_⟩;obtain⟨u,r,l⟩:=hl i x v e1 e2 e3;refine⟨u,r, ?_⟩;rcases l with l|⟨k,c,e,z⟩
  ·exact .inl l
  ·exact .inr ⟨k,c,e,cellK x c e _ z⟩
 ·obtain⟨v,z⟩:=I.cell x c e;exact⟨v,cellK x c e v z⟩
 ·obtain⟨m,⟨o,_,_,ho,_⟩,_⟩:=I.loc;exact free _ o (fun z=>(hch _ z).2.1 rfl) ho I.free
 ·obtain⟨v,o,ho,hd⟩:=I.cell x c e;exact free c o (fun z=>(hch c z).2.2.1 x c e rfl) ho (I.freeC x c e)
 ·obtain⟨e,n,ne,nf,d⟩:=I.pin p hp;have nch:p.1∉ch:=fun z=>(hch p.1 z).2.2.2 p hp rfl;exact⟨keep p.1 p.2 ne nf nch e n,free p.1 p.2 nch e n,ne,nf,d⟩
theorem Inv.un{t':Nat}(I:Inv X pins σ H s)(u:Un X.fs [] H H' s.heap h')(hok:HOk X.prog X.w H' h'):Inv X pins σ H' {s with heap:=h',toks:=t'}:=by
 obtain⟨m,⟨o,es,ep,ho,r⟩,_⟩:=id I.loc;obtain⟨sl,hL⟩:=u.any ho I.free (by simp);exact I.step (g':=s.gens) (d':=s.drawn) (ch:=[]) (fun _ z=>nomatch z) (fun b o _ hb _ e n=>u.keep b o e n hb (by simp)) (fun b o _ hb _ e n=>u.slot b o e n hb (by simp)) (fun b o _ e n=>u.free b o e n (by simp)) (fun b o _ e=>u.there b o e (by simp)) u.tups u.frzs u.tbls (fun m' hm=>by
  obtain⟨o',es',ep',ho',r'⟩:=hm;rw[ho] at ho';cases ho'
  exact⟨_,es',ep',hL,r'⟩) hok I.bare
theorem Inv.call{g':Array GenState}{t':Nat}{d':Drawn}{ch:List Addr}(I:Inv X pins σ H s)(u:Un (frs X.stack) ch H H' s.heap h')(hok:HOk X.prog X.w H' h')(hg:AllBare g')
  (hch:∀b∈ch,(b∈X.ex\/X.s₀.heap.objs.size<=b)/\b≠X.env.locals/\(∀x c,X.env.cells.lookup x=some c->c≠b)/\∀p∈X.pn++pins,p.1≠b):
  Inv X pins σ H' {s with heap:=h',gens:=g',drawn:=d',toks:=t'}:=by
 obtain⟨m,⟨o,es,ep,ho,r⟩,_⟩:=id I.loc;obtain⟨sl,hL⟩:=u.any ho I.free fun z=>(hch _ z).2.1 rfl;exact I.step (ch:=ch) hch (fun b o hL hb hc e n=>u.keep b o e n (fun z=>(List.mem_cons.mp (I.stkSub b z)).elim hL hb) hc) (fun b o _ _ hc e n=>u.any e n hc) (fun b o hc e n=>u.free b o e n hc) (fun b o hc e=>u.there b o e hc) u.tups u.frzs u.tbls (fun m' hm=>by
  obtain⟨o',es',ep',ho',r'⟩:=hm;rw[ho] at ho';cases ho'
  exact⟨_,es',ep',hL,r'⟩) hok hg
theorem Inv.turned{t':Nat}{it:Addr}(I:Inv X pins σ H s)(k:∀b o,b≠it->s.heap.get? b=some o->h'.get? b=some o)(hn:H it=none)(hL:it≠X.env.locals)
  (h1:it∈X.ex\/X.s₀.heap.objs.size<=it)(h2:∀x c,X.env.cells.lookup x=some c->c≠it)(h3:∀p∈X.pn++pins,p.1≠it):Inv X pins σ H {s with heap:=h',toks:=t'}:=by
 have nit:∀b u,H b=some u->b≠it:=fun b u e z=>by rw[z,hn] at e;cases e
 refine I.step (g':=s.gens) (d':=s.drawn) (ch:=[it]) (fun b hb=> ?_) (fun b o _ _ hc e _=>k b o (fun z=>hc (by simp[z])) e) (fun b o _ _ hc e _=>⟨o.slots,k b o (fun z=>hc (by simp[z])) e⟩) (fun _ _ _ _ n=>n)
  (fun b o hc e=>⟨o,k b o (fun z=>hc (by simp[z])) e⟩) (fun _ _ e=>e) (fun _ _ _ e=>e) (fun b ps e=>⟨#[],by rw[e];simp⟩) (fun m hm=> ?_) (fun b u e=> ?_) I.bare
 ·have e:b=it:=by simpa using hb
  subst e;exact⟨h1,hL,h2,h3⟩
 ·obtain⟨o,es,ep,ho,r⟩:=hm;exact⟨o,es,ep,k _ o (Ne.symm hL) ho,r⟩
 ·refine(I.hok b u e).stay (fun c v hc q=>k c v ?_ q) (fun _ q=>q) fun _ _ q=>q;rcases hc with z|z
  ·rw[z];exact nit b u e
  ·exact nit c _ z
theorem Inv.tok(I:Inv X pins σ H s)(t:Nat):Inv X pins σ H {s with toks:=t}:=I.un (h':=s.heap) (t':=t) Un.refl I.hok
theorem Inv.kept{t':Nat}(I:Inv X pins σ H s)(k:∀b u,s.heap.get? b=some u->h'.get? b=some u):Inv X pins σ H {s with heap:=h',toks:=t'}:=I.un (Un.kept k) (I.hok.kept k)
theorem Inv.laid{a:Addr}{o:HO}{t':Nat}(I:Inv X pins σ H s)(k:∀b u,s.heap.get? b=some u->h'.get? b=some u)(hp:s.heap.objs.size<=a)(new:Yz X.prog X.w (upd H a o) h' a o):
  Inv X pins σ (upd H a o) {s with heap:=h',toks:=t'}:=I.un (Un.laid k hp (I.hok.fresh hp)) (I.hok.laid k hp new)
theorem Inv.write{x e:Addr}{o:HO}{t':Nat}(I:Inv X pins σ H s)(mu:Mut (H x))(he:e=x\/H e=some (.own x))(k:∀b u,b≠e->s.heap.get? b=some u->h'.get? b=some u)(heo:∃u,h'.get? e=some u)
  (new:Yz X.prog X.w (upd H x o) h' x o):Inv X pins σ (upd H x o) {s with heap:=h',toks:=t'}:=I.un (Un.write mu he k heo) (I.hok.write mu he k heo new)
theorem Inv.weak{σ':List (Option V)}(I:Inv X pins σ H s)(hl:σ'.length=σ.length)(w:∀(i:Nat) v,σ'[i]? =some (some v)->σ[i]? =some (some v)):Inv X pins σ' H s:=
 ⟨I.ok,I.os,I.bare,I.base,let ⟨m,hn,hl'⟩:=I.loc;⟨m,hn,fun i x v e1 e2 e3=>hl' i x v e1 (w i v e2) e3⟩,I.cell,I.free,I.freeC,I.pin,I.hok,hl.trans I.len⟩
theorem Inv.pins_of{pins':List (Addr×Obj)}(I:Inv X pins σ H s)(h:∀p∈pins',s.heap.get? p.1=some p.2/\H p.1=none/\p.1≠X.env.locals/\p.1∉X.fs/\∀v,p.2.data≠.cell v):Inv X pins' σ H s:=
 ⟨I.ok,I.os,I.bare,I.base,I.loc,I.cell,I.free,I.freeC,fun p hp=>(List.mem_append.mp hp).elim (fun z=>I.pin p (List.mem_append_left _ z)) (h p),I.hok,I.len⟩
theorem Ze7{N:List Str}(hN:N.Nodup){i j:Nat}{x:Str}(a:N[i]? =some x)(b:N[j]? =some x):i=j:=by
 obtain⟨h1,e1⟩:=List.getElem?_eq_some_iff.mp a;obtain⟨h2,e2⟩:=List.getElem?_eq_some_iff.mp b;exact(List.getElem_inj hN).mp (e1.trans e2.symm)
theorem Ziw{M:Model}{A:Around}{E:Value->Shared->Prop}{i:Nat}{x:Str}{v:V}{u:Value}{Q:Unit->Shared->Prop}(I:Inv X pins σ H s)(hN:X.N.Nodup)(hi:X.N[i]? =some x)(hx:Loc X.env.scope x)(r:ZR v u)
  (h:∀s',Inv X pins (σ.set i (some v)) H s'->(∃a,Heap.SameBut a s.heap s'.heap/\(a=X.env.locals\/X.env.cells.lookup x=some a))->Q () s')(hf:X.fn x=true\/X.env.scope.names.lookup x=some .local:=by first|exact .inl rfl|exact .inr rfl|assumption):wpAny M A (storeName X.env x u) Q E s:=by
 obtain⟨m,hn,hl⟩:=id I.loc;have hcls:(X.env.scope.kind==.class||(X.env.scope.kind==.module&&X.env.locals !=X.env.globals))=false:=by rw[I.ok.kind];rfl
 have hiσ:i<σ.length:=by rw[I.len];exact(List.getElem?_eq_some_iff.mp hi).1
 have cne:=I.cne;have tracked:∀{a:Addr} {h':Heap},(∃o,s.heap.get? a=some o/\H a=none)->Heap.SameBut a s.heap h'->HOk X.prog X.w H h':=fun{a h'} ha hs b ob e=>by
  obtain⟨_,_,hfree⟩:=ha;refine(I.hok b ob e).stay (fun c w' hc q=>(hs.2 c ?_).trans q) (fun _ q=>q) fun _ _ q=>q;rintro rfl;rcases hc with rfl|hc
  ·rw[hfree] at e;cases e
  ·rw[hfree] at hc;cases hc
 rcases hx with hk|hk
 ·refine wpAny_storeName_local hk hn (fun h' hn' hs=> ?_) hcls;obtain⟨oL,_,_,hoL,_⟩:=id hn;refine h _ ⟨I.ok,I.os,I.bare,⟨fun b o e n hb hx=> ?_,fun b o e n hb hx=> ?_,I.base.free,fun b o e hx=> ?_,I.base.tups,I.base.frzs,I.base.tbls⟩,⟨_,hn',fun j y v' e1 e2 e3=> ?_⟩,fun y c e=> ?_,I.free,I.freeC,fun p hp=> ?_,tracked ⟨oL,hoL,I.free⟩ hs,by simpa using I.len⟩ ⟨_,hs,.inl rfl⟩
  ·exact(hs.2 b (Nat.ne_of_lt (Nat.lt_of_lt_of_le (Heap.lt_size e) I.ok.above))).trans (I.base.keep b o e n hb hx)
  ·obtain⟨sl,e1⟩:=I.base.slot b o e n hb hx;exact⟨sl,(hs.2 b (Nat.ne_of_lt (Nat.lt_of_lt_of_le (Heap.lt_size e) I.ok.above))).trans e1⟩
  ·obtain⟨o',e1⟩:=I.base.there b o e hx;exact⟨o',(hs.2 b (Nat.ne_of_lt (Nat.lt_of_lt_of_le (Heap.lt_size e) I.ok.above))).trans e1⟩
  ·by_cases hj:j=i
   ·subst hj;rw[hi] at e1;cases e1
    rw[List.getElem?_set_self hiσ] at e2
    cases e2;exact⟨u,r,.inl ⟨hk,by simp⟩⟩
   ·rw[List.getElem?_set_ne (Ne.symm hj)] at e2
    obtain⟨u',r',q⟩:=hl j y v' e1 e2 e3;refine⟨u',r', ?_⟩;rcases q with ⟨k,e⟩|⟨k,c,e,z⟩
    ·refine .inl ⟨k, ?_⟩;have:y≠x:=fun e=>hj (Ze7 hN e1 (e▸hi));simp[this,e]
    ·exact .inr ⟨k,c,e,z.sameBut hs (cne y c e)⟩
  ·obtain⟨w',z⟩:=I.cell y c e;exact⟨w',z.sameBut hs (cne y c e)⟩
  ·obtain⟨e,n,ne,nf,d⟩:=I.pin p hp;exact⟨(hs.2 p.1 ne).trans e,n,ne,nf,d⟩
 ·have hfn:X.fn x=true:=by
   rcases hf with z|z
   ·exact z
   ·rw[z] at hk;cases hk
  obtain⟨c,hc⟩:=I.ok.has x (.inl hk);obtain⟨w',z⟩:=I.cell x c hc;refine wpAny_storeName_cell I.ok.kind hk hc z (fun h' hc' hs=> ?_);obtain⟨oc,hoc,hocd⟩:=id z;refine h {s with heap:=h'} ⟨I.ok,I.os,I.bare,⟨fun b o e n hb hx=> ?_,fun b o e n hb hx=> ?_,I.base.free,fun b o e hx=> ?_,I.base.tups,I.base.frzs,I.base.tbls⟩,⟨m,hn.sameBut hs (Ne.symm (cne x c hc)),fun j y v' e1 e2 e3=> ?_⟩,fun y c' e=> ?_,I.free,I.freeC,fun p hp=> ?_,tracked ⟨oc,hoc,I.freeC x c hc⟩ hs,by simpa using I.len⟩ ⟨c,hs,.inr hc⟩
  ·exact(hs.2 b (Nat.ne_of_lt (Nat.lt_of_lt_of_le (Heap.lt_size e) (I.ok.cab x c hfn hc)))).trans (I.base.keep b o e n hb hx)
  ·obtain⟨sl,e1⟩:=I.base.slot b o e n hb hx;exact⟨sl,(hs.2 b (Nat.ne_of_lt (Nat.lt_of_lt_of_le (Heap.lt_size e) (I.ok.cab x c hfn hc)))).trans e1⟩
  ·obtain⟨o',e1⟩:=I.base.there b o e hx;exact⟨o',(hs.2 b (Nat.ne_of_lt (Nat.lt_of_lt_of_le (Heap.lt_size e) (I.ok.cab x c hfn hc)))).trans e1⟩
  ·by_cases hj:j=i
   ·subst hj;rw[hi] at e1;cases e1
    rw[List.getElem?_set_self hiσ] at e2
    cases e2;exact⟨u,r,.inr ⟨.inl hk,c,hc,hc'⟩⟩
   ·rw[List.getElem?_set_ne (Ne.symm hj)] at e2
    obtain⟨u',r',q⟩:=hl j y v' e1 e2 e3;refine⟨u',r', ?_⟩;rcases q with q|⟨k,c',e,z'⟩
    ·exact .inl q
    ·refine .inr ⟨k,c',e,z'.sameBut hs ?_⟩;rintro rfl;exact hj (Ze7 hN e1 (I.ok.inj _ _ _ e hc▸hi))
  ·by_cases hcc:c'=c
   ·subst hcc;exact⟨_,hc'⟩
   ·obtain⟨w2,z2⟩:=I.cell y c' e;exact⟨w2,z2.sameBut hs hcc⟩
  ·obtain⟨e,n,ne,nf,d⟩:=I.pin p hp;refine⟨(hs.2 p.1 ?_).trans e,n,ne,nf,d⟩;intro q;rw[q,hoc] at e
   have q':oc=p.2:=Option.some.inj e;exact d w' (by rw[<-q'];exact hocd)
theorem Zcl{M:Model}{A:Around}{E:Value->Shared->Prop}{i:Nat}{x:Str}{v:V}{u:Value}{Q:Unit->Shared->Prop}(I:Inv X pins σ H s)(hN:X.N.Nodup)(hi:X.N[i]? =some x)(hx:Loc X.env.scope x)(r:ZR v u)
  (h:∀s',Inv X pins (σ.set i (some v)) H s'->Q () s')(hf:X.fn x=true\/X.env.scope.names.lookup x=some .local:=by first|exact .inl rfl|exact .inr rfl|assumption):wpAny M A (storeName X.env x u) Q E s:=
 Ziw I hN hi hx r (fun s' I' _=>h s' I') hf
theorem Inv.call'{s':Shared}{ch:List Addr}(I:Inv X pins σ H s)(ho:s'.os=s.os)(u:Un (frs X.stack) ch H H' s.heap s'.heap)(hok:HOk X.prog X.w H' s'.heap)(hg:AllBare s'.gens)
  (hch:∀b∈ch,(b∈X.ex\/X.s₀.heap.objs.size<=b)/\b≠X.env.locals/\(∀x c,X.env.cells.lookup x=some c->c≠b)/\∀p∈X.pn++pins,p.1≠b):Inv X pins σ H' s':=by
 obtain⟨h',g',d',t',o'⟩:=s';have e:o'=s.os:=ho;subst e;exact I.call (g':=g') (t':=t') (d':=d') u hok hg hch
end
abbrev XK:=Value->Option Addr->Hp->Prop
abbrev St:=List (Option V)
abbrev VK:=V->Hp->Prop
abbrev TE:=St->Hp->VK->Prop
abbrev TT:=St->Hp->(Bool->Hp->Prop)->Prop
abbrev TA:=St->Hp->(List V->Hp->Prop)->Prop
structure ZcZ where
 nx:St->Hp->Prop
 rt:VK
 bk:St->Hp->Prop:=fun _ _=>False
 ct:St->Hp->Prop:=fun _ _=>False
abbrev TS:=ZcZ->St->Hp->Prop
def EP(X:Cx)(pins:List (Addr×Obj))(σ:St)(Q:VK)(u:Value)(s':Shared):Prop:=∃v H',Inv X pins σ H' s'/\ZR v u/\Q v H'
def TP(X:Cx)(pins:List (Addr×Obj))(σ:St)(Q:Bool->Hp->Prop)(b:Bool)(s':Shared):Prop:=∃H',Inv X pins σ H' s'/\Q b H'
def AP(X:Cx)(pins:List (Addr×Obj))(σ:St)(Q:List V->Hp->Prop)(us:List Value)(s':Shared):Prop:=∃vs H',Inv X pins σ H' s'/\ZW vs us/\Q vs H'
def SP(X:Cx)(pins:List (Addr×Obj))(D:ZcZ)(f:Flow)(s':Shared):Prop:=
 match f with
 | .next=>∃σ' H',Inv X pins σ' H' s'/\D.nx σ' H'
 | .brk=>∃σ' H',Inv X pins σ' H' s'/\D.bk σ' H'
 | .cont=>∃σ' H',Inv X pins σ' H' s'/\D.ct σ' H'
 | .ret u=>∃v σ' H',Inv X pins σ' H' s'/\ZR v u/\D.rt v H'
def PE(X:Cx)(e:Expr)(t:TE):Prop:=
 ∀(pins:List (Addr×Obj)) (s:Shared) (σ:St) (H:Hp) (Q:VK),Inv X pins σ H s->t σ H Q->wpAny (model X.prog X.w) X.A (eval e X.env) (EP X pins σ Q) X.xe s
def PT(X:Cx)(e:Expr)(t:TT):Prop:=
 ∀(pins:List (Addr×Obj)) (s:Shared) (σ:St) (H:Hp) (Q:Bool->Hp->Prop),Inv X pins σ H s->t σ H Q->wpAny (model X.prog X.w) X.A (isTrue e X.env (eval e X.env)) (TP X pins σ Q) X.xe s
def PW(X:Cx)(e:Expr)(t:TT):Prop:=
 ∀(whole:Sem Value) (pins:List (Addr×Obj)) (s:Shared) (σ:St) (H:Hp) (Q:Bool->Hp->Prop),Inv X pins σ H s->t σ H Q->wpAny (model X.prog X.w) X.A (isTrue e X.env whole) (TP X pins σ Q) X.xe s
theorem PW.pt{X:Cx}{e:Expr}{t:TT}(h:PW X e t):PT X e t:=h _
def PA(X:Cx)(es:List Expr)(t:TA):Prop:=
 ∀(pos:Pos) (pins:List (Addr×Obj)) (s:Shared) (σ:St) (H:Hp) (Q:List V->Hp->Prop),Inv X pins σ H s->t σ H Q->wpAny (model X.prog X.w) X.A (spliced (backTo pos (starEach es X.env))) (AP X pins σ Q) X.xe s
def PS(X:Cx)(st:Stmt)(t:TS):Prop:=
 ∀(pins:List (Addr×Obj)) (s:Shared) (σ:St) (H:Hp) (D:ZcZ),Inv X pins σ H s->t D σ H->wpAny (model X.prog X.w) X.A (exec st X.env) (SP X pins D) X.xe s
def PSs(X:Cx)(st:List Stmt)(t:TS):Prop:=
 ∀(pins:List (Addr×Obj)) (s:Shared) (σ:St) (H:Hp) (D:ZcZ),Inv X pins σ H s->t D σ H->wpAny (model X.prog X.w) X.A (execs st X.env) (SP X pins D) X.xe s
theorem thn{α:Type}{t:Sem α}{Q Q':α->Shared->Prop}{M:Model}{A:Around}{E:Value->Shared->Prop}{s:Shared}(h:wpAny M A t Q E s)(hQ:∀a s,Q a s->Q' a s):wpAny M A t Q' E s:=wpAny_mono h hQ fun _ _ x=>x
end L2
namespace L2
open PySem PySem.Spec PyProof.Rows
section
variable {X:Cx}
def Zix(i:Nat):TE:=fun σ H Q=>∃v,σ[i]? =some (some v)/\Q v H
def tC(v:V):TE:=fun _ H Q=>Q v H
theorem Zm0{i:Nat}{x:Str}{pos:Pos}(hN:X.N[i]? =some x)(hv:Vis X.env.scope x)(hd:(x==("__debug__":Str))=false:=by decide)(hcd:(x==("__classdict__":Str))=false:=by decide):PE X (.Name x pos) (Zix i):=by
 intro pins s σ H Q I h;obtain⟨v,e,h⟩:=h;obtain⟨m,hn,hl⟩:=I.loc;obtain⟨u,r,l⟩:=hl i x v hN e hv;have fin:EP X pins σ Q u s:=⟨v,H,I,r,h⟩
 rcases l with ⟨hk,hm⟩|⟨hk,c,hc,hcell⟩
 ·exact wpAny_Name (wpAny_loadName_local I.ok.kind hk hn hm fin) hd
 ·rcases hk with hk|hk
  ·exact wpAny_Name (wpAny_loadName_cell I.ok.kind hk hc hcell fin) hd
  ·exact wpAny_Name (wpAny_loadName_free I.ok.kind hk hc hcell fin hcd) hd
theorem Zn{i j pos}:PE X (.Constant (.int i) j pos) (tC (.int i)):=fun _ _ _ H _ I h=>wpAny_Constant_int ⟨.int i,H,I.tok _,⟨_,rfl⟩,h⟩
theorem Zgh{b j pos}:PE X (.Constant (.bool b) j pos) (tC (.bl b)):=fun _ _ _ H _ I h=>Constant_bool ⟨.bl b,H,I,rfl,h⟩
theorem Zd0{j pos}:PE X (.Constant .none j pos) (tC .non):=fun _ _ _ H _ I h=>Constant_none ⟨.non,H,I,rfl,h⟩
theorem Yt{x j pos}:PE X (.Constant (.str x) j pos) (tC (.str x)):=fun _ _ _ H _ I h=>Calls.Constant_str ⟨.str x,H,I.tok _,⟨_,rfl⟩,h⟩
def Gl(X:Cx)(x:Str):Prop:=X.env.kindOf x=some .globalImplicit
theorem Jk{E:Value->Shared->Prop}{pins:List (Addr×Obj)}{s:Shared}{σ:St}{H:Hp}{x:Str}{u:Value}{pos:Pos}{Q:Value->Shared->Prop}(I:Inv X pins σ H s)(hg:Gl X x)(hm:X.mg x=some u)(h:Q u s)
  (hd:(x==("__debug__":Str))=false:=by decide):wpAny (model X.prog X.w) X.A (eval (.Name x pos) X.env) Q E s:=
 Calls.Name_function_global I.ok.kind hg (Calls.loadGlobal_global (by rw[I.ok.glob];exact I.mod.glob.keeps I.bk) hm h) hd
theorem ZbY{E:Value->Shared->Prop}{pins:List (Addr×Obj)}{s:Shared}{σ:St}{H:Hp}{x:Str}{u:Value}{pos:Pos}{Q:Value->Shared->Prop}(I:Inv X pins σ H s)(hg:Gl X x)(hm:X.mg x=none)(hv:bootBuiltins x=some u)(h:Q u s)
  (hn:x≠"__name__":=by decide)(hd:(x==("__debug__":Str))=false:=by decide):wpAny (model X.prog X.w) X.A (eval (.Name x pos) X.env) Q E s:=by
 obtain⟨mb,h1,h2⟩:=I.mod.blt;exact Calls.Name_function_global I.ok.kind hg (Calls.loadGlobal_builtin (by rw[I.ok.glob];exact I.mod.glob.keeps I.bk) hm (by rw[I.ok.blt];exact h1.keeps I.bk) ((h2 x hn).trans hv) h) hd
theorem Xd{x:Str}{v:V}{u:Value}{pos:Pos}(hg:Gl X x)(hm:X.mg x=some u)(r:ZR v u)(hd:(x==("__debug__":Str))=false:=by decide):PE X (.Name x pos) (tC v):=
 fun _ _ _ H _ I h=>Jk I hg hm ⟨v,H,I,r,h⟩ hd
theorem ZkO{x:Str}{v:V}{u:Value}{pos:Pos}(hg:Gl X x)(hm:X.mg x=none)(hv:bootBuiltins x=some u)(r:ZR v u)(hn:x≠"__name__":=by decide)(hd:(x==("__debug__":Str))=false:=by decide):PE X (.Name x pos) (tC v):=
 fun _ _ _ H _ I h=>ZbY I hg hm hv ⟨v,H,I,r,h⟩ hn hd
variable {a b:Expr} {ta tb:TE} {pos:Pos}
def PC(X:Cx)(op:CmpOp)(a b:Expr)(t:TE):Prop:=
 ∀(pins:List (Addr×Obj)) (s:Shared) (σ:St) (H:Hp) (Q:VK),Inv X pins σ H s->t σ H Q->
  wpAny (model X.prog X.w) X.A (eval a X.env) (fun v s₁=>wpAny (model X.prog X.w) X.A (eval b X.env) (fun u s₂=>wpAny (model X.prog X.w) X.A (compareOp op v u) (EP X pins σ Q) X.xe s₂) X.xe s₁) X.xe s
def tB(t:TE):TT:=fun σ H Q=>t σ H fun x H1=>∃c,x=.bl c/\Q c H1
theorem Zm1{op:CmpOp}{t:TE}(h:PC X op a b t)(h1:behindInMarks op b=false:=by first|exact nobehind _ (by decide) (by decide)|rfl):PE X (.Compare a [op] [b] pos) t:=fun pins s σ H Q I hw=>wpAny_Compare1 (h pins s σ H Q I hw) h1
theorem Zm2{op:CmpOp}{t:TE}(h:PC X op a b t)(h1:behindInMarks op b=false:=by first|exact nobehind _ (by decide) (by decide)|rfl):PT X (.Compare a [op] [b] pos) (tB t):=by
 intro pins s σ H Q I hw;refine wpAny_isTrue_Compare1 (thn (h pins s σ H _ I hw) fun v s1 h1=>thn h1 fun u s2 h2=>thn h2 fun c s3 ⟨x,H1,I1,r1,q1⟩=> ?_) h1;obtain⟨d,rfl,q⟩:=q1;cases r1;exact wpAny_truthy_bool ⟨H1,I1,q⟩
theorem Zb6{e:Expr}{t:TE}(h:PE X e t)(he:∀whole,isTrue e X.env whole=(do let v<-whole;standAt e.pos;holding [v] (truthy v)):=by intro _;rfl):PT X e (tB t):=by
 intro pins s σ H Q I hw;refine isTrue_plain (thn (h pins s σ H _ I hw) fun v s1 ⟨x,H1,I1,r1,q1⟩=> ?_) (he _);obtain⟨d,rfl,q⟩:=q1;cases r1;exact wpAny_truthy_bool ⟨H1,I1,q⟩
variable {tA tB':TT} {rest:List Expr}
def ZnF(t u:TT):TT:=fun σ H Q=>t σ H fun c H1=>if c=true then u σ H1 Q else Q false H1
def tOr(t u:TT):TT:=fun σ H Q=>t σ H fun c H1=>if c=true then Q true H1 else u σ H1 Q
def ZnG(t:TT):TT:=fun σ H Q=>t σ H fun c H1=>Q (!c) H1
theorem ZkP(ha:PT X a tA):PW X (.BoolOp .And [a] pos) tA:=by
 intro wh pins s σ H Q I h;refine isTrue_and (thn (ha pins s σ H Q I h) fun c s1 e=> ?_);cases c with
 |true=>exact isTrue_and_nil e
 |false=>exact e
theorem Zjj(ha:PT X a tA):PW X (.BoolOp .Or [a] pos) tA:=by
 intro wh pins s σ H Q I h;refine isTrue_or (thn (ha pins s σ H Q I h) fun c s1 e=> ?_);cases c with
 |false=>exact isTrue_or_nil e
 |true=>exact e
theorem Zm3(ha:PT X a tA)(hb:PW X (.BoolOp .And (b::rest) pos) tB'):PW X (.BoolOp .And (a::b::rest) pos) (ZnF tA tB'):=by
 intro wh pins s σ H Q I h;refine isTrue_and (thn (ha pins s σ H _ I h) fun c s1 ⟨H1,I1,q1⟩=> ?_);cases c with
 |true=>exact hb wh pins s1 σ H1 Q I1 q1
 |false=>exact⟨H1,I1,q1⟩
theorem ZlH(ha:PT X a tA)(hb:PW X (.BoolOp .Or (b::rest) pos) tB'):PW X (.BoolOp .Or (a::b::rest) pos) (tOr tA tB'):=by
 intro wh pins s σ H Q I h;refine isTrue_or (thn (ha pins s σ H _ I h) fun c s1 ⟨H1,I1,q1⟩=> ?_);cases c with
 |true=>exact⟨H1,I1,q1⟩
 |false=>exact hb wh pins s1 σ H1 Q I1 q1
theorem Ze8(ha:PT X a tA):PT X (.UnaryOp .Not a pos) (ZnG tA):=by
 intro pins s σ H Q I h;exact isTrue_not (ha pins s σ H (fun c H1=>Q (!c) H1) I h)
def ZmW(ta tb:TE):TE:=fun σ H Q=>ta σ H fun x H1=>∃c,x=.bl c/\if c=true then tb σ H1 Q else Q (.bl false) H1
def ZnH(ta tb:TE):TE:=fun σ H Q=>ta σ H fun x H1=>∃c,x=.bl c/\if c=true then Q (.bl true) H1 else tb σ H1 Q
theorem Zd1{op}{t:TE}(h:PE X a t):PE X (.BoolOp op [a] pos) t:=fun pins s σ H Q I hw=>BoolOp_one (h pins s σ H Q I hw)
theorem Zd2(ha:PE X a ta)(hb:PE X (.BoolOp .And (b::rest) pos) tb):PE X (.BoolOp .And (a::b::rest) pos) (ZmW ta tb):=by
 intro pins s σ H Q I h;refine BoolOp_and (thn (ha pins s σ H _ I h) fun v s1 ⟨x,H1,I1,r1,q1⟩=> ?_);obtain⟨c,rfl,q1⟩:=q1;cases r1;refine wpAny_truthy_bool ?_;cases c with
 |true=>exact hb pins s1 σ H1 Q I1 q1
 |false=>exact⟨.bl false,H1,I1,rfl,q1⟩
theorem ZmX(ha:PE X a ta)(hb:PE X (.BoolOp .Or (b::rest) pos) tb):PE X (.BoolOp .Or (a::b::rest) pos) (ZnH ta tb):=by
 intro pins s σ H Q I h;refine BoolOp_or (thn (ha pins s σ H _ I h) fun v s1 ⟨x,H1,I1,r1,q1⟩=> ?_);obtain⟨c,rfl,q1⟩:=q1;cases r1;refine wpAny_truthy_bool ?_;cases c with
 |false=>exact hb pins s1 σ H1 Q I1 q1
 |true=>exact⟨.bl true,H1,I1,rfl,q1⟩
end
end L2
namespace L2
open PySem PySem.Spec PyProof.Rows
def SqL(K:PySem.W.Frag)(H:Hp)(a:Addr)(xs:List V):Prop:=
 Rd H a (.lst xs)\/
  ∃(o:Obj) (its:Array Value) (n:Nat),K.lookup a=some o/\o.cls=.type "list"/\o.dict=none/\o.data=.seq its n/\its.size<=sizeLine/\ZW xs its.toList
def SqT(K:PySem.W.Frag)(H:Hp)(a:Addr)(xs:List V):Prop:=
 Rd H a (.tup xs)\/
  ∃(o:Obj) (its:Array Value) (n:Nat),K.lookup a=some o/\o.cls=.type "tuple"/\o.data=.seq its n/\its.size<=sizeLine/\ZW xs its.toList
def ZnI:Value->Option V
 | .none=>some .non
 | .bool b=>some (.bl b)
 | .int i _=>some (.int i)
 | .str x _=>some (.str x)
 | .bytes b _=>some (.byt b)
 | .float b _=>some (.flt b)
 | .ref a=>some (.ref a)
 | .type n=>some (.ty n)
 |_=>none
theorem ZR.abs{x:V}{u:Value}(r:ZR x u):ZnI u=some x:=by
 cases x with
 |non=>cases r;rfl
 |bl _=>cases r;rfl
 |int _=>obtain⟨t,rfl⟩:=r;rfl
 |str _=>obtain⟨t,rfl⟩:=r;rfl
 |byt _=>obtain⟨t,rfl⟩:=r;rfl
 |flt _=>obtain⟨t,rfl⟩:=r;rfl
 |ref _=>cases r;rfl
 |ty _=>cases r;rfl
theorem ZR.inj{x y:V}{u:Value}(r:ZR x u)(q:ZR y u):x=y:=Option.some.inj (r.abs.symm.trans q.abs)
theorem ZW.inj:∀{xs ys:List V} {us:List Value},ZW xs us->ZW ys us->xs=ys
 |_,_,_,.nil,.nil=>rfl
 |_,_,_,.cons r t,.cons r' t'=>by rw[r.inj r',ZW.inj t t']
section
variable {X:Cx} {pins:List (Addr×Obj)} {σ:St} {H:Hp} {s:Shared} {a:Addr} {xs ys:List V}
theorem SqL.of{K:PySem.W.Frag}(h:H a=some (.lst xs)):SqL K H a xs:=.inl (.inl h)
theorem SqT.of{K:PySem.W.Frag}(h:H a=some (.tup xs)):SqT K H a xs:=.inl (.inl h)
theorem Inv.list(I:Inv X pins σ H s)(h:SqL X.K H a xs):∃its:List Value,ZW xs its/\PlainL s.heap a its.toArray/\xs.length<=sizeLine:=by
 rcases h with h|⟨o,its,n,hk,hc,hd,hs,hz,r⟩
 ·obtain⟨z,its,n,r,e⟩:=h.ok I.hok;exact⟨its,r,⟨_,n,e,rfl,rfl,rfl⟩,z⟩
 ·refine⟨its.toList,r,⟨o,n,I.kIn a o hk,hc,hd,by simpa using hs⟩, ?_⟩;have e:=r.length;simp only [Array.length_toList] at e
  omega
theorem Inv.tuple(I:Inv X pins σ H s)(h:SqT X.K H a xs):∃its:List Value,ZW xs its/\IsTup s.heap a its.toArray/\xs.length<=sizeLine:=by
 rcases h with h|⟨o,its,n,hk,hc,hs,hz,r⟩
 ·obtain⟨z,its,r,p⟩:=h.ok I.hok;exact⟨its,r,p,z⟩
 ·refine⟨its.toList,r,⟨o,I.kIn a o hk,hc,n,by simpa using hs⟩, ?_⟩;have e:=r.length;simp only [Array.length_toList] at e
  omega
theorem Inv.list_inj(I:Inv X pins σ H s)(h:SqL X.K H a xs)(h':SqL X.K H a ys):xs=ys:=by
 obtain⟨its,r,⟨o,n,e,_,_,d⟩,_⟩:=I.list h;obtain⟨its',r',⟨o',n',e',_,_,d'⟩,_⟩:=I.list h';rw[e] at e';cases e'
 rw[d] at d'
 injection d' with d1 _
 have:its=its':=by simpa using congrArg Array.toList d1
 subst this;exact r.inj r'
theorem Inv.tuple_inj(I:Inv X pins σ H s)(h:SqT X.K H a xs)(h':SqT X.K H a ys):xs=ys:=by
 obtain⟨its,r,⟨o,e,_,n,d⟩,_⟩:=I.tuple h;obtain⟨its',r',⟨o',e',_,n',d'⟩,_⟩:=I.tuple h';rw[e] at e';cases e'
 rw[d] at d'
 injection d' with d1 _
 have:its=its':=by simpa using congrArg Array.toList d1
 subst this;exact r.inj r'
end
abbrev Cx.wish(X:Cx)(E:Value->Shared->Prop):Cx:={X with xe:=E}
abbrev Cx.nox(X:Cx):Cx:=X.wish fun _ _=>False
theorem Cx.Ok.wish{X:Cx}(ok:X.Ok)(E:Value->Shared->Prop):(X.wish E).Ok:=
 ⟨ok.mod,ok.kind,ok.glob,ok.blt,ok.above,ok.inj,ok.has,ok.cab,ok.hd,ok.frames,ok.stk,ok.exf,ok.bs,ok.bsz,ok.noex,ok.exfs,ok.funs,ok.frf⟩
theorem Cx.Ok.unwish{X:Cx}{E:Value->Shared->Prop}(ok:(X.wish E).Ok):X.Ok:=
 ⟨ok.mod,ok.kind,ok.glob,ok.blt,ok.above,ok.inj,ok.has,ok.cab,ok.hd,ok.frames,ok.stk,ok.exf,ok.bs,ok.bsz,ok.noex,ok.exfs,ok.funs,ok.frf⟩
section
variable {X:Cx} {pins:List (Addr×Obj)} {σ:St} {H:Hp} {s:Shared} {E:Value->Shared->Prop}
theorem Inv.wish(I:Inv X pins σ H s)(E:Value->Shared->Prop):Inv (X.wish E) pins σ H s:=⟨I.ok.wish E,I.os,I.bare,I.base,I.loc,I.cell,I.free,I.freeC,I.pin,I.hok,I.len⟩
theorem Inv.unwish(I:Inv (X.wish E) pins σ H s):Inv X pins σ H s:=⟨I.ok.unwish,I.os,I.bare,I.base,I.loc,I.cell,I.free,I.freeC,I.pin,I.hok,I.len⟩
theorem SP.unwish{D:ZcZ}{f:Flow}{s':Shared}(h:SP (X.wish E) pins D f s'):SP X pins D f s':=by
 cases f with
 |next=>obtain⟨σ',H',I,q⟩:=h;exact⟨σ',H',I.unwish,q⟩
 |brk=>obtain⟨σ',H',I,q⟩:=h;exact⟨σ',H',I.unwish,q⟩
 |cont=>obtain⟨σ',H',I,q⟩:=h;exact⟨σ',H',I.unwish,q⟩
 |ret u=>obtain⟨v,σ',H',I,r,q⟩:=h;exact⟨v,σ',H',I.unwish,r,q⟩
theorem PSs.nox{st:List Stmt}{t:TS}(h:PSs X.nox st t):PSs X st t:=fun pins s σ H D I hw=>
 wpAny_mono (h pins s σ H D (I.wish _) hw) (fun _ _ q=>q.unwish) fun _ _ z=>False.elim z
end
section
variable {X:Cx} {st:Stmt} {rest:List Stmt} {t u:TS} {e:Expr} {te:TE} {pos:Pos}
def ZmY:TS:=fun D σ H=>D.nx σ H
def ZnJ(t u:TS):TS:=fun D σ H=>t {D with nx:=u D} σ H
theorem Yi:PSs X [] ZmY:=fun _ _ σ H _ I h=>wpAny_execs_nil ⟨σ,H,I,h⟩
theorem Zj(h1:PS X st t)(h2:PSs X rest u):PSs X (st::rest) (ZnJ t u):=by
 intro pins s σ H D I h;refine wpAny_execs_cons (thn (h1 pins s σ H {D with nx:=u D} I h) fun f s1 q=> ?_);cases f with
 |next=>
  obtain⟨σ',H',I',q⟩:=q;exact h2 pins s1 σ' H' D I' q
 |ret v=>exact q
 |brk=>exact q
 |cont=>exact q
theorem Zr(h1:PS X st t):PSs X [st] t:=by
 intro pins s σ H D I h;refine wpAny_execs_cons (thn (h1 pins s σ H D I h) fun f s1 q=> ?_);cases f with
 |next=>exact wpAny_execs_nil q
 |ret v=>exact q
 |brk=>exact q
 |cont=>exact q
theorem Inv.quiet{pins:List (Addr×Obj)}{σ:St}{H:Hp}{s:Shared}(I:Inv X pins σ H s):interactive X.env=false:=by simp[interactive,I.ok.kind]
def ZmZ(te:TE):TS:=fun D σ H=>te σ H fun _ H1=>D.nx σ H1
theorem JN(he:PE X e te)(hs:swapsWith e none pos.line X.env=pure false:=by rfl):PS X (.Expr e pos) (ZmZ te):=by
 intro pins s σ H D I h;exact wpAny_Expr_any (thn (he pins s σ H _ I h) fun v s1 ⟨x,H1,I1,r1,q1⟩=>⟨σ,H1,I1,q1⟩) I.quiet hs
def ZnK(te:TE):TS:=fun D σ H=>te σ H D.rt
theorem ZQ(he:PE X e te):PS X (.Return (some e) pos) (ZnK te):=by
 intro pins s σ H D I h;exact wpAny_Return_some (thn (he pins s σ H _ I h) fun v s1 ⟨x,H1,I1,r1,q1⟩=>⟨x,σ,H1,I1,r1,q1⟩)
def ZnL(c:TT)(t u:TS):TS:=fun D σ H=>c σ H fun b H1=>if b=true then t D σ H1 else u D σ H1
theorem YM{c:Expr}{a b:List Stmt}{tc:TT}(hc:PT X c tc)(ha:PSs X a t)(hb:PSs X b u):PS X (.If c a b pos) (ZnL tc t u):=by
 intro pins s σ H D I h;refine wpAny_If (thn (hc pins s σ H _ I h) fun d s1 ⟨H1,I1,q1⟩=> ?_);cases d with
 |true=>exact ha pins s1 σ H1 D I1 q1
 |false=>exact hb pins s1 σ H1 D I1 q1
end
abbrev TG:=V->St->Hp->(St->Hp->Prop)->Prop
abbrev TGs:=List V->St->Hp->(St->Hp->Prop)->Prop
def PG(X:Cx)(target:Expr)(t:TG):Prop:=
 ∀(pins:List (Addr×Obj)) (s:Shared) (σ:St) (H:Hp) (v:V) (u:Value) (Q:St->Hp->Prop),Inv X pins σ H s->ZR v u->t v σ H Q->
  wpAny (model X.prog X.w) X.A (assign target X.env u) (fun _ s'=>∃σ' H',Inv X pins σ' H' s'/\Q σ' H') X.xe s
def PGs(X:Cx)(ts:List Expr)(t:TGs):Prop:=
 ∀(pins:List (Addr×Obj)) (s:Shared) (σ:St) (H:Hp) (vs:List V) (us:List Value) (Q:St->Hp->Prop),Inv X pins σ H s->ZW vs us->t vs σ H Q->
  wpAny (model X.prog X.w) X.A (assignInOrder ((assignEach ts X.env).map (·.2)) us) (fun _ s'=>∃σ' H',Inv X pins σ' H' s'/\Q σ' H') X.xe s
section
variable {X:Cx} {pos:Pos}
def ZhZ(i:Nat):TG:=fun v σ H Q=>Q (σ.set i (some v)) H
theorem YB{i:Nat}{x:Str}(hN:X.N.Nodup)(hi:X.N[i]? =some x)(hx:Loc X.env.scope x)(hf:X.fn x=true\/X.env.scope.names.lookup x=some .local:=by first|exact .inl rfl|exact .inr rfl|assumption):PG X (.Name x pos) (ZhZ i):=by
 intro pins s σ H v u Q I r h;exact wpAny_assign_Name (Zcl I hN hi hx r (fun s' I'=>⟨_,H,I',h⟩) hf)
def Zn0:TGs:=fun vs σ H Q=>vs=[]/\Q σ H
def Zjk(t:TG)(u:TGs):TGs:=fun vs σ H Q=>∃v r,vs=v::r/\t v σ H fun σ' H'=>u r σ' H' Q
theorem Zi0:PGs X [] Zn0:=by
 intro pins s σ H vs us Q I r h;obtain⟨e,h⟩:=h;subst e;cases r;exact assignInOrder_nil ⟨σ,H,I,h⟩
theorem Zcm{e:Expr}{es:List Expr}{t:TG}{u:TGs}(h1:PG X e t)(h2:PGs X es u)
  (hs:(assignEach (e::es) X.env).map (·.2)=assign e X.env::(assignEach es X.env).map (·.2):=by rfl):PGs X (e::es) (Zjk t u):=by
 intro pins s σ H vs us Q I r h;obtain⟨v,vr,e1,h⟩:=h;subst e1;cases r with
 |cons r rr=>
  rw[hs];refine assignInOrder_cons (thn (h1 pins s σ H _ _ _ I r h) fun _ s1 ⟨σ1,H1,I1,q1⟩=> ?_);exact h2 pins s1 σ1 H1 _ _ Q I1 rr q1
def Zm4(K:PySem.W.Frag)(n:Nat)(t:TGs):TG:=fun v σ H Q=>∃a xs,v=.ref a/\SqT K H a xs/\xs.length=n/\t xs σ H Q
theorem Zjl{es:List Expr}{k:Nat}{t:TGs}{n:Nat}(hc:X.calm=true)(h:PGs X es t)
  (hn:(assignEach es X.env).length=n:=by rfl)(hst:(assignEach es X.env).findIdx? (·.1)=none:=by rfl):PG X (.Tuple es k pos) (Zm4 X.K n t):=by
 intro pins s σ H v u Q I r hw;obtain⟨a,xs,e1,hq,hl,hw⟩:=hw;subst e1;cases r;obtain⟨its,rv,ht,hz⟩:=I.tuple hq;refine assign_Tuple_tuple (I.ok.hd hc) ht (by simp[hn,<-hl,rv.length]) hst fun h' hx=> ?_;have I1:Inv X pins σ H {s with heap:=h'}:=I.kept (t':=s.toks) fun b o e=>hx b o (Nat.ne_of_lt (Heap.lt_size e)) e;exact h pins _ σ H xs _ Q I1 (by simpa using rv) hw
def ZnM(te:TE)(g:TG):TS:=fun D σ H=>te σ H fun x H1=>g x σ H1 D.nx
theorem ZL{i:Nat}{x:Str}{e:Expr}{te:TE}{pos':Pos}(hN:X.N.Nodup)(hi:X.N[i]? =some x)(hx:Loc X.env.scope x)(he:PE X e te)(hs:swapsWith e (some (.Name x pos')) pos.line X.env=pure false:=by rfl)(hf:X.fn x=true\/X.env.scope.names.lookup x=some .local:=by first|exact .inl rfl|exact .inr rfl|assumption):
  PS X (.Assign [.Name x pos'] e pos) (ZnM te (ZhZ i)):=by
 intro pins s σ H D I h;refine wpAny_Assign_Name (thn (he pins s σ H _ I h) fun v s1 ⟨y,H1,I1,r1,q1⟩=> ?_) hs;exact Zcl I1 hN hi hx r1 (fun s2 I2=>⟨_,H1,I2,q1⟩) hf
end
section
variable {X:Cx} {pos:Pos}
def Zm5(c:TT)(tb:TS):TS:=fun D σ H=>∃W:Nat->St->Hp->Prop,(∃m,W m σ H)/\∀m σ H,W m σ H->
 c σ H fun b H1=>if b=true then∃N:St->Hp->Prop,(∀σ' H',N σ' H'->∃m',m'<m/\W m' σ' H')/\tb {D with nx:=N,ct:=N,bk:=D.nx} σ H1 else D.nx σ H1
theorem Zjm{c:Expr}{body:List Stmt}{tc:TT}{tb:TS}(hp:PassesOwn (model X.prog X.w) X.A X.env X.xe)(hc:PT X c tc)(hb:PSs X body tb):PS X (.While c body [] pos) (Zm5 tc tb):=by
 intro pins s σ H D I h;obtain⟨W,⟨m0,w0⟩,turn⟩:=h;refine wpAny_While (codeAny_whileLoop (fun n s'=>∃σ' H',Inv X pins σ' H' s'/\W n σ' H') ?_ m0 ⟨σ,H,I,w0⟩);rintro n s1 ⟨σ1,H1,I1,w1⟩;refine wpAny_passesOwn hp (thn (hc pins s1 σ1 H1 _ I1 (turn n σ1 H1 w1)) fun b s2 ⟨H2,I2,q2⟩=> ?_);cases b with
 |true=>
  obtain⟨N,hN,q2⟩:=q2;rw[if_pos rfl];refine wpAny_passesOwn hp (thn (hb pins s2 σ1 H2 _ I2 q2) fun f s3 q3=> ?_);cases f with
  |next=>
   obtain⟨σ3,H3,I3,n3⟩:=q3;obtain⟨m',hm,w3⟩:=hN σ3 H3 n3;exact⟨m',hm,σ3,H3,I3,w3⟩
  |cont=>
   obtain⟨σ3,H3,I3,n3⟩:=q3;obtain⟨m',hm,w3⟩:=hN σ3 H3 n3;exact⟨m',hm,σ3,H3,I3,w3⟩
  |brk=>exact q3
  |ret v=>exact q3
 |false=>
  rw[if_neg Bool.false_ne_true];exact wpAny_execs_nil ⟨σ1,H2,I2,q2⟩
end
structure It where
 go:Nat->Hp->Prop
 yld:Nat->Hp->V->Hp->Prop
 stop:Nat->Hp->Prop
def Zd3(X:Cx)(pins:List (Addr×Obj))(H:Hp)(b:Addr):Prop:=
 H b=none/\b≠X.env.locals/\b∉X.fs/\(b∈X.ex\/X.s₀.heap.objs.size<=b)/\(∀x c,X.env.cells.lookup x=some c->c≠b)/\∀p∈X.pn++pins,p.1≠b
theorem Inv.fpOk{X:Cx}{pins:List (Addr×Obj)}{σ:St}{H H':Hp}{s:Shared}{b:Addr}(I:Inv X pins σ H s)(hb:s.heap.objs.size<=b)(hn:H' b=none):Zd3 X pins H' b:=by
 refine⟨hn,Nat.ne_of_gt (Nat.lt_of_lt_of_le I.lt hb),I.nofs hb,.inr (Nat.le_trans I.sz hb),fun x c e z=> ?_,fun p hp z=> ?_⟩
 ·obtain⟨v,q⟩:=I.cell x c e;exact absurd (Nat.lt_of_lt_of_le q.lt (by rw[z];exact hb)) (Nat.lt_irrefl _)
 ·exact absurd (Nat.lt_of_lt_of_le (Heap.lt_size (I.pin p hp).1) (by rw[z];exact hb)) (Nat.lt_irrefl _)
structure Zjn (P:Program) (w:World) (K:PySem.W.Frag) (tg:Expr) (J:It) (fp:List Addr) (it:Addr) (tn:Nat->Heap->Prop):Prop where
 mem:it∈fp
 obj:∀i h,tn i h->∀b∈fp,∃o,h.get? b=some o/\∀v,o.data≠.cell v
 keep:∀i h h',tn i h->(∀b∈fp,∀o,h.get? b=some o->h'.get? b=some o)->tn i h'
 item:∀(X:Cx),X.prog=P->X.w=w->X.K=K->X.calm=true->∀(i:Nat) (pins:List (Addr×Obj)) (s:Shared) (σ:St) (H:Hp) (E:Value->Shared->Prop),Inv X pins σ H s->(∀b∈fp,Zd3 X pins H b)->tn i s.heap->J.go i H->
  wpAny (model P w) X.A (pyNext (.ref it)) (fun r s1=>∃u,r=some u/\
   wpAny (model P w) X.A (letOwnedTupleGo tg (.ref it) u) (fun _ s2=>∃x H',Inv X pins σ H' s2/\ZR x u/\J.yld i H x H'/\tn (i+1) s2.heap/\∀b∈fp,H' b=none) E s1) E s
 done:∀(X:Cx),X.prog=P->X.w=w->X.K=K->X.calm=true->∀(i:Nat) (pins:List (Addr×Obj)) (s:Shared) (σ:St) (H:Hp) (E:Value->Shared->Prop),Inv X pins σ H s->(∀b∈fp,Zd3 X pins H b)->tn i s.heap->J.stop i H->
  wpAny (model P w) X.A (pyNext (.ref it)) (fun r s1=>r=none/\Inv X pins σ H s1) E s
 self:∀(A:Around) (i:Nat) (s:Shared) (Q:Value->Shared->Prop) (E:Value->Shared->Prop),tn i s.heap->Q (.ref it) s->wpAny (model P w) A (pyIter (.ref it)) Q E s
abbrev TI:=St->Hp->(It->Hp->Prop)->Prop
def PIE(X:Cx)(pins:List (Addr×Obj))(σ:St)(tg:Expr)(R:It->Hp->Prop)(itv:Value)(s2:Shared):Prop:=
 ∃(it:Addr) (fp:List Addr) (tn:Nat->Heap->Prop) (J:It) (H':Hp),itv=.ref it/\Inv X pins σ H' s2/\Zjn X.prog X.w X.K tg J fp it tn/\tn 0 s2.heap/\(∀b∈fp,Zd3 X pins H' b)/\R J H'
def PI(X:Cx)(tg iter:Expr)(wi:TI):Prop:=
 ∀(pins:List (Addr×Obj)) (s:Shared) (σ:St) (H:Hp) (R:It->Hp->Prop),Inv X pins σ H s->wi σ H R->
  wpAny (model X.prog X.w) X.A (eval iter X.env) (fun v s1=>wpAny (model X.prog X.w) X.A (pyIter v) (PIE X pins σ tg R) X.xe s1) X.xe s
theorem Zjo{M:Model}{A:Around}{E:Value->Shared->Prop}{s:Shared}{tg:Expr}{it:Addr}{u:Value}{o:Obj}{n:String}{vs:Array Value}{Q:Unit->Shared->Prop}(ho:s.heap.get? it=some o)(hc:o.cls=.type n)(hd:o.data=.fields vs)
  (hn:["enumerate","zip","dict_itemiterator","dict_reverseitemiterator","odict_iterator","itertools.zip_longest","itertools.pairwise"].contains n=false)(hQ:Q () s):wpAny M A (letOwnedTupleGo tg (.ref it) u) Q E s:=by
 unfold letOwnedTupleGo;cases tg<;>first
  |exact wpAny_pure hQ
  |(cases u<;>first
    |exact wpAny_pure hQ
    |(refine wpAny_bind (wpAny_load ho ?_)
      rw[hc,hd];show wpAny M A (if(["enumerate","zip","dict_itemiterator","dict_reverseitemiterator","odict_iterator","itertools.zip_longest","itertools.pairwise"].contains n&&vs[0]? ==some (rawInt _))=true then _ else _) Q E s;rw[if_neg (by intro h;rw[hn,Bool.false_and] at h;cases h)]
      exact wpAny_pure hQ))
def Itl(K:PySem.W.Frag)(a:Addr):It:=
 ⟨fun i H=>∃xs x,SqL K H a xs/\xs[i]? =some x,fun i H x H'=>H'=H/\∀xs,SqL K H a xs->xs[i]? =some x,fun i H=>∃xs,SqL K H a xs/\xs.length<=i⟩
def Itr(lo:Int)(n:Nat):It:=⟨fun i _=>i<n,fun i H x H'=>H'=H/\x=.int (lo+i),fun i _=>n<=i⟩
theorem Ziy{P:Program}{w:World}{K:PySem.W.Frag}{tg:Expr}(a it:Addr):Zjn P w K tg (Itl K a) [it] it (fun i h=>h.IsListIter it a i) where
 mem:=by simp
 obj:=fun i h st b hb=>by
  have e:b=it:=by simpa using hb
  subst e;obtain⟨o,e,c,d⟩:=st;exact⟨o,e,fun v z=>by rw[d] at z;cases z⟩
 keep:=fun i h h' st k=>st.at fun o e=>k it (by simp) o e
 item:=by
  intro X hP hw hK hc i pins s σ H E I hf st hg;subst hP hw hK;obtain⟨xs,x,hq,hx⟩:=hg;obtain⟨its,rv,p,hz⟩:=I.list hq;obtain⟨u,hu,ru⟩:=rv.get hx;obtain⟨f0,f1,f2,f3,f4,f5⟩:=hf it (by simp);refine wpAny_pyNext_list_item st p.isList (x:=u) (by simpa using hu) fun h' st' sb=> ?_;have I1:Inv X pins σ H {s with heap:=h'}:=I.turned (t':=s.toks) (fun b o hb e=>(sb.2 b hb).trans e) f0 f1 f3 f4 f5;obtain⟨o,e,c,d⟩:=id st'
  exact⟨u,rfl,Zjo (s:={s with heap:=h'}) e c d (by decide) ⟨x,H,I1,ru,⟨rfl,fun ys hy=>by rw[I.list_inj hy hq];exact hx⟩,st',fun b hb=>(hf b hb).1⟩⟩
 done:=by
  intro X hP hw hK hc i pins s σ H E I hf st hg;subst hP hw hK;obtain⟨xs,hq,hx⟩:=hg;obtain⟨its,rv,p,hz⟩:=I.list hq;obtain⟨f0,f1,f2,f3,f4,f5⟩:=hf it (by simp);have hl:=rv.length;exact wpAny_pyNext_list_end (I.ok.hd hc) st p.isList (by simp;omega) fun h' eb=>⟨rfl,I.turned (t':=s.toks) (fun b o hb e=>eb b o hb e) f0 f1 f3 f4 f5⟩
 self:=fun _ _ _ _ _ st h=>wpAny_pyIter_listiter st h
theorem Zh7{P:Program}{w:World}{K:PySem.W.Frag}{tg:Expr}(it:Addr)(lo:Int)(n:Nat):Zjn P w K tg (Itr lo n) [it] it (fun i h=>IsRangeIter h it (lo+(i:Nat)*1) ((n:Int)-(i:Nat)) 1) where
 mem:=by simp
 obj:=fun i h st b hb=>by
  have e:b=it:=by simpa using hb
  subst e;exact⟨_,st,fun v z=>by
   have z':Data.fields _=Data.cell v:=z;cases z'⟩
 keep:=fun i h h' st k=>k it (by simp) _ st
 item:=by
  intro X hP hw hK hc i pins s σ H E I hf st hg;subst hP hw hK;obtain⟨f0,f1,f2,f3,f4,f5⟩:=hf it (by simp);have W:=Walks.range (prog:=X.prog) (w:=X.w) (I.ok.hd hc) it lo 1 n;refine W.item i s _ _ hg st fun v h' tk hv st' kk=> ?_;obtain⟨t,rfl⟩:=hv;have I1:Inv X pins σ H {s with heap:=h',toks:=tk}:=I.turned (fun b o hb e=>kk b o (by simpa using hb) e) f0 f1 f3 f4 f5;refine⟨_,rfl,Zjo (s:={s with heap:=h',toks:=tk}) (n:="range_iterator") st' rfl rfl (by decide) ⟨.int (lo+i),H,I1,⟨t, ?_⟩,⟨rfl,rfl⟩,st',fun b hb=>(hf b hb).1⟩⟩
  rw[Int.mul_one]
 done:=by
  intro X hP hw hK hc i pins s σ H E I hf st hg;subst hP hw hK;obtain⟨f0,f1,f2,f3,f4,f5⟩:=hf it (by simp);exact wpAny_pyNext_range_end (I.ok.hd hc) st (by have:n<=i:=hg;omega) fun h' eb=>⟨rfl,I.turned (t':=s.toks) (fun b o hb e=>eb b o hb e) f0 f1 f3 f4 f5⟩
 self:=fun _ _ _ _ _ st h=>wpAny_pyIter_rangeiter st h
end L2
namespace L2
open PySem PySem.Spec PyProof.Rows
section
variable {X:Cx} {tg:Expr}
def ZlI(K:PySem.W.Frag)(tl:TE):TI:=fun σ H R=>tl σ H fun x H1=>∃a,x=.ref a/\(∃xs,SqL K H1 a xs)/\R (Itl K a) H1
theorem Jl{l:Expr}{tl:TE}(hl:PE X l tl):PI X tg l (ZlI X.K tl):=by
 intro pins s σ H R I h;refine thn (hl pins s σ H _ I h) fun v s1 ⟨x,H1,I1,r1,q1⟩=> ?_;obtain⟨a,e,⟨xs,hq⟩,q⟩:=q1;subst e;cases r1;obtain⟨its,rv,p,hz⟩:=I1.list hq;refine wpAny_pyIter_list p.isList ?_;refine⟨s1.heap.objs.size,[s1.heap.objs.size],_,_,H1,rfl,I1.kept (t':=s1.toks) fun b o e=>Heap.get?_push_of_some _ e,Ziy a _,⟨_,Heap.get?_push_size _ rfl,rfl,rfl⟩,fun b hb=> ?_,q⟩;have e:b=s1.heap.objs.size:=by simpa using hb
 subst e;exact I1.fpOk (Nat.le_refl _) (I1.hok.fresh (Nat.le_refl _))
theorem Zgi{pins:List (Addr×Obj)}{σ:St}{H:Hp}{s:Shared}{R:It->Hp->Prop}{E:Value->Shared->Prop}{lo hi:Int}{t u v:Tok}{tk:Nat}(I:Inv X pins σ H s)(h1: -(2^62)<=lo)(h2:lo<2^62)(h3: -(2^62)<=hi)(h4:hi<2^62)
  (q:R (Itr lo (hi-lo).toNat) H):wpAny (model X.prog X.w) X.A (pyIter (.ref s.heap.objs.size)) (PIE X pins σ tg R) E {s with heap:=s.heap.push {cls:=.type "range",data:=.fields #[.int lo t,.int hi u,.int 1 v]},toks:=tk}:=by
 refine wpAny_pyIter_range (IsRange.new ..) (small_one h1 h2 h3 h4) ?_;have I1:Inv X pins σ H {s with heap:=s.heap.push {cls:=.type "range",data:=.fields #[.int lo t,.int hi u,.int 1 v]},toks:=tk}:=I.kept fun b o e=>Heap.get?_push_of_some _ e;refine⟨(s.heap.push {cls:=.type "range",data:=.fields #[.int lo t,.int hi u,.int 1 v]}).objs.size,[(s.heap.push {cls:=.type "range",data:=.fields #[.int lo t,.int hi u,.int 1 v]}).objs.size],_,_,H,rfl,
  I1.kept (t':=tk) fun b o e=>Heap.get?_push_of_some _ e,Zh7 _ lo (hi-lo).toNat, ?_,fun b hb=> ?_,q⟩
 ·have e1:lo+((0:Nat):Int)*1=lo:=by simp
  have e2:(((hi-lo).toNat:Nat):Int)-((0:Nat):Int)=Builtin.Range.rangeSize lo hi 1:=by rw[rangeSize_one];split<;>omega
  show IsRangeIter _ _ (lo+((0:Nat):Int)*1) ((((hi-lo).toNat:Nat):Int)-((0:Nat):Int)) 1;rw[e1,e2];exact Heap.get?_push_size _ rfl
 ·have e:b=(s.heap.push {cls:=.type "range",data:=.fields #[.int lo t,.int hi u,.int 1 v]}).objs.size:=by simpa using hb
  subst e;exact I1.fpOk (Nat.le_refl _) (I1.hok.fresh (Nat.le_refl _))
def Zn1(ta:TA):TI:=fun σ H R=>ta σ H fun vs H1=>∃j:Int,vs=[.int j]/\-(2^62)<=j/\j<2^62/\R (Itr 0 j.toNat) H1
def Zn2(ta:TA):TI:=fun σ H R=>ta σ H fun vs H1=>∃i j:Int,vs=[.int i,.int j]/\(-(2^62)<=i/\i<2^62/\-(2^62)<=j/\j<2^62)/\R (Itr i (j-i).toNat) H1
theorem ZeX{a:Expr}{ta:TA}{p pos:Pos}(hg:Gl X "range")(hm:X.mg "range"=none)(ha:PA X [a] ta)(hs:starEach [a] X.env=[(false,eval a X.env)]:=by rfl):PI X tg (.Call (.Name "range" p) [a] [] pos) (Zn1 ta):=by
 intro pins s σ H R I h;refine Call_ (ZbY I hg hm boot_range (PyProof.Rows.callWith_type1 (thn (ha pos pins s σ H _ I h) fun us s1 ⟨vs,H1,I1,r1,q1⟩=> ?_) hs rfl));obtain⟨j,e,q1,q2,q⟩:=q1;subst e;cases r1 with
 |cons r rr=>
  cases rr;obtain⟨t,rfl⟩:=r;exact call_range_1 (Zgi I1 (by omega) (by omega) q1 q2 (by simpa using q))
theorem Ziz{a b:Expr}{ta:TA}{p pos:Pos}(hg:Gl X "range")(hm:X.mg "range"=none)(ha:PA X [a,b] ta)(hs:starEach [a,b] X.env=[(false,eval a X.env),(false,eval b X.env)]:=by rfl)(hs2:starEach [b] X.env=[(false,eval b X.env)]:=by rfl):
  PI X tg (.Call (.Name "range" p) [a,b] [] pos) (Zn2 ta):=by
 intro pins s σ H R I h;refine Call_ (ZbY I hg hm boot_range (PyProof.Rows.callWith_type1 (thn (ha pos pins s σ H _ I h) fun us s1 ⟨vs,H1,I1,r1,q1⟩=> ?_) (by rw[hs,hs2]) (by rw[hs2];rfl)))
 obtain⟨i,j,e,⟨q1,q2,q3,q4⟩,q⟩:=q1;subst e;cases r1 with
 |cons r rr=>
  cases rr with
  |cons r' rr=>
   cases rr;obtain⟨t,rfl⟩:=r;obtain⟨t',rfl⟩:=r';exact call_range_2 (Zgi I1 q1 q2 q3 q4 q)
def ZnN(wi:TI)(g:TG)(tb:TS):TS:=fun D σ H=>wi σ H fun J H1=>∃W:Nat->Nat->St->Hp->Prop,(∃m,W 0 m σ H1)/\∀i m σ H,W i m σ H->
 (J.stop i H/\D.nx σ H)\/(J.go i H/\∃N:St->Hp->Prop,(∀σ' H',N σ' H'->∃m',m'<m/\W (i+1) m' σ' H')/\∀x H',J.yld i H x H'->g x σ H' fun σ2 H2=>tb {D with nx:=N,ct:=N,bk:=D.nx} σ2 H2)
def Zd4(fp:List Addr)(h:Heap):List (Addr×Obj):=fp.filterMap fun b=>(h.get? b).map fun o=>(b,o)
theorem Jc{fp:List Addr}{h:Heap}{b:Addr}{o:Obj}(hb:b∈fp)(e:h.get? b=some o):(b,o)∈Zd4 fp h:=List.mem_filterMap.mpr ⟨b,hb,by rw[e];rfl⟩
theorem ZiA{fp:List Addr}{h:Heap}{p:Addr×Obj}(hp:p∈Zd4 fp h):p.1∈fp/\h.get? p.1=some p.2:=by
 obtain⟨b,hb,e⟩:=List.mem_filterMap.mp hp;cases q:h.get? b with
 |none=>rw[q] at e;cases e
 |some o=>
  rw[q] at e
  have e':(b,o)=p:=Option.some.inj e;subst e';exact⟨hb,q⟩
theorem Inv.pinned{pins:List (Addr×Obj)}{σ:St}{H:Hp}{s:Shared}{fp:List Addr}(I:Inv X pins σ H s)(hf:∀b∈fp,Zd3 X pins H b)(ho:∀b∈fp,∃o,s.heap.get? b=some o/\∀v,o.data≠.cell v):Inv X (pins++Zd4 fp s.heap) σ H s:=
 I.pins_of fun p hp=>(List.mem_append.mp hp).elim (fun z=>I.pin p (List.mem_append_right _ z)) fun z=>by
  obtain⟨hb,e⟩:=ZiA z;obtain⟨f0,f1,f2,_⟩:=hf p.1 hb;obtain⟨o,e',d⟩:=ho p.1 hb;rw[e] at e';cases e'
  exact⟨e,f0,f1,f2,d⟩
theorem Inv.unpinned{pins pl:List (Addr×Obj)}{σ:St}{H:Hp}{s:Shared}(I:Inv X (pins++pl) σ H s):Inv X pins σ H s:=I.pins_of fun p hp=>I.pin p (List.mem_append_right _ (List.mem_append_left _ hp))
theorem JX{iter:Expr}{body:List Stmt}{wi:TI}{g:TG}{tb:TS}{pos:Pos}(hp:PassesOwn (model X.prog X.w) X.A X.env X.xe)(hc:X.calm=true)(hi:PI X tg iter wi)(hg:PG X tg g)(hb:PSs X body tb)
  (hs:∀x,foldedSetIterable iter X.env x=pure x:=by intro _;rfl):PS X (.For tg iter body [] pos) (ZnN wi g tb):=by
 intro pins s σ H D I h;refine wpAny_For (thn (hi pins s σ H _ I h) fun v s1 h1=>thn h1 fun itv s2 h2=> ?_) hs;obtain⟨it,fp,tn,J,H2,e,I2,T,st2,f2,W,⟨m0,w0⟩,turn⟩:=h2;subst e;have stat:∀{H':Hp},(∀b∈fp,H' b=none)->∀b∈fp,Zd3 X pins H' b:=fun hn b hb=>⟨hn b hb,(f2 b hb).2⟩
 refine codeAny_forLoop_any (fun n s'=>∃i σ' H',Inv X pins σ' H' s'/\tn i s'.heap/\(∀b∈fp,H' b=none)/\W i n σ' H') ?_ m0 ⟨0,σ,H2,I2,st2,fun b hb=>(f2 b hb).1,w0⟩;rintro n s3 ⟨i,σ3,H3,I3,st3,fr3,w3⟩;rcases turn i n σ3 H3 w3 with ⟨stop,qn⟩|⟨go,N,hN,step⟩
 ·refine wpAny_passesOwn hp (thn (T.done X rfl rfl rfl hc i pins s3 σ3 H3 X.xe I3 (stat fr3) st3 stop) fun r s4 ⟨hr,I4⟩=> ?_);subst hr;exact wpAny_execs_nil ⟨σ3,H3,I4,qn⟩
 ·refine wpAny_passesOwn hp (thn (T.item X rfl rfl rfl hc i pins s3 σ3 H3 X.xe I3 (stat fr3) st3 go) fun r s4 ⟨u,hr,h4⟩=> ?_);subst hr;refine wpAny_passesOwn hp (thn h4 fun _ s5 ⟨x,H5,I5,r5,y5,st5,fr5⟩=> ?_);have I5':=I5.pinned (stat fr5) (T.obj _ _ st5);refine wpAny_passesOwn hp (thn (hg _ s5 σ3 H5 x u _ I5' r5 (step x H5 y5)) fun _ s6 ⟨σ6,H6,I6,q6⟩=> ?_);refine wpAny_passesOwn hp (thn (hb _ s6 σ6 H6 _ I6 q6) fun f s7 q7=> ?_)
  have again:∀{σ7:St} {H7:Hp},Inv X (pins++Zd4 fp s5.heap) σ7 H7 s7->N σ7 H7->∃m,m<n/\∃i σ' H',Inv X pins σ' H' s7/\tn i s7.heap/\(∀b∈fp,H' b=none)/\W i m σ' H':=fun{σ7 H7} I7 n7=>by
   obtain⟨m',hm,w7⟩:=hN σ7 H7 n7;refine⟨m',hm,i+1,σ7,H7,I7.unpinned,T.keep _ _ _ st5 fun b hb o e=>(I7.pin (b,o) (List.mem_append_right _ (List.mem_append_right _ (Jc hb e)))).1,fun b hb=> ?_,w7⟩;obtain⟨o,e,d⟩:=T.obj _ _ st5 b hb;exact(I7.pin (b,o) (List.mem_append_right _ (List.mem_append_right _ (Jc hb e)))).2.1
  cases f with
  |next=>obtain⟨σ7,H7,I7,n7⟩:=q7;exact again I7 n7
  |cont=>obtain⟨σ7,H7,I7,n7⟩:=q7;exact again I7 n7
  |brk=>obtain⟨σ7,H7,I7,q7⟩:=q7;exact⟨σ7,H7,I7.unpinned,q7⟩
  |ret v=>obtain⟨x7,σ7,H7,I7,r7,q7⟩:=q7;exact⟨x7,σ7,H7,I7.unpinned,r7,q7⟩
end
theorem Zay{K:PySem.W.Frag}{a:Addr}{xs:List V}{g:TG}{tb:TS}{D:ZcZ}{σ:St}{H:Hp}(Pv:Nat->St->Hp->Prop)(h0:Pv 0 σ H)(hl:∀i σ H,i<=xs.length->Pv i σ H->SqL K H a xs)
  (hs:∀i x σ H,xs[i]? =some x->Pv i σ H->g x σ H fun σ2 H2=>tb {D with nx:=Pv (i+1),ct:=Pv (i+1),bk:=D.nx} σ2 H2)(hd:∀σ H,Pv xs.length σ H->D.nx σ H):
  ∃W:Nat->Nat->St->Hp->Prop,(∃m,W 0 m σ H)/\∀i m σ H,W i m σ H->
   ((Itl K a).stop i H/\D.nx σ H)\/((Itl K a).go i H/\∃N:St->Hp->Prop,(∀σ' H',N σ' H'->∃m',m'<m/\W (i+1) m' σ' H')/\∀x H',(Itl K a).yld i H x H'->g x σ H' fun σ2 H2=>tb {D with nx:=N,ct:=N,bk:=D.nx} σ2 H2):=by
 refine⟨fun i m σ H=>m=xs.length-i/\i<=xs.length/\Pv i σ H,⟨xs.length,by simp,Nat.zero_le _,h0⟩, ?_⟩;rintro i m σ H ⟨rfl,hi,p⟩;have q:=hl i σ H hi p
 by_cases hlt:i<xs.length
 ·refine .inr ⟨⟨xs,xs[i],q,by simp[hlt]⟩,Pv (i+1),fun σ' H' p'=>⟨xs.length-(i+1),by omega,rfl,hlt,p'⟩,fun x H' y=> ?_⟩;obtain⟨e,y⟩:=y;subst e;exact hs i x σ _ (y xs q) p
 ·have e:i=xs.length:=by omega
  subst e;exact .inl ⟨⟨xs,q,Nat.le_refl _⟩,hd σ H p⟩
theorem ZeY{lo:Int}{n:Nat}{g:TG}{tb:TS}{D:ZcZ}{σ:St}{H:Hp}(Pv:Nat->St->Hp->Prop)(h0:Pv 0 σ H)
  (hs:∀i σ H,i<n->Pv i σ H->g (.int (lo+i)) σ H fun σ2 H2=>tb {D with nx:=Pv (i+1),ct:=Pv (i+1),bk:=D.nx} σ2 H2)(hd:∀σ H,Pv n σ H->D.nx σ H):
  ∃W:Nat->Nat->St->Hp->Prop,(∃m,W 0 m σ H)/\∀i m σ H,W i m σ H->
   ((Itr lo n).stop i H/\D.nx σ H)\/((Itr lo n).go i H/\∃N:St->Hp->Prop,(∀σ' H',N σ' H'->∃m',m'<m/\W (i+1) m' σ' H')/\∀x H',(Itr lo n).yld i H x H'->g x σ H' fun σ2 H2=>tb {D with nx:=N,ct:=N,bk:=D.nx} σ2 H2):=by
 refine⟨fun i m σ H=>m=n-i/\i<=n/\Pv i σ H,⟨n,by simp,Nat.zero_le _,h0⟩, ?_⟩;rintro i m σ H ⟨rfl,hi,p⟩
 by_cases hlt:i<n
 ·refine .inr ⟨hlt,Pv (i+1),fun σ' H' p'=>⟨n-(i+1),by omega,rfl,hlt,p'⟩,fun x H' y=> ?_⟩;obtain⟨e,y⟩:=y;subst e y;exact hs i σ _ hlt p
 ·have e:i=n:=by omega
  subst e;exact .inl ⟨Nat.le_refl _,hd σ H p⟩
end L2
namespace L2
open PySem PySem.Spec PyProof.Rows
abbrev R2:=V->V->Hp->VK->Prop
def OpR(X:Cx)(f:Value->Value->Sem Value)(r:R2):Prop:=
 ∀(pins:List (Addr×Obj)) (s:Shared) (σ:St) (H:Hp) (x y:V) (v u:Value) (Q:VK),Inv X pins σ H s->ZR x v->ZR y u->r x y H Q->
  wpAny (model X.prog X.w) X.A (f v u) (EP X pins σ Q) X.xe s
def JK(X:Cx)(f:Value)(r:List V->Hp->VK->Prop):Prop:=
 ∀(pins:List (Addr×Obj)) (s:Shared) (σ:St) (H:Hp) (xs:List V) (us:List Value) (Q:VK),Inv X pins σ H s->ZW xs us->r xs H Q->
  wpAny (model X.prog X.w) X.A (call f us) (EP X pins σ Q) X.xe s
def tOp(r:R2)(ta tb:TE):TE:=fun σ H Q=>ta σ H fun x H1=>tb σ H1 fun y H2=>r x y H2 Q
def rI(C:Int->Int->Prop)(g:Int->Int->V):R2:=fun x y H Q=>∃i j,x=.int i/\y=.int j/\C i j/\Q (g i j) H
def rI0(g:Int->Int->V):R2:=fun x y H Q=>∃i j,x=.int i/\y=.int j/\Q (g i j) H
section
variable {X:Cx} {a b c:Expr} {ta tb tc:TE} {pos:Pos}
theorem Zm6(ha:PE X a ta)(hb:PE X b tb){pins:List (Addr×Obj)}{s:Shared}{σ:St}{H:Hp}{R:V->V->Hp->Prop}(I:Inv X pins σ H s)
  (h:ta σ H fun x H1=>tb σ H1 fun y H2=>R x y H2){Q:Value->Shared->Prop}{f:Value->Value->Sem Value}
  (hf:∀v u s2 x y H2,Inv X pins σ H2 s2->ZR x v->ZR y u->R x y H2->wpAny (model X.prog X.w) X.A (f v u) Q X.xe s2):
  wpAny (model X.prog X.w) X.A (eval a X.env) (fun v s₁=>wpAny (model X.prog X.w) X.A (eval b X.env) (fun u s₂=>wpAny (model X.prog X.w) X.A (f v u) Q X.xe s₂) X.xe s₁) X.xe s:=by
 refine thn (ha pins s σ H _ I h) fun v s1 ⟨x,H1,I1,r1,q1⟩=> ?_;refine thn (hb pins s1 σ H1 _ I1 q1) fun u s2 ⟨y,H2,I2,r2,q2⟩=> ?_;exact hf v u s2 x y H2 I2 r1 r2 q2
theorem ZJ{op:Operator}{r:R2}(ho:OpR X (binaryOp op) r)(ha:PE X a ta)(hb:PE X b tb):PE X (.BinOp a op b pos) (tOp r ta tb):=by
 intro pins s σ H Q I h;exact wpAny_BinOp (Zm6 ha hb I h fun v u s2 x y H2 I2 rx ry q=>ho pins s2 σ H2 x y v u Q I2 rx ry q)
theorem opI{f:Value->Value->Sem Value}{C:Int->Int->Prop}{g:Int->Int->Int}
  (rule:∀(i j:Int) (t u:Tok) (s:Shared) (Q:Value->Shared->Prop) (E:Value->Shared->Prop),C i j->Q (.int (g i j) s.toks) {s with toks:=s.toks+1}->wpAny (model X.prog X.w) X.A (f (.int i t) (.int j u)) Q E s):
  OpR X f (rI C fun i j=> .int (g i j)):=by
 intro pins s σ H x y v u Q I rx ry h;obtain⟨i,j,rfl,rfl,hc,q⟩:=h;obtain⟨t,rfl⟩:=rx;obtain⟨t',rfl⟩:=ry;exact rule i j t t' s _ _ hc ⟨.int (g i j),H,I.tok _,⟨_,rfl⟩,q⟩
theorem Zn3{f:Value->Value->Sem Value}{g:Int->Int->Int}
  (rule:∀(i j:Int) (t u:Tok) (s:Shared) (Q:Value->Shared->Prop) (E:Value->Shared->Prop),Q (.int (g i j) s.toks) {s with toks:=s.toks+1}->wpAny (model X.prog X.w) X.A (f (.int i t) (.int j u)) Q E s):
  OpR X f (rI0 fun i j=> .int (g i j)):=by
 intro pins s σ H x y v u Q I rx ry h;obtain⟨i,j,rfl,rfl,q⟩:=h;obtain⟨t,rfl⟩:=rx;obtain⟨t',rfl⟩:=ry;exact rule i j t t' s _ _ ⟨.int (g i j),H,I.tok _,⟨_,rfl⟩,q⟩
theorem Zm7{f:Value->Value->Sem Value}{g:Int->Int->Bool}
  (rule:∀(i j:Int) (t u:Tok) (s:Shared) (Q:Value->Shared->Prop) (E:Value->Shared->Prop),Q (.bool (g i j)) s->wpAny (model X.prog X.w) X.A (f (.int i t) (.int j u)) Q E s):
  OpR X f (rI0 fun i j=> .bl (g i j)):=by
 intro pins s σ H x y v u Q I rx ry h;obtain⟨i,j,rfl,rfl,q⟩:=h;obtain⟨t,rfl⟩:=rx;obtain⟨t',rfl⟩:=ry;exact rule i j t t' s _ _ ⟨.bl (g i j),H,I,rfl,q⟩
def ZnO(i j:Int):Prop:=0<j/\j<1073741824
def Zn4(i j:Int):Prop:=0<=j/\j<=1000000/\i.natAbs<2^64
theorem Jz:OpR X (binaryOp .Add) (rI0 fun i j=> .int (i+j)):=Zn3 fun _ _ _ _ _ _ _ q=>add_int q
theorem Zm8:OpR X (binaryOp .Sub) (rI0 fun i j=> .int (i-j)):=Zn3 fun _ _ _ _ _ _ _ q=>sub_int q
theorem Xe:OpR X (binaryOp .FloorDiv) (rI ZnO fun i j=> .int (i/j)):=opI fun i j _ _ _ _ _ hc q=>by
 have h1:(0:Int)<j:=hc.1;have h2:j<1073741824:=hc.2;exact floordiv_int (by omega) (by rw[Int.fdiv_eq_ediv_of_nonneg i (by omega)];exact q) (.inl (PyProof.noPylong_small (by omega)))
theorem YC:OpR X (binaryOp .Mod) (rI (fun _ j=>0<j) fun i j=> .int (i%j)):=opI fun i j _ _ _ _ _ hc q=>by
 have h1:(0:Int)<j:=hc;exact mod_int' (by omega) (by rw[Int.fmod_eq_emod_of_nonneg i (by omega)];exact q)
theorem Zm9:OpR X (binaryOp .Pow) (rI Zn4 fun i j=> .int (i^j.toNat)):=opI fun _ _ _ _ _ _ _ hc q=>pow_int_small hc.1 hc.2.1 hc.2.2 q
end
def Zn5:V->V->Bool
 | .non,.non=>true| .non,.int _=>true| .int _,.non=>true| .non,.bl _=>true| .bl _,.non=>true| .non,.str _=>true| .str _,.non=>true
 | .int _,.int _=>true| .bl _,.bl _=>true| .str _,.str _=>true| .byt _,.byt _=>true
 | .int _,.str _=>true| .str _,.int _=>true| .bl _,.str _=>true| .str _,.bl _=>true
 |_,_=>false
def rEq:R2:=fun x y H Q=>Zn5 x y=true/\Q (.bl (decide (x=y))) H
theorem ZkQ{i j:Int}:decide (V.int i=V.int j)=(i==j):=by
 rw[Bool.eq_iff_iff];simp
theorem Zma{i j:Bool}:decide (V.bl i=V.bl j)=(i==j):=by
 rw[Bool.eq_iff_iff];simp
theorem ZkR{i j:Str}:decide (V.str i=V.str j)=(i==j):=by
 rw[Bool.eq_iff_iff];simp
theorem ZkS{i j:Array UInt8}:decide (V.byt i=V.byt j)=(i.toList==j.toList):=by
 rw[Bool.eq_iff_iff];cases i;cases j;simp
section
variable {X:Cx} {a b c:Expr} {ta tb tc:TE} {pos:Pos}
theorem Xl{pins:List (Addr×Obj)}{σ:St}{H:Hp}{s:Shared}{Q:VK}{k k':Bool}(I:Inv X pins σ H s)(q:Q (.bl k) H)(e:k=k'):EP X pins σ Q (.bool k') s:=by
 subst e;exact⟨.bl k,H,I,rfl,q⟩
theorem XJ:OpR X (compareOp .Eq) rEq:=by
 intro pins s σ H x y v u Q I rx ry h;obtain⟨hs,q⟩:=h;cases x with
 |non=>
  cases rx;cases y with
  |non=>cases ry;exact PySem.EqNone.eq_none_none (Xl I q (by simp))
  |bl j=>cases ry;exact PySem.EqNone.eq_none_bool (Xl I q (by simp))
  |int j=>obtain⟨t',rfl⟩:=ry;exact PySem.EqNone.eq_none_int (Xl I q (by simp))
  |str j=>obtain⟨t',rfl⟩:=ry;exact PySem.EqNone.eq_none_str (Xl I q (by simp))
  |_=>exact absurd (show false=true from hs) Bool.false_ne_true
 |bl i=>
  cases rx;cases y with
  |non=>cases ry;exact PySem.EqNone.eq_bool_none (Xl I q (by simp))
  |bl j=>cases ry;exact eq_bool (Xl I q Zma)
  |str j=>obtain⟨t',rfl⟩:=ry;exact PySem.EqMixed.eq_bool_str (Xl I q (by simp))
  |_=>exact absurd (show false=true from hs) Bool.false_ne_true
 |int i=>
  obtain⟨t,rfl⟩:=rx;cases y with
  |non=>cases ry;exact PySem.EqNone.eq_int_none (Xl I q (by simp))
  |int j=>obtain⟨t',rfl⟩:=ry;exact eq_int (Xl I q ZkQ)
  |str j=>obtain⟨t',rfl⟩:=ry;exact PySem.EqMixed.eq_int_str (Xl I q (by simp))
  |_=>exact absurd (show false=true from hs) Bool.false_ne_true
 |str i=>
  obtain⟨t,rfl⟩:=rx;cases y with
  |non=>cases ry;exact PySem.EqNone.eq_str_none (Xl I q (by simp))
  |bl j=>cases ry;exact PySem.EqMixed.eq_str_bool (Xl I q (by simp))
  |int j=>obtain⟨t',rfl⟩:=ry;exact PySem.EqMixed.eq_str_int (Xl I q (by simp))
  |str j=>obtain⟨t',rfl⟩:=ry;exact eq_str (Xl I q ZkR)
  |_=>exact absurd (show false=true from hs) Bool.false_ne_true
 |byt i=>
  obtain⟨t,rfl⟩:=rx;cases y with
  |byt j=>obtain⟨t',rfl⟩:=ry;exact PySem.W.eq_bytes (Xl I q ZkS)
  |_=>exact absurd (show false=true from hs) Bool.false_ne_true
 |_=>cases y<;>exact absurd (show false=true from hs) Bool.false_ne_true
theorem Zjp:OpR X (compareOp .Lt) (rI0 fun i j=> .bl (decide (i<j))):=Zm7 fun _ _ _ _ _ _ _ q=>lt_int q
theorem ZlJ:OpR X (compareOp .LtE) (rI0 fun i j=> .bl (decide (i<=j))):=Zm7 fun _ _ _ _ _ _ _ q=>le_int q
theorem ZeZ:OpR X (compareOp .Gt) (rI0 fun i j=> .bl (decide (j<i))):=Zm7 fun _ _ _ _ _ _ _ q=>gt_int q
theorem Zmb:OpR X (compareOp .Is) (fun x y H Q=>y=.non/\Q (.bl (decide (x=.non))) H):=by
 intro pins s σ H x y v u Q I rx ry h;obtain⟨rfl,q⟩:=h;cases ry;refine is_none_gen (Xl I q ?_);cases x<;>first
  |(cases rx;rfl)
  |(obtain⟨t,rfl⟩:=rx;rfl)
theorem ZkT:OpR X (compareOp .IsNot) (fun x y H Q=>y=.non/\Q (.bl (!decide (x=.non))) H):=by
 intro pins s σ H x y v u Q I rx ry h;obtain⟨rfl,q⟩:=h;cases ry;refine isnot_none_gen (Xl I q ?_);cases x<;>first
  |(cases rx;rfl)
  |(obtain⟨t,rfl⟩:=rx;rfl)
theorem Yj(b:Expr){op:CmpOp}(h:op≠.In:=by decide)(h2:op≠.NotIn:=by decide):behindInMarks op b=false:=by
 have e1:(op==CmpOp.In)=false:=by cases op<;>first|rfl|exact absurd rfl h
 have e2:(op==CmpOp.NotIn)=false:=by cases op<;>first|rfl|exact absurd rfl h2
 cases b<;>simp[behindInMarks,e1,e2]
theorem Xz{op:CmpOp}{r:R2}(ho:OpR X (compareOp op) r)(ha:PE X a ta)(hb:PE X b tb)(hm:behindInMarks op b=false):PE X (.Compare a [op] [b] pos) (tOp r ta tb):=by
 intro pins s σ H Q I h;exact wpAny_Compare1 (Zm6 ha hb I h fun v u s2 x y H2 I2 rx ry q=>ho pins s2 σ H2 x y v u Q I2 rx ry q) hm
def ZlK(t:TE):TT:=fun σ H Q=>t σ H fun x H'=>∃k,x=.bl k/\Q k H'
theorem Ym{op:CmpOp}{r:R2}(ho:OpR X (compareOp op) r)(ha:PE X a ta)(hb:PE X b tb)(hm:behindInMarks op b=false):PT X (.Compare a [op] [b] pos) (ZlK (tOp r ta tb)):=by
 intro pins s σ H Q I h;refine wpAny_isTrue_Compare1 (thn (ha pins s σ H _ I h) fun v s1 ⟨x,H1,I1,r1,q1⟩=>thn (hb pins s1 σ H1 _ I1 q1) fun u s2 ⟨y,H2,I2,r2,q2⟩=>
  thn (ho pins s2 σ H2 x y v u _ I2 r1 r2 q2) fun c s3 ⟨z,H3,I3,r3,k,e,q3⟩=> ?_) hm
 subst e;cases r3;exact wpAny_truthy_bool ⟨H3,I3,q3⟩
theorem Zfu:(sizeLine:Nat)<2^63:=by rw[sizeLine_eq];decide
theorem Zh8:OpR X (binaryOp .Add) (fun x y H Q=>∃i j,x=.str i/\y=.str j/\i.length+j.length<=sizeLine/\Q (.str (i++j)) H):=by
 intro pins s σ H x y v u Q I rx ry h;obtain⟨i,j,rfl,rfl,hz,q⟩:=h;obtain⟨t,rfl⟩:=rx;obtain⟨t',rfl⟩:=ry;exact add_str (fun t' tk=>⟨.str (i++j),H,I.tok _,⟨_,rfl⟩,q⟩) hz
theorem Zb2{x:V}{us:List Value}(r:ZW [x] us):∃u,us=[u]/\ZR x u:=by
 cases r with
 |cons r1 r2=>cases r2;exact⟨_,rfl,r1⟩
theorem Zi1{x y:V}{us:List Value}(r:ZW [x,y] us):∃u w',us=[u,w']/\ZR x u/\ZR y w':=by
 cases r with
 |cons r1 r2=>
  cases r2 with
  |cons r3 r4=>cases r4;exact⟨_,_,rfl,r1,r3⟩
theorem Zjq:JK X (.builtin "abs") (fun xs H Q=>∃i,xs=[.int i]/\Q (.int (if i<0 then-i else i)) H):=by
 intro pins s σ H xs us Q I r h;obtain⟨i,rfl,q⟩:=h;obtain⟨u,rfl,t,rfl⟩:=Zb2 r;exact call_abs_int fun u tk=>⟨.int (if i<0 then-i else i),H,I.tok _,⟨_,rfl⟩,q⟩
theorem ZbA(hc:X.calm=true):JK X (.builtin "max") (fun xs H Q=>∃i j,xs=[.int i,.int j]/\Q (.int (if j>i then j else i)) H):=by
 intro pins s σ H xs us Q I r h;obtain⟨i,j,rfl,q⟩:=h;obtain⟨u,w',rfl,⟨t,rfl⟩,⟨t',rfl⟩⟩:=Zi1 r;refine max_two_ints (I.ok.hd hc) fun h' tk k=>⟨_,H,I.kept k, ?_,q⟩
 by_cases hj:j>i
 ·rw[if_pos hj,if_pos hj];exact⟨_,rfl⟩
 ·rw[if_neg hj,if_neg hj];exact⟨_,rfl⟩
theorem ZiB(hc:X.calm=true):JK X (.builtin "min") (fun xs H Q=>∃i j,xs=[.int i,.int j]/\Q (.int (if j<i then j else i)) H):=by
 intro pins s σ H xs us Q I r h;obtain⟨i,j,rfl,q⟩:=h;obtain⟨u,w',rfl,⟨t,rfl⟩,⟨t',rfl⟩⟩:=Zi1 r;refine min_two_ints (I.ok.hd hc) fun h' tk k=>⟨_,H,I.kept k, ?_,q⟩
 by_cases hj:j<i
 ·rw[if_pos hj,if_pos hj];exact⟨_,rfl⟩
 ·rw[if_neg hj,if_neg hj];exact⟨_,rfl⟩
theorem Zaz:JK X (.type "int") (fun xs H Q=>(∃i,xs=[.int i]/\Q (.int i) H)\/∃k,xs=[.bl k]/\Q (.int (if k then 1 else 0)) H):=by
 intro pins s σ H xs us Q I r h;rcases h with ⟨i,rfl,q⟩|⟨k,rfl,q⟩
 ·obtain⟨u,rfl,t,rfl⟩:=Zb2 r;exact call_int_int ⟨.int i,H,I,⟨_,rfl⟩,q⟩
 ·obtain⟨u,rfl,r1⟩:=Zb2 r;cases r1;exact call_int_bool ⟨.int (if k then 1 else 0),H,I.tok _,⟨_,rfl⟩,q⟩
def ZnP(K:PySem.W.Frag)(x:V)(H:Hp)(n:Nat):Prop:=
 match x with
 | .str y=>y.length<=sizeLine/\n=y.length
 | .byt y=>y.size<=sizeLine/\n=y.size
 | .ref p=>(∃xs,SqL K H p xs/\n=xs.length)\/∃xs,SqT K H p xs/\n=xs.length
 |_=>False
theorem XM:JK X (.builtin "len") (fun xs H Q=>∃x n,xs=[x]/\ZnP X.K x H n/\Q (.int n) H):=by
 intro pins s σ H xs us Q I r h;obtain⟨x,n,rfl,e,q⟩:=h;obtain⟨u,rfl,rx⟩:=Zb2 r;have hl:=Zfu;have hs:sizeLine=16777216:=sizeLine_eq;cases x with
 |str y=>
  obtain⟨t,rfl⟩:=rx;obtain⟨hy,e'⟩:y.length<=sizeLine/\n=y.length:=e;subst e';exact len_str (by omega) ⟨.int _,H,I.tok _,⟨_,rfl⟩,q⟩
 |byt y=>
  obtain⟨t,rfl⟩:=rx;obtain⟨hy,e'⟩:y.size<=sizeLine/\n=y.size:=e;subst e';exact PySem.W.len_bytes (by omega) ⟨.int _,H,I.tok _,⟨_,rfl⟩,q⟩
 |ref p=>
  cases rx;have e':(∃xs,SqL X.K H p xs/\n=xs.length)\/∃xs,SqT X.K H p xs/\n=xs.length:=e;rcases e' with ⟨xs,hx,e'⟩|⟨xs,hx,e'⟩
  ·subst e';obtain⟨its,r',pl,hz⟩:=I.list hx;have hlen:=r'.length;exact Calls.call_len_list pl.isList (by simp only [List.size_toArray];omega) ⟨.int xs.length,H,I.tok _,⟨_,by simp only [List.size_toArray];rw[hlen]⟩,q⟩
  ·subst e';obtain⟨its,r',pl,hz⟩:=I.tuple hx;have hlen:=r'.length;exact len_tuple pl (by simp only [List.size_toArray];omega) ⟨.int xs.length,H,I.tok _,⟨_,by simp only [List.size_toArray];rw[hlen]⟩,q⟩
 |_=>exact(show False from e).elim
end
end L2
namespace L2
open PySem PySem.Spec PyProof.Rows
structure ZiC (h:Heap) (x dx C:Addr) (mA:Str->Option Value):Prop where
 obj:h.get? x=some (PySem.W.instObj C dx)
 ns:h.Ns1 dx mA
 ne:dx≠x
theorem ZiD{h:Heap}{dx:Addr}{mA:Str->Option Value}(n:h.Ns1 dx mA):∃od,h.get? dx=some od/\∀name,PySem.W.lookIn name od=some (mA name):=by
 obtain⟨o,es,ep,ho,hd,hk,_,hm⟩:=n;refine⟨o,ho,fun name=> ?_⟩;have e:=hm name;unfold nsFind findBy at e
 rw[<-Array.find?_toList] at e
 unfold PySem.W.lookIn;rw[hd]
 dsimp only
 split
 ·rename_i y q
  rw[q] at e
  exact congrArg some e
 ·rename_i q
  rw[q] at e
  have a:es.toList.any (·.refKey)=false:=by
   rw[List.any_eq_false];intro y hy;obtain⟨z,t,hkey⟩:=hk y (Array.mem_toList_iff.mp hy);simp[DictEntry.refKey,hkey]
  have a':¬es.toList.any (·.refKey)=true:=by rw[a];exact Bool.false_ne_true
  rw[if_neg a'];exact congrArg some e
theorem ZiC.look{h:Heap}{x dx C:Addr}{mA:Str->Option Value}(I:ZiC h x dx C mA):∃od,PySem.W.InstAt h x (PySem.W.instObj C dx) C (some od)/\∀name,PySem.W.lookIn name od=some (mA name):=
 let ⟨od,ho,hl⟩:=ZiD I.ns
 ⟨od,⟨I.obj,rfl,rfl,ho⟩,hl⟩
section
variable {prog:Program} {w:World} {A:Around} {E:Value->Shared->Prop} {s:Shared} {K:PySem.W.Frag} {x dx C f:Addr} {mA:Str->Option Value} {name:Str} {v:Value}
theorem ZkU{expr:Bool}{Q:Value->Shared->Prop}(X:K.In s.heap)(I:ZiC s.heap x dx C mA)(hg:PySem.W.plainGet K C name=true)(hh:PySem.W.hasDictIn K C=true)
  (ha:PySem.W.findIn K (.ref C) name=some none)(hv:mA name=some v)(hv':PySem.W.handedIn v=true)(h:Q v {s with toks:=s.toks+1}):
  wpAny (model prog w) A (getAttr (.ref x) name expr) Q E s:=by
 obtain⟨od,J,hl⟩:=I.look;exact PySem.W.get_value X J (PySem.W.plainGet_of hg).1 (PySem.W.findObj_own hh ha rfl (by rw[hl,hv])) hv' h
theorem ZkV{ns:List Str}{Q:Unit->Shared->Prop}(X:K.In s.heap)(I:ZiC s.heap x dx C mA)
  (hs:PySem.W.findIn K (.ref C) "__setattr__"=some (some (.builtin "object.__setattr__")))(hp:PySem.W.plainOver K C=true)(ht:PySem.W.takerIn K C name=some none)(hh:PySem.W.hasDictIn K C=true)
  (hw:PySem.Within mA ns)(hsz:ns.length<=sizeLine)
  (h:∀h',ZiC h' x dx C (fun y=>if y=name then some v else mA y)->Heap.SameBut dx s.heap h'->Q () {s with heap:=h',toks:=s.toks+2}):
  wpAny (model prog w) A (setAttr (.ref x) name v) Q E s:=by
 obtain⟨od,J,hl⟩:=I.look;refine PySem.W.set_plain X J hs (PySem.W.osa_open (s:={s with toks:=s.toks+1}) (r:=none) X J hp ht fun b=> ?_);obtain⟨cd,hc,hd'⟩:=PySem.W.any_some hh;have hx:s.heap.get? x=some ⟨.ref C,some dx,.plain, #[]⟩:=I.obj;refine wpAny_bind (wpAny_pure (wpAny_bind (wpAny_bind (wpAny_loadPart hx (wpAny_bind (PySem.W.Looks.here (s:={s with toks:=s.toks+1}) (PySem.W.looks_clsIn X hc) ?_))))))
 rw[hd'];refine wpAny_pure (a:=some dx) (wpAny_bind (wpAny_pure (wpAny_bind ?_)));refine wpAny_nsSet1 (s:={s with toks:=s.toks+1}) I.ns fun h' hn2 hs2=> ?_;obtain⟨oD,esD,epD,hoD,hdD,hcD⟩:=hn2.count (PySem.Within.cons name v hw);refine wpAny_bind (wpAny_lookBehind hoD (by rw[hdD];exact pastItsLine_dict (Nat.le_trans hcD (by rw[List.length_cons];omega))) ?_)
 exact wpAny_pure (h _ ⟨(hs2.2 _ (Ne.symm I.ne)).trans I.obj,hn2,I.ne⟩ hs2)
theorem Zjr{R:Result->Shared->Prop}{vs:List Value}{kw:List (Str×Value)}(X:K.In s.heap)(hm:PySem.W.makesIn K C=true)
  (hi:PySem.W.findIn K (.ref C) "__init__"=some (some (.ref f)))(hf:PySem.W.typeIn K (.ref f)=some (.type "function"))
  (h:codeAny (model prog w) (A.under (.builtin "type.__call__" ⟨.ref C::vs,kw⟩)) (.call (.ref f) ⟨.ref (s.heap.objs.size+1)::vs,kw⟩) (PySem.W.InitBack (s.heap.objs.size+1) R)
   {s with heap:=(s.heap.push PySem.W.emptyDict).push (PySem.W.instObj C s.heap.objs.size)}):
  codeAny (model prog w) A (.call (.ref C) ⟨vs,kw⟩) R s:=by
 obtain⟨hh,g,d,t,os⟩:=s;exact PySem.W.make_core (PySem.W.makes_of X hm) (PySem.W.looks_findIn X hi) (fun self=>PySem.W.bind_fn X self hf) (.inl rfl) h
end
def ZaA(f:Str)(v:V):List (Str×V)->List (Str×V)
 |[]=>[(f,v)]
 |(g,x)::r=>if g=f then(g,v)::r else(g,x)::ZaA f v r
theorem Xh(f g:Str)(v:V):∀fs:List (Str×V),(ZaA f v fs).lookup g=if g=f then some v else fs.lookup g
 |[]=>by
  show List.lookup g [(f,v)]=_
  by_cases h:g=f
  ·have hb:(g==f)=true:=beq_iff_eq.mpr h;simp only [List.lookup,hb,if_pos h]
  ·have hb:(g==f)=false:=beq_eq_false_iff_ne.mpr h;simp only [List.lookup,hb,if_neg h]
 |(k,x)::r=>by
  have ih:=Xh f g v r;rw[show ZaA f v ((k,x)::r)=(if k=f then(k,v)::r else(k,x)::ZaA f v r) from rfl]
  by_cases hk:k=f
  ·rw[if_pos hk]
   by_cases h:g=k
   ·have hb:(g==k)=true:=beq_iff_eq.mpr h;simp only [List.lookup,hb,if_pos (h.trans hk)]
   ·have hb:(g==k)=false:=beq_eq_false_iff_ne.mpr h;simp only [List.lookup,hb,if_neg (fun e:g=f=>h (e.trans hk.symm))]
  ·rw[if_neg hk]
   by_cases h:g=k
   ·have hb:(g==k)=true:=beq_iff_eq.mpr h;simp only [List.lookup,hb,if_neg (fun e:g=f=>hk (h.symm.trans e))]
   ·have hb:(g==k)=false:=beq_eq_false_iff_ne.mpr h;simp only [List.lookup,hb];exact ih
theorem Zd5(f:Str)(v:V):∀fs:List (Str×V),f∈(ZaA f v fs).map (·.1)/\∀g,g∈fs.map (·.1)->g∈(ZaA f v fs).map (·.1)
 |[]=>⟨by simp[ZaA],fun g h=>by simp at h⟩
 |(k,x)::r=>by
  obtain⟨i1,i2⟩:=Zd5 f v r;rw[show ZaA f v ((k,x)::r)=(if k=f then(k,v)::r else(k,x)::ZaA f v r) from rfl]
  by_cases hk:k=f
  ·rw[if_pos hk];subst hk;exact⟨by simp,fun g h=>by simpa using h⟩
  ·rw[if_neg hk];refine⟨?_,fun g h=> ?_⟩
   ·rw[List.map_cons];exact List.mem_cons_of_mem _ i1
   ·rw[List.map_cons] at h⊢
    rcases List.mem_cons.mp h with e|e
    ·exact List.mem_cons.mpr (.inl e)
    ·exact List.mem_cons_of_mem _ (i2 g e)
theorem ZdD(f:Str)(v:V):∀fs:List (Str×V),(ZaA f v fs).length<=fs.length+1
 |[]=>by simp[ZaA]
 |(k,x)::r=>by
  have ih:=ZdD f v r;rw[show ZaA f v ((k,x)::r)=(if k=f then(k,v)::r else(k,x)::ZaA f v r) from rfl]
  by_cases hk:k=f
  ·rw[if_pos hk,List.length_cons,List.length_cons];omega
  ·rw[if_neg hk,List.length_cons,List.length_cons];omega
theorem Zb5.some_of{v:V}{o:Option Value}(r:Zb5 (some v) o):∃u,o=some u/\ZR v u:=by
 cases o with
 |none=>exact(show False from r).elim
 |some u=>exact⟨u,rfl,r⟩
theorem Zb5.none_of{o:Option Value}(r:Zb5 none o):o=none:=by
 cases o with
 |none=>rfl
 |some u=>exact(show False from r).elim
theorem ZiE{v:V}{u:Value}(r:ZR v u):PySem.W.handedIn u=true:=by
 cases v with
 |non=>cases(show u=Value.none from r);rfl
 |bl b=>cases(show u=Value.bool b from r);rfl
 |int i=>obtain⟨t,e⟩:=(show∃t,u=Value.int i t from r);cases e;rfl
 |str x=>obtain⟨t,e⟩:=(show∃t,u=Value.str x t from r);cases e;rfl
 |byt b=>obtain⟨t,e⟩:=(show∃t,u=Value.bytes b t from r);cases e;rfl
 |flt b=>obtain⟨t,e⟩:=(show∃t,u=Value.float b t from r);cases e;rfl
 |ref a=>cases(show u=Value.ref a from r);rfl
 |ty n=>cases(show u=Value.type n from r);rfl
section
variable {P:Program} {w:World} {H H':Hp} {h h':Heap} {a C dx:Addr} {fs fs':List (Str×V)}
theorem Zfv(hok:HOk P w H h)(e:H a=some (.ins C dx fs)):∃mA,ZiC h a dx C mA/\(∀f,Zb5 (fs.lookup f) (mA f))/\PySem.Within mA (fs.map (·.1))/\fs.length<=1000/\H dx=some (.own a):=by
 obtain⟨d,z,ne,ob,mA,n,r,q⟩:=(show Yz P w H h a (.ins C dx fs) from hok a _ e)
 exact⟨mA,⟨ob,n,ne⟩,r,q,z,d⟩
end
structure Cls (K:PySem.W.Frag) (C:Addr):Prop where
 pg:PySem.W.plainGet K C Str.empty=true
 hd:PySem.W.hasDictIn K C=true
 po:PySem.W.plainOver K C=true
 sa:PySem.W.findIn K (.ref C) "__setattr__"=some (some (.builtin "object.__setattr__"))
theorem Cls.get{K:PySem.W.Frag}{C:Addr}(c:Cls K C)(f:Str):PySem.W.plainGet K C f=true:=c.pg
def Xv(K:PySem.W.Frag)(C:Addr)(f:Str):Prop:=PySem.W.findIn K (.ref C) f=some none
theorem Xv.taker{K:PySem.W.Frag}{C:Addr}{f:Str}(n:Xv K C f):PySem.W.takerIn K C f=some none:=by
 unfold PySem.W.takerIn;rw[show PySem.W.findIn K (.ref C) f=some none from n]
 rfl
section
variable {X:Cx} {pins:List (Addr×Obj)} {σ:St} {H:Hp} {s:Shared} {a C dx:Addr} {fs:List (Str×V)} {f:Str} {v:V} {A:Around} {E:Value->Shared->Prop}
theorem Zh9{b:Bool}{Q:Value->Shared->Prop}(I:Inv X pins σ H s)(e:H a=some (.ins C dx fs))(c:Cls X.K C)(n:Xv X.K C f)(l:fs.lookup f=some v)
  (h:∀u s',Inv X pins σ H s'->ZR v u->Q u s'):wpAny (model X.prog X.w) A (getAttr (.ref a) f b) Q E s:=by
 obtain⟨mA,O,r,_,_,_⟩:=Zfv I.hok e;obtain⟨u,hu,ru⟩:=Zb5.some_of (v:=v) (o:=mA f) (by rw[<-l];exact r f)
 exact ZkU I.kIn O (c.get f) c.hd n hu (ZiE ru) (h u _ (I.tok _) ru)
theorem Zha{y:V}{u:Value}{Q:Unit->Shared->Prop}(I:Inv X pins σ H s)(e:H a=some (.ins C dx fs))(c:Cls X.K C)(n:Xv X.K C f)(hl:fs.length<1000)(ry:ZR y u)
  (h:∀s',Inv X pins σ (upd H a (.ins C dx (ZaA f y fs))) s'->Q () s'):wpAny (model X.prog X.w) A (setAttr (.ref a) f u) Q E s:=by
 obtain⟨mA,O,r,wi,_,ho⟩:=Zfv I.hok e;have hz:(fs.map (·.1)).length<=sizeLine:=by rw[List.length_map,sizeLine_eq];omega
 refine ZkV I.kIn O c.sa c.po n.taker c.hd wi hz fun h' O' sb=>h _ ?_;have hd:∃o,h'.get? dx=some o:=let ⟨o,_,_,e',_⟩:=O'.ns;⟨o,e'⟩;refine I.write (x:=a) (e:=dx) (by rw[e];exact True.intro) (.inr ho) (fun b q hb z=>(sb.2 b hb).trans z) hd ?_
 refine⟨by rw[Zf O.ne];exact ho, ?_,O.ne,O'.obj,_,O'.ns,fun g=> ?_,fun g hg=> ?_⟩
 ·have:=ZdD f y fs;omega
 ·show Zb5 ((ZaA f y fs).lookup g) (if g=f then some u else mA g);rw[Xh]
  by_cases q:g=f
  ·rw[if_pos q,if_pos q];exact ry
  ·rw[if_neg q,if_neg q];exact r g
 ·by_cases q:g=f
  ·rw[q];exact(Zd5 f y fs).1
  ·refine(Zd5 f y fs).2 g (wi g fun z=>hg ?_);show(if g=f then some u else mA g)=none;rw[if_neg q];exact z
theorem Inv.made(I:Inv X pins σ H s):Inv X pins σ (upd (upd H s.heap.objs.size (.own (s.heap.objs.size+1))) (s.heap.objs.size+1) (.ins C s.heap.objs.size []))
  {s with heap:=(s.heap.push PySem.W.emptyDict).push (PySem.W.instObj C s.heap.objs.size)}:=by
 have e1:(s.heap.push PySem.W.emptyDict).get? s.heap.objs.size=some PySem.W.emptyDict:=Heap.get?_push_size s.heap rfl;have e2:((s.heap.push PySem.W.emptyDict).push (PySem.W.instObj C s.heap.objs.size)).get? (s.heap.objs.size+1)=some (PySem.W.instObj C s.heap.objs.size):=by
  have:=Heap.get?_push_size (s.heap.push PySem.W.emptyDict) (o:=PySem.W.instObj C s.heap.objs.size) rfl
  rwa [Heap.size_push] at this
 have e3:(s.heap.push PySem.W.emptyDict).Ns s.heap.objs.size (fun _=>none):=⟨PySem.W.emptyDict, #[],_,e1,rfl,(fun e he=>absurd he (by simp)),fun _=>rfl⟩
 have I1:=I.laid (a:=s.heap.objs.size) (o:=.own (s.heap.objs.size+1)) (h':=s.heap.push PySem.W.emptyDict) (t':=s.toks) (fun b u q=>Heap.get?_push_of_some _ q) (Nat.le_refl _) ⟨_,e1⟩;refine I1.laid (a:=s.heap.objs.size+1) (o:=.ins C s.heap.objs.size []) (t':=s.toks) (fun b u q=>Heap.get?_push_of_some _ q) (Nat.le_of_eq (Heap.size_push _ _)) ?_;have ne:s.heap.objs.size≠s.heap.objs.size+1:=Nat.ne_of_lt (Nat.lt_succ_self _)
 refine⟨by rw[Zf ne,Zd],Nat.zero_le _,ne,e2,fun _=>none,(Heap.Ns1.of_empty e3).at fun o q=>Heap.get?_push_of_some _ q,fun _=>True.intro,fun y hy=>absurd rfl hy⟩
theorem ZkW{prog:Program}{w:World}{env:Env}{e:Expr}{f:Str}{pos:Pos}{s:Shared}{Q:Value->Shared->Prop}(hb:attributeBase e f env (eval e env)=eval e env)
  (h:wpAny (model prog w) A (eval e env) (fun o s₁=>wpAny (model prog w) A (getAttr o f true) Q E s₁) E s):wpAny (model prog w) A (eval (.Attribute e f pos) env) Q E s:=
 Attribute_any_ h (by rw[arm_eval_Attribute,hb])
end
def ZnQ(K:PySem.W.Frag)(ta:TE)(f:Str):TE:=fun σ H Q=>ta σ H fun x H1=>∃a C dx fs v,x=.ref a/\H1 a=some (.ins C dx fs)/\Cls K C/\Xv K C f/\fs.lookup f=some v/\Q v H1
def ZnR(K:PySem.W.Frag)(ta tv:TE)(f:Str):TS:=fun D σ H=>tv σ H fun y H1=>ta σ H1 fun x H2=>∃a C dx fs,x=.ref a/\H2 a=some (.ins C dx fs)/\Cls K C/\Xv K C f/\fs.length<1000/\
 D.nx σ (upd H2 a (.ins C dx (ZaA f y fs)))
section
variable {X:Cx} {o e value:Expr} {f:Str} {pos pos' tpos:Pos} {ta tv:TE}
theorem Zd6(he:PE X e ta)(hb:attributeBase e f X.env (eval e X.env)=eval e X.env):PE X (.Attribute e f pos) (ZnQ X.K ta f):=by
 intro pins s σ H Q I h;refine ZkW hb (thn (he pins s σ H _ I h) fun u s1 ⟨x,H1,I1,rx,a,C,dx,fs,v,ex,ea,c,n,l,q⟩=> ?_);subst ex;obtain rfl:u=Value.ref a:=rx;exact Zh9 I1 ea c n l fun u' s2 I2 ru=>⟨v,H1,I2,ru,q⟩
theorem Zfw(ha:PE X o ta)(hv:PE X value tv)(hs:swapsWith value (some (.Attribute o f pos')) pos.line X.env=pure false):PS X (.Assign [.Attribute o f pos'] value pos) (ZnR X.K ta tv f):=by
 intro pins s σ H D I h;refine plainObj_wpAny_Assign_Attribute (thn (hv pins s σ H _ I h) fun u s1 ⟨y,H1,I1,ry,q⟩=>thn (ha pins s1 σ H1 _ I1 q) fun ov s2 ⟨x,H2,I2,rx,a,C,dx,fs,ex,ea,c,n,l,q2⟩=> ?_) hs;subst ex;obtain rfl:ov=Value.ref a:=rx;exact Zha I2 ea c n l ry fun s3 I3=>⟨σ,_,I3,q2⟩
end
section
variable {X:Cx} {pins:List (Addr×Obj)} {σ:St} {H:Hp} {s:Shared} {A:Around} {E:Value->Shared->Prop} {Q:Value->Shared->Prop} {c:Value} {b:Bool}
inductive Zcn (K:PySem.W.Frag) (H:Hp):V->Value->Prop where
 |non:Zcn K H .non (.type "NoneType")
 |bl (x:Bool):Zcn K H (.bl x) (.type "bool")
 |int (i:Int):Zcn K H (.int i) (.type "int")
 |str (x:Str):Zcn K H (.str x) (.type "str")
 |flt (x:UInt64):Zcn K H (.flt x) (.type "float")
 |lst {a:Addr} {xs:List V} (e:H a=some (.lst xs)):Zcn K H (.ref a) (.type "list")
 |frz {a:Addr} {o:Obj} {xs:List V} (e:H a=some (.frz o (.lst xs))):Zcn K H (.ref a) (.type "list")
 |tup {a:Addr} {xs:List V} (e:H a=some (.tup xs)):Zcn K H (.ref a) (.type "tuple")
 |dK {a:Addr} {kvs:List (Key×V)} (e:H a=some (.dK kvs)):Zcn K H (.ref a) (.type "dict")
 |dT {a:Addr} {kvs:List (List Key×V)} (e:H a=some (.dT kvs)):Zcn K H (.ref a) (.type "dict")
 |ins {a C dx:Addr} {fs:List (Str×V)} (e:H a=some (.ins C dx fs)) (cl:Cls K C) (ha:PySem.W.findIn K (.ref C) "__class__"=some (some (.builtin "object.__class__")))
   (hn:PySem.W.specialIn K (.builtin "object.__class__") "__get__"=some (some (.builtin "getset_descriptor.__get__"))) (htk:PySem.W.takesIn K (.builtin "object.__class__")=some true)
   (hm:PySem.W.mroIn K C (.type "object")=some true):Zcn K H (.ref a) (.ref C)
theorem ZiF{x:V}{u t:Value}(I:Inv X pins σ H s)(rx:ZR x u)(ty:Zcn X.K H x t)(e:PySem.W.kitOne X.K t c=some b)(h:∀tk,Q (.bool b) {s with toks:=tk}):
  wpAny (model X.prog X.w) A (call (.builtin "isinstance") [u,c]) Q E s:=by
 cases ty with
 |non=>cases(show u=Value.none from rx);exact PySem.W.kia_one PySem.W.kitx_none I.kIn True.intro e (fun z=>nomatch z) h
 |bl y=>cases(show u=Value.bool y from rx);exact PySem.W.kia_one PySem.W.kitx_bool I.kIn True.intro e (fun z=>nomatch z) h
 |int i=>obtain⟨t,q⟩:=(show∃t,u=Value.int i t from rx);cases q;exact PySem.W.kia_one PySem.W.kitx_int I.kIn True.intro e (fun z=>nomatch z) h
 |str y=>obtain⟨t,q⟩:=(show∃t,u=Value.str y t from rx);cases q;exact PySem.W.kia_one PySem.W.kitx_str I.kIn True.intro e (fun z=>nomatch z) h
 |flt y=>obtain⟨t,q⟩:=(show∃t,u=Value.float y t from rx);cases q;exact PySem.W.kia_one PySem.W.kitx_float I.kIn True.intro e (fun z=>nomatch z) h
 | @lst a xs ea=>
  cases(show u=Value.ref a from rx);obtain⟨_,_,n,_,h1⟩:=(show Yz X.prog X.w H s.heap a (.lst xs) from I.hok a _ ea)
  exact PySem.W.kia_one PySem.W.kitx_list I.kIn ⟨_,h1,rfl⟩ e (fun z=>nomatch z) h
 | @frz a ob xs ea=>
  cases(show u=Value.ref a from rx);obtain⟨_,_,_,n,_,h1⟩:=(show Yz X.prog X.w H s.heap a (.frz ob (.lst xs)) from I.hok a _ ea)
  exact PySem.W.kia_one PySem.W.kitx_list I.kIn ⟨_,h1,rfl⟩ e (fun z=>nomatch z) h
 | @tup a xs ea=>
  cases(show u=Value.ref a from rx);obtain⟨_,_,_,p⟩:=(show Yz X.prog X.w H s.heap a (.tup xs) from I.hok a _ ea)
  obtain⟨o,h1,h2,_⟩:=p;exact PySem.W.kia_one PySem.W.kitx_tuple I.kIn ⟨o,h1,h2⟩ e (fun z=>nomatch z) h
 | @dK a kvs ea=>
  cases(show u=Value.ref a from rx);obtain⟨_,_,vs,_,p⟩:=(show Yz X.prog X.w H s.heap a (.dK kvs) from I.hok a _ ea)
  obtain⟨o,es,ep,h1,h2,_⟩:=p;exact PySem.W.kia_one PySem.W.kitx_dict I.kIn ⟨o,h1,h2.1⟩ e (fun z=>nomatch z) h
 | @dT a kvs ea=>
  cases(show u=Value.ref a from rx);obtain⟨_,_,xs,_,o,es,ep,h1,h2,_⟩:=(show Yz X.prog X.w H s.heap a (.dT kvs) from I.hok a _ ea)
  exact PySem.W.kia_one PySem.W.kitx_dict I.kIn ⟨o,h1,h2.1⟩ e (fun z=>nomatch z) h
 | @ins a C dx fs ea cl ha hn htk hm=>
  cases(show u=Value.ref a from rx);obtain⟨mA,O,_⟩:=Zfv I.hok ea;obtain⟨od,J,_⟩:=O.look;exact PySem.W.kia_one (PySem.W.kitx_own (cl.get _) cl.hd ha hn htk hm) I.kIn J e (fun z=>nomatch z) h
end
end L2
namespace L2
open PySem PySem.Spec PyProof.Rows
structure Xc (k:Nat) (A:Around):Prop where
 hd:A.handled=none
 dp:A.depth+3*k+5<recursionLimit
 un:A.units+16*k+200<cLine
theorem Xc.mono{j k:Nat}{A:Around}(r:Xc k A)(h:j<=k):Xc j A:=⟨r.hd,by have:=r.dp;omega,by have:=r.un;omega⟩
theorem Xc.deeper{k:Nat}{A:Around}(r:Xc (k+1) A)(env:Env):Xc k (A.deeper env):=
 ⟨r.hd,by have:=r.dp;show A.depth+1+3*k+5<_;omega,by have:=r.un;show A.units+3+16*k+200<_;omega⟩
theorem Xc.in1{k:Nat}{A:Around}(r:Xc (k+1) A):Xc k A.in1:=
 ⟨r.hd,by have:=r.dp;show A.depth+3*k+5<_;omega,by have:=r.un;show A.units+1+16*k+200<_;omega⟩
theorem Zhb{A:Around}{C:Addr}{us:List Value}{kw:List (Str×Value)}:(A.under (.builtin "type.__call__" ⟨.ref C::us,kw⟩)).depth=A.depth+1:=by
 first|rfl|simp[Around.under,Code.weight,Code.isCreation,Code.isGuard,Code.isCaller,Code.frames,Code.isFrame,guardIds]
theorem Zhc{A:Around}{C:Addr}{us:List Value}{kw:List (Str×Value)}:(A.under (.builtin "type.__call__" ⟨.ref C::us,kw⟩)).units=A.units+1:=by
 first|rfl|simp[Around.under,Code.cUnits,Code.frames,Code.isFrame]
theorem Xc.make{k:Nat}{A:Around}(r:Xc (k+1) A)(C:Addr)(us:List Value)(kw:List (Str×Value)):Xc k (A.under (.builtin "type.__call__" ⟨.ref C::us,kw⟩)):=
 ⟨r.hd,by have:=r.dp;rw[Zhb];omega,by have:=r.un;rw[Zhc];omega⟩
theorem Xc.depth{k:Nat}{A:Around}(r:Xc k A):A.depth<recursionLimit:=by have:=r.dp;omega
theorem Xc.units{k:Nat}{A:Around}(r:Xc k A):A.units+64<cLine:=by have:=r.un;omega
def ZkX:TA:=fun _ H Q=>Q [] H
def Zn6(ta:TE)(tr:TA):TA:=fun σ H Q=>ta σ H fun x H1=>tr σ H1 fun xs H2=>Q (x::xs) H2
section
variable {X:Cx} {e:Expr} {es:List Expr} {te:TE} {t:TA} {pos:Pos}
theorem Ze:PA X [] ZkX:=fun _ _ _ _ H Q I h=>Calls.spliced_nil ⟨[],H,I,.nil,h⟩
theorem Za(ha:PE X e te)(hr:PA X es t)(hs:starEach (e::es) X.env=(false,eval e X.env)::starEach es X.env:=by rfl):PA X (e::es) (Zn6 te t):=by
 intro pos pins s σ H Q I h;rw[hs];show wpAny _ _ (spliced ((false,eval e X.env)::backTo pos (starEach es X.env))) _ _ s;refine Calls.spliced_cons (thn (ha pins s σ H _ I h) fun u s1 ⟨x,H1,I1,r1,q1⟩=> ?_);exact thn (hr pos pins s1 σ H1 _ I1 q1) fun us s2 ⟨xs,H2,I2,r2,q2⟩=>⟨x::xs,H2,I2,.cons r1 r2,q2⟩
def ZnS(t:TA):TE:=fun σ H Q=>t σ H fun xs H1=>xs.length<=sizeLine/\∀p,H1 p=none->Q (.ref p) (upd H1 p (.tup xs))
def ZnT(t:TA):TE:=fun σ H Q=>t σ H fun xs H1=>xs.length<=sizeLine/\∀p,H1 p=none->Q (.ref p) (upd H1 p (.lst xs))
theorem JB{x1}(h:PA X es t):PE X (.Tuple es x1 pos) (ZnS t):=by
 intro pins s σ H Q I hq;refine wpAny_Tuple_spliced (thn (h pos pins s σ H _ I hq) fun us s1 ⟨xs,H1,I1,r,z,q⟩=>⟨by rw[<-r.length];exact z, ?_⟩)
 have hf:H1 s1.heap.objs.size=none:=I1.hok.fresh (Nat.le_refl _);refine⟨.ref s1.heap.objs.size,upd H1 s1.heap.objs.size (.tup xs),I1.laid (t':=s1.toks) (fun b u e=>Heap.get?_push_of_some _ e) (Nat.le_refl _) ?_,rfl,q _ hf⟩;exact⟨z,us,r,⟨_,Heap.get?_push_size _ rfl,rfl,_,rfl⟩⟩
theorem Xf(h:PA X es t):PE X (.List es pos) (ZnT t):=by
 intro pins s σ H Q I hq;refine wpAny_List_spliced (thn (h pos pins s σ H _ I hq) fun us s1 ⟨xs,H1,I1,r,z,q⟩=>⟨by rw[<-r.length];exact z, ?_⟩)
 have hf:H1 s1.heap.objs.size=none:=I1.hok.fresh (Nat.le_refl _);refine⟨.ref s1.heap.objs.size,upd H1 s1.heap.objs.size (.lst xs),I1.laid (t':=s1.toks) (fun b u e=>Heap.get?_push_of_some _ e) (Nat.le_refl _) ?_,rfl,q _ hf⟩;exact⟨z,us,0,r,Heap.get?_push_size _ rfl⟩
end
abbrev Sp:=List V->Hp->VK->XK->Prop
abbrev CXT:=List Env->Hp->Shared->XK->Value->Shared->Prop
structure ZeL (P:Program) (w:World) (K:PySem.W.Frag) (mg:Str->Option Value) (base:Heap) (A:Around) (outer:List Env) (s:Shared) (H:Hp):Prop where
 frames:A.frames=some outer
 mod:Mod K mg base
 bs:∀b o,base.get? b=some o->s.heap.get? b=some o/\H b=none
 bsz:base.objs.size<=s.heap.objs.size
 funs:s.heap.FunFrames base outer
 frf:∀b∈frs outer,H b=none
 hok:HOk P w H s.heap
 bare:AllBare s.gens
def CE(outer:List Env)(P:Program)(w:World)(H:Hp)(s:Shared)(Q:VK)(u:Value)(s':Shared):Prop:=
 ∃v H',s'.os=s.os/\AllBare s'.gens/\Un (frs outer) [] H H' s.heap s'.heap/\HOk P w H' s'.heap/\ZR v u/\Q v H'
def CR(CX:CXT)(outer:List Env)(P:Program)(w:World)(H:Hp)(s:Shared)(Q:VK)(E:XK)(r:Result)(s':Shared):Prop:=
 match r with
 | .ok (.ret u)=>CE outer P w H s Q u s'
 | .ok _=>False
 | .error e=>CX outer H s E e s'
structure YD (P:Program) (w:World) (K:PySem.W.Frag) (mg:Str->Option Value) (base:Heap) (CX:CXT) (k:Nat) (f:Addr) (fd:FuncData) (ps:List Str) (sp:Sp):Prop where
 len:∀vs H Q E,sp vs H Q E->vs.length=ps.length
 run:∀(A:Around) (outer:List Env) (s:Shared) (H:Hp) (args:Args) (us:List Value) (vs:List V) (Q:VK) (E:XK),Xc k A->ZeL P w K mg base A outer s H->BindsTo s fd args (ps.zip us)->ZW vs us->sp vs H Q E->
  codeAny (model P w) A (.call (.ref f) args) (CR CX outer P w H s Q E) s
theorem ZeL.make{P:Program}{w:World}{K:PySem.W.Frag}{mg:Str->Option Value}{base:Heap}{A:Around}{outer:List Env}{s:Shared}{H:Hp}(e:ZeL P w K mg base A outer s H)(C:Addr)(us:List Value)(kw:List (Str×Value)):
  ZeL P w K mg base (A.under (.builtin "type.__call__" ⟨.ref C::us,kw⟩)) outer s H:=⟨by first|exact e.frames|(simpa [Around.under,Code.envs,Code.isFrame,pushEnvs] using e.frames),e.mod,e.bs,e.bsz,e.funs,e.frf,e.hok,e.bare⟩
theorem ZeL.in1{P:Program}{w:World}{K:PySem.W.Frag}{mg:Str->Option Value}{base:Heap}{A:Around}{outer:List Env}{s:Shared}{H:Hp}(e:ZeL P w K mg base A outer s H):
  ZeL P w K mg base A.in1 outer s H:=⟨e.frames,e.mod,e.bs,e.bsz,e.funs,e.frf,e.hok,e.bare⟩
section
variable {X:Cx} {pins:List (Addr×Obj)} {σ:St} {H:Hp} {s s':Shared}
theorem Inv.env0(I:Inv X pins σ H s):ZeL X.prog X.w X.K X.mg X.base X.A X.stack s H:=
 ⟨I.ok.frames,I.ok.mod,I.bs,Nat.le_trans I.ok.bsz I.sz,I.stack,I.stkFree,I.hok,I.bare⟩
theorem Inv.after{Q:VK}{u:Value}(I:Inv X pins σ H s)(h:CE X.stack X.prog X.w H s Q u s'):EP X pins σ Q u s':=by
 obtain⟨v,H',os,bare,un,hok,r,q⟩:=h;obtain⟨hh,g,d,t,os'⟩:=s';obtain rfl:os'=s.os:=os;exact⟨v,H',I.call (h':=hh) (g':=g) (d':=d) (t':=t) (ch:=[]) un hok bare (fun b z=>absurd z (by simp)),r,q⟩
end
def Zi2(sp:Sp)(dvs:List V)(E:XK)(t:TA):TE:=fun σ H Q=>t σ H fun vs H1=>sp (vs++dvs) H1 Q E
def ZlL(C:Addr)(sp:Sp)(dvs:List V)(E:XK)(t:TA):TE:=fun σ H Q=>t σ H fun vs H1=>∀x dx,H1 x=none->H1 dx=none->dx≠x->
 sp (.ref x::(vs++dvs)) (upd (upd H1 dx (.own x)) x (.ins C dx [])) (fun v H2=>v=.non/\Q (.ref x) H2) E
def JL(K:PySem.W.Frag)(fd:FuncData)(ps:List Str)(ds:List Value):Prop:=
 ∀(s:Shared) (us:List Value),K.In s.heap->(us++ds).length=ps.length->BindsTo s fd ⟨us,[]⟩ (ps.zip (us++ds))
theorem JL.all{K:PySem.W.Frag}{fd:FuncData}{ps:List Str}(h:∀us:List Value,us.length=ps.length->bindArgs fd ⟨us,[]⟩=pure (ps.zip us)):JL K fd ps []:=fun s us _ hl=>by
 rw[List.append_nil] at hl⊢
 exact .of_eq (h us hl)
def JZ(CX:CXT)(X:Cx)(E:XK):Prop:=∀(pins:List (Addr×Obj)) (σ:St) (H:Hp) (s:Shared) (e:Value) (s':Shared),Inv X pins σ H s->CX X.stack H s E e s'->X.xe e s'
section
variable {X:Cx} {CX:CXT} {k:Nat} {f C:Addr} {fd:FuncData} {ps:List Str} {sp:Sp} {dvs:List V} {ds:List Value} {E:XK} {x m:Str} {p pos apos:Pos} {e o:Expr} {es:List Expr} {ta:TE} {t:TA}
theorem Zjs{pins:List (Addr×Obj)}{σ:St}{H:Hp}{s:Shared}{Q:VK}{us:List Value}{vs:List V}(F:YD X.prog X.w X.K X.mg X.base CX k f fd ps sp)(hr:Xc k X.A)(hb:JL X.K fd ps ds)(hd:ZW dvs ds)(hx:JZ CX X E)
  (I:Inv X pins σ H s)(r:ZW vs us)(h:sp (vs++dvs) H Q E):wpAny (model X.prog X.w) X.A (call (.ref f) us) (EP X pins σ Q) X.xe s:=by
 have r2:ZW (vs++dvs) (us++ds):=r.append hd;have hl:(us++ds).length=ps.length:=by rw[<-r2.length];exact F.len _ _ _ _ h
 refine wpAny_call (codeAny_mono (F.run X.A X.stack s H ⟨us,[]⟩ (us++ds) (vs++dvs) Q E hr I.env0 (hb s us I.kIn hl) r2 h) fun r s' hq=> ?_);cases r with
 |error e=>exact hx pins σ H s e s' I hq
 |ok fl=>
  cases fl with
  |ret u=>exact I.after hq
  |next=>exact False.elim hq
  |brk=>exact False.elim hq
  |cont=>exact False.elim hq
theorem ZkY(F:YD X.prog X.w X.K X.mg X.base CX k f fd ps sp)(hr:Xc k X.A)(hg:Gl X x)(hm:X.mg x=some (.ref f))(hk:PySem.W.keepIn X.K (.ref f)=true)(hb:JL X.K fd ps ds)(hd:ZW dvs ds)(hx:JZ CX X E)
  (ha:PA X (e::es) t)(hdb:(x==("__debug__":Str))=false:=by decide)(he:starEach (e::es) X.env=(false,eval e X.env)::starEach es X.env:=by rfl)(hpl:(backTo pos (starEach es X.env)).any (·.1)=false:=by rfl):
  PE X (.Call (.Name x p) (e::es) [] pos) (Zi2 sp dvs E t):=by
 intro pins s σ H Q I h;refine wpAny_Call_Name_kw (Jk I hg hm ?_ hdb);refine PySem.W.callWith_K (h₀:=X.base) I.ok.mod.kin hk (thn (ha pos pins s σ H _ I h) fun us s1 ⟨vs,H1,I1,r,q⟩=>⟨I1.kIn, ?_⟩) he hpl;exact Zjs F hr hb hd hx I1 r q
theorem Zjt(F:YD X.prog X.w X.K X.mg X.base CX k f fd ps sp)(hr:Xc k X.A)(hg:Gl X x)(hm:X.mg x=some (.ref f))(hk:PySem.W.keepIn X.K (.ref f)=true)(hb:JL X.K fd ps ds)(hd:ZW dvs ds)(hx:JZ CX X E)
  (hdb:(x==("__debug__":Str))=false:=by decide):PE X (.Call (.Name x p) [] [] pos) (Zi2 sp dvs E ZkX):=by
 intro pins s σ H Q I h;refine wpAny_Call_Name_kw (Jk I hg hm ?_ hdb);exact PySem.W.callWith_K0 I.kIn hk (Zjs (us:=[]) F hr hb hd hx I .nil h)
structure Mk (K:PySem.W.Frag) (C f:Addr):Prop where
 makes:PySem.W.makesIn K C=true
 init:PySem.W.findIn K (.ref C) "__init__"=some (some (.ref f))
 fn:PySem.W.isFn K (.ref f)=true
 kp:PySem.W.keepIn K (.ref C)=true
theorem Zju{pins:List (Addr×Obj)}{σ:St}{H:Hp}{s:Shared}{Q:VK}{us:List Value}{vs:List V}(M:Mk X.K C f)(F:YD X.prog X.w X.K X.mg X.base CX k f fd ps sp)(hr:Xc (k+1) X.A)(hb:JL X.K fd ps ds)(hd:ZW dvs ds)
  (hx:JZ CX X E)(I:Inv X pins σ H s)(r:ZW vs us)
  (h:∀x dx,H x=none->H dx=none->dx≠x->sp (.ref x::(vs++dvs)) (upd (upd H dx (.own x)) x (.ins C dx [])) (fun v H2=>v=.non/\Q (.ref x) H2) E):
  wpAny (model X.prog X.w) X.A (call (.ref C) us) (EP X pins σ Q) X.xe s:=by
 have hq:=h (s.heap.objs.size+1) s.heap.objs.size (I.hok.fresh (Nat.le_succ _)) (I.hok.fresh (Nat.le_refl _)) (Nat.ne_of_lt (Nat.lt_succ_self _));have I2:=Inv.made (C:=C) I;have r2:ZW (V.ref (s.heap.objs.size+1)::(vs++dvs)) (Value.ref (s.heap.objs.size+1)::(us++ds)):=.cons rfl (r.append hd);have hl:(Value.ref (s.heap.objs.size+1)::us++ds).length=ps.length:=by
  have e:=r2.length;rw[F.len _ _ _ _ hq] at e
  exact e.symm
 refine wpAny_call (Zjr (f:=f) I.kIn M.makes M.init (beq_iff_eq.mp M.fn) (codeAny_mono (F.run _ X.stack _ _ ⟨Value.ref (s.heap.objs.size+1)::us,[]⟩ (Value.ref (s.heap.objs.size+1)::(us++ds)) _ _ E (hr.make C us [])
  (I2.env0.make C us []) (hb _ (Value.ref (s.heap.objs.size+1)::us) I2.kIn hl) r2 hq) fun r s' hq'=> ?_))
 cases r with
 |error e=>exact hx pins σ _ _ e s' I2 hq'
 |ok fl=>
  cases fl with
  |ret u=>
   obtain⟨v,H',I3,rv,ev,q3⟩:=I2.after hq';subst ev;exact⟨rv,⟨V.ref (s.heap.objs.size+1),H',I3,rfl,q3⟩⟩
  |next=>exact False.elim hq'
  |brk=>exact False.elim hq'
  |cont=>exact False.elim hq'
theorem ZkZ(M:Mk X.K C f)(F:YD X.prog X.w X.K X.mg X.base CX k f fd ps sp)(hr:Xc (k+1) X.A)(hg:Gl X x)(hm:X.mg x=some (.ref C))(hb:JL X.K fd ps ds)(hd:ZW dvs ds)(hx:JZ CX X E)
  (ha:PA X (e::es) t)(hdb:(x==("__debug__":Str))=false:=by decide)(he:starEach (e::es) X.env=(false,eval e X.env)::starEach es X.env:=by rfl)(hpl:(backTo pos (starEach es X.env)).any (·.1)=false:=by rfl):
  PE X (.Call (.Name x p) (e::es) [] pos) (ZlL C sp dvs E t):=by
 intro pins s σ H Q I h;refine wpAny_Call_Name_kw (Jk I hg hm ?_ hdb);refine PySem.W.callWith_K (h₀:=X.base) I.ok.mod.kin M.kp (thn (ha pos pins s σ H _ I h) fun us s1 ⟨vs,H1,I1,r,q⟩=>⟨I1.kIn, ?_⟩) he hpl;exact Zju M F hr hb hd hx I1 r q
end
section
variable {X:Cx} {CX:CXT} {k:Nat} {f C:Addr} {fd:FuncData} {ps ks:List Str} {sp:Sp} {E:XK} {x m:Str} {p pos apos kpos:Pos} {e o:Expr} {es:List Expr} {kws:List Keyword} {te ta:TE} {t tk:TA} {nm:Option Str}
variable {g:List Value->List Value->List Value} {gV:List V->List V->List V}
end
structure ZV (N P:List Str) (sc:Scope):Prop where
 kind:sc.kind=.function
 co:sc.isCoroutine=false
 gen:sc.isGenerator=false
 nd:N.Nodup
 pre:N.take P.length=P
 par:∀x∈P,sc.names.lookup x=some .local\/sc.names.lookup x=some .cell
 nofree:∀y∈sc.names,y.2≠.free
theorem Zf0{kindOf:Str->Option NameKind}{x:Str}:∀{binds:List (Str×Value)} {m:Str->Option Value},(∀v,(x,v)∉binds)->bindL kindOf binds m x=m x
 |[],_,_=>rfl
 |(n,v)::r,m,h=>by
  unfold bindL;rw[Zf0 fun w hw=>h w (List.mem_cons_of_mem _ hw)]
  split
  ·have:x≠n:=by rintro rfl;exact h v List.mem_cons_self
   simp[this]
  ·rfl
theorem Zf1{kindOf:Str->Option NameKind}{x:Str}:∀{binds:List (Str×Value)} {m:Str->Option Value},(∀v,(x,v)∉binds)->bindC kindOf binds m x=m x
 |[],_,_=>rfl
 |(n,v)::r,m,h=>by
  unfold bindC;rw[Zf1 fun w hw=>h w (List.mem_cons_of_mem _ hw)]
  split
  ·rfl
  ·have:x≠n:=by rintro rfl;exact h v List.mem_cons_self
   simp[this]
theorem Zf2{kindOf:Str->Option NameKind}{x:Str}{v:Value}:∀{P:List Str} {vs:List Value} {i:Nat} {m:Str->Option Value},P.Nodup->P[i]? =some x->vs[i]? =some v->kindOf x=some .local->
  bindL kindOf (P.zip vs) m x=some v
 |[],_,_,_,_,h,_,_=>by simp at h
 |_::_,[],_,_,_,_,h,_=>by simp at h
 |p::P,w::vs,0,m,nd,h1,h2,hk=>by
  simp at h1 h2;subst h1;subst h2
  show bindL kindOf ((p,w)::P.zip vs) m p=_;unfold bindL;rw[Zf0 fun v hv=>(List.nodup_cons.mp nd).1 (List.of_mem_zip hv).1,if_pos hk];simp
 |p::P,w::vs,i+1,m,nd,h1,h2,hk=>by
  show bindL kindOf ((p,w)::P.zip vs) m x=_;unfold bindL;exact Zf2 (i:=i) (List.nodup_cons.mp nd).2 (by simpa using h1) (by simpa using h2) hk
theorem Zf3{kindOf:Str->Option NameKind}{x:Str}{v:Value}:∀{P:List Str} {vs:List Value} {i:Nat} {m:Str->Option Value},P.Nodup->P[i]? =some x->vs[i]? =some v->kindOf x≠some .local->
  bindC kindOf (P.zip vs) m x=some v
 |[],_,_,_,_,h,_,_=>by simp at h
 |_::_,[],_,_,_,_,h,_=>by simp at h
 |p::P,w::vs,0,m,nd,h1,h2,hk=>by
  simp at h1 h2;subst h1;subst h2
  show bindC kindOf ((p,w)::P.zip vs) m p=_;unfold bindC;rw[Zf1 fun v hv=>(List.nodup_cons.mp nd).1 (List.of_mem_zip hv).1,if_neg hk];simp
 |p::P,w::vs,i+1,m,nd,h1,h2,hk=>by
  show bindC kindOf ((p,w)::P.zip vs) m x=_;unfold bindC;exact Zf3 (i:=i) (List.nodup_cons.mp nd).2 (by simpa using h1) (by simpa using h2) hk
def ZaB(N:List Str)(vs:List V):St:=vs.map some++List.replicate (N.length-vs.length) none
def Xg(CX:CXT)(P:Program)(w:World)(K:PySem.W.Frag)(mg:Str->Option Value)(base:Heap)(N:List Str)(qual:Str)(scope:Scope)(f:Addr)(cd:Value)(A:Around)(outer:List Env)(s:Shared)(H:Hp)(E:XK):Cx where
 prog:=P
 w:=w
 K:=K
 mg:=mg
 base:=base
 A:=A.deeper (envOfC qual scope s.heap.objs.size f cd)
 N:=N
 s₀:=s
 H₀:=H
 env:=envOfC qual scope s.heap.objs.size f cd
 outer:=outer
 stack:=envOfC qual scope s.heap.objs.size f cd::outer
 ex:=[]
 calm:=true
 fn:=fun _=>true
 pn:=[]
 xe:=fun e s'=>wpAny (model P w) (A.deeper (envOfC qual scope s.heap.objs.size f cd)) (leaving (envOfC qual scope s.heap.objs.size f cd) e) (fun _ s''=>CX outer H s E e s'') (fun e' s''=>CX outer H s E e' s'') s'
theorem Zgj{sc:Scope}{n:Nat}{x:Str}(h:sc.names.lookup x=some .cell):∃c,(cellsFrom n sc.names []).lookup x=some c:=by
 have q:=PySem.W.cellsFrom_some sc.names n [] (.inl h);exact Option.isSome_iff_exists.mp q
theorem ZiG{CX:CXT}{P:Program}{w:World}{K:PySem.W.Frag}{mg:Str->Option Value}{base:Heap}{N ps:List Str}{qual:Str}{scope:Scope}{f:Addr}{cd:Value}{A:Around}{outer:List Env}{s s1:Shared}{H:Hp}{E:XK}{us:List Value}{vs:List V}
  (S:ZV N ps scope)(hd:A.handled=none)(e0:ZeL P w K mg base A outer s H)(hl:vs.length=ps.length)(r:ZW vs us)
  (x:InCallC s s.heap.objs.size (bindL (envOfC qual scope s.heap.objs.size f cd).kindOf (ps.zip us) fun _=>none) (cellsFrom (s.heap.objs.size+1) scope.names []) (bindC (envOfC qual scope s.heap.objs.size f cd).kindOf (ps.zip us) fun _=>none) s1):
  Inv (Xg CX P w K mg base N qual scope f cd A outer s H E) [] (ZaB N vs) H s1:=by
 have hpl:ps.length<=N.length:=by have:=congrArg List.length S.pre;rw[List.length_take] at this;omega
 obtain⟨h1,tk,rfl,hk⟩:=x.done;have noA:∀b:Addr,b∉(Xg CX P w K mg base N qual scope f cd A outer s H E).ex:=fun b z=>absurd (show b∈([]:List Addr) from z) (by simp);refine⟨⟨e0.mod,S.kind,rfl,rfl,Nat.le_refl _,fun y z c h1 h2=> ?_,fun y hy=> ?_,fun y c _ h=> ?_,fun _=>hd,Around.frames_deeper e0.frames,.inr ⟨rfl,rfl⟩,fun b z=>absurd z (noA b),e0.bs,e0.bsz,fun b _ _=>noA b,fun b z=>absurd z (noA b),e0.funs,e0.frf⟩,
  rfl,e0.bare,Un.kept hk,⟨_,x.toInCall.ns,fun i y v h1 h2 h3=> ?_⟩,fun y c h=>⟨_,x.cell y c h⟩,e0.hok.fresh (Nat.le_refl _),fun y c h=> ?_,fun p hp=>absurd (show p∈([]:List (Addr×Obj)) from hp) (by simp),e0.hok.kept hk, ?_⟩
 ·exact name_of_addr x.apart (PySem.mem_of_lookup h1) (PySem.mem_of_lookup h2)
 ·have hy:scope.names.lookup y=some .cell\/scope.names.lookup y=some .free:=hy;rcases hy with hy|hy
  ·exact Zgj hy
  ·exact absurd rfl (S.nofree _ (PySem.mem_of_lookup hy))
 ·exact Nat.le_of_lt (x.above y c (PySem.mem_of_lookup h))
 ·have hi:i<vs.length:=by
   unfold ZaB at h2
   by_cases hi:i<vs.length
   ·exact hi
   ·rw[List.getElem?_append_right (by simpa using hi)] at h2
    rw[List.getElem?_replicate] at h2
    split at h2<;>cases h2
  have ha:vs[i]? =some v:=by
   unfold ZaB at h2
   rw[List.getElem?_append_left (by simpa using hi),List.getElem?_map] at h2
   cases e:vs[i]? with
   |none=>rw[e] at h2;cases h2
   |some a=>rw[e] at h2;cases h2;rfl
  obtain⟨u,hu,rv⟩:=r.get ha;have hp:ps[i]? =some y:=by
   rw[<-S.pre,List.getElem?_take_of_lt (by omega)];exact h1
  have ndP:ps.Nodup:=by rw[<-S.pre];exact S.nd.sublist (List.take_sublist _ _)
  refine⟨u,rv, ?_⟩;rcases S.par y (List.mem_of_getElem? hp) with k|k
  ·exact .inl ⟨k,Zf2 ndP hp hu k⟩
  ·obtain⟨c,e⟩:=Zgj (n:=s.heap.objs.size+1) k;refine .inr ⟨.inl k,c,e, ?_⟩;have q:=x.cell y c e;rw[Zf3 ndP hp hu (by show scope.names.lookup y≠_;rw[k];decide)] at q
   exact q
 ·exact e0.hok.fresh (Nat.le_of_lt (x.above y c (PySem.mem_of_lookup h)))
 ·unfold ZaB;show _=N.length;rw[List.length_append,List.length_map,List.length_replicate];omega
theorem ZlM{CX:CXT}{P:Program}{w:World}{K:PySem.W.Frag}{mg:Str->Option Value}{base:Heap}{k:Nat}{f:Addr}{name qual:Str}{params:Arguments}{body:List Stmt}{scope:Scope}{dV kV doc pm cdv ct oc:Value}{an od:Option Addr}
  {osl:Array (Option Value)}{N ps:List Str}{sp:Sp}(lk:K.lookup f=some ⟨oc,od,.func (PySem.W.fnOf name qual params body scope dV kV doc pm an cdv ct),osl⟩)(hcd:PySem.W.codeIn K cdv qual=true)(S:ZV N ps scope)
  (len:∀vs H Q E,sp vs H Q E->vs.length=ps.length)
  (hbody:∀(A:Around) (outer:List Env) (s:Shared) (H:Hp) (vs:List V) (Q:VK) (E:XK),Xc k (A.deeper (envOfC qual scope s.heap.objs.size f cdv))->sp vs H Q E->
   ∃t,PSs (Xg CX P w K mg base N qual scope f cdv A outer s H E) body t/\t {nx:=fun _ H'=>Q .non H',rt:=Q} (ZaB N vs) H):
  YD P w K mg base CX (k+1) f (PySem.W.fnOf name qual params body scope dV kV doc pm an cdv ct) ps sp:=by
 refine⟨len,fun A outer s H args us vs Q E hr e0 hb r hsp=> ?_⟩;have hl:=len _ _ _ _ hsp;have KX:K.In s.heap:=e0.mod.kin.keeps fun b o e=>(e0.bs b o e).1;have lim:s.heap.NoLimit:=e0.mod.nolimit.keeps fun b o e=>(e0.bs b o e).1;have hkind:∀y∈ps.zip us,scope.names.lookup y.1=some .local\/(scope.names.lookup y.1=some .cell/\((cellsFrom (s.heap.objs.size+1) scope.names []).lookup y.1).isSome=true):=fun⟨n,v⟩ hy=>by
  rcases S.par n (List.of_mem_zip hy).1 with q|q
  ·exact .inl q
  ·exact .inr ⟨q,PySem.W.cellsFrom_some _ _ _ (.inl q)⟩
 refine codeAny_call_function hr.depth (KX _ _ lk) rfl S.co S.gen rfl (PySem.W.codeRec_of KX hcd) (hb _ _ _ _ ?_);refine wpAny_newFunctionEnv_cells S.kind hkind fun env he s1 x=> ?_;subst he;refine⟨lim.keeps x.toInCall.keep,codeAny_func ?_⟩;obtain⟨t,ht,hq⟩:=hbody A outer s H vs Q E (hr.deeper _) hsp;have I:Inv (Xg CX P w K mg base N qual scope f cdv A outer s H E) [] (ZaB N vs) H s1:=ZiG S hr.hd e0 hl r x
 refine wpAny_mono (ht [] s1 (ZaB N vs) H _ I hq) (fun fl s' hs=> ?_) fun e s' hs=>hs;have fin:∀{σ':St} {H':Hp} {v:V} {u:Value},Inv (Xg CX P w K mg base N qual scope f cdv A outer s H E) [] σ' H' s'->ZR v u->Q v H'->CE outer P w H s Q u s':=
  fun{σ' H' v u} J rv q=>⟨v,H',J.os,J.bare,J.base,J.hok,rv,q⟩
 cases fl with
 |ret u=>
  obtain⟨v,σ',H',J,rv,q⟩:=hs;exact fin J rv q
 |next=>
  obtain⟨σ',H',J,q⟩:=hs;exact fin (v:=V.non) (u:=Value.none) J rfl q
 |brk=>
  obtain⟨_,_,_,q⟩:=hs;exact False.elim q
 |cont=>
  obtain⟨_,_,_,q⟩:=hs;exact False.elim q
end L2
namespace L2
open PySem PySem.Spec PyProof.Rows
section
variable {X:Cx} {x:Str} {p pos:Pos} {e:Expr} {es:List Expr} {t:TA} {id T:String} {r:List V->Hp->VK->Prop}
def tCB(r:List V->Hp->VK->Prop)(t:TA):TE:=fun σ H Q=>t σ H fun vs H1=>r vs H1 Q
theorem ZG(hc:JK X (.builtin id) r)(hg:Gl X x)(hm:X.mg x=none)(hv:bootBuiltins x=some (.builtin id))(ha:PA X (e::es) t)(hn:x≠"__name__":=by decide)(hdb:(x==("__debug__":Str))=false:=by decide)
  (he:starEach (e::es) X.env=(false,eval e X.env)::starEach es X.env:=by rfl)(hpl:(backTo pos (starEach es X.env)).any (·.1)=false:=by rfl):PE X (.Call (.Name x p) (e::es) [] pos) (tCB r t):=by
 intro pins s σ H Q I h;refine wpAny_Call_Name_kw (ZbY I hg hm hv ?_ hn hdb);exact PyProof.Rows.callWith_builtin1 (thn (ha pos pins s σ H _ I h) fun us s1 ⟨vs,H1,I1,r1,q1⟩=>hc pins s1 σ H1 vs us Q I1 r1 q1) he hpl
theorem Jd(hc:JK X (.type T) r)(hg:Gl X x)(hm:X.mg x=none)(hv:bootBuiltins x=some (.type T))(ha:PA X (e::es) t)(hn:x≠"__name__":=by decide)(hdb:(x==("__debug__":Str))=false:=by decide)
  (he:starEach (e::es) X.env=(false,eval e X.env)::starEach es X.env:=by rfl)(hpl:(backTo pos (starEach es X.env)).any (·.1)=false:=by rfl):PE X (.Call (.Name x p) (e::es) [] pos) (tCB r t):=by
 intro pins s σ H Q I h;refine wpAny_Call_Name_kw (ZbY I hg hm hv ?_ hn hdb);exact PyProof.Rows.callWith_type1 (thn (ha pos pins s σ H _ I h) fun us s1 ⟨vs,H1,I1,r1,q1⟩=>hc pins s1 σ H1 vs us Q I1 r1 q1) he hpl
end
end L2
namespace HT
open PySem PyProof.Rows
section
open PySem.SeqAt
open PySem.AutoSeq1 (wpAny_loadPart')
open PySem.MeetsSeq PySem.MeetsSeq2 PySem.MeetsSeq3
end
section
variable {prog:Program} {w:World} {A:Around} {E:Value->Shared->Prop} {s:Shared}
def sIx(n d:Nat):Option Int->Nat
 |none=>d
 |some v=>if v<0 then(v+(n:Int)).toNat else min v.toNat n
end
end HT
namespace L2
open PySem PySem.Spec PyProof.Rows
abbrev TO:=St->Hp->(Option Int->Hp->Prop)->Prop
def PO(X:Cx)(e:Option Expr)(t:TO):Prop:=
 ∀(pins:List (Addr×Obj)) (s:Shared) (σ:St) (H:Hp) (Q:Option Int->Hp->Prop),Inv X pins σ H s->t σ H Q->
  wpAny (model X.prog X.w) X.A (evalPart e X.env) (fun u s'=>∃o H',Inv X pins σ H' s'/\IsPart u o/\Q o H') X.xe s
def Zn7(t:TE):TO:=fun σ H Q=>t σ H fun x H1=>∃i,x=.int i/\Q (some i) H1
section
variable {X:Cx} {e:Expr} {te:TE} {lo hi:Option Expr} {tl th:TO} {pos p2:Pos}
theorem Zi3(h:PE X e te):PO X (some e) (Zn7 te):=by
 intro pins s σ H Q I hw;rw[evalPart_some];refine thn (h pins s σ H _ I hw) fun u s1 ⟨x,H1,I1,r1,q1⟩=> ?_;obtain⟨i,rfl,q⟩:=q1;obtain⟨t,rfl⟩:=r1;exact⟨some i,H1,I1,.int i t,q⟩
def SlR(X:Cx)(r:V->Option Int->Option Int->Hp->VK->Prop):Prop:=
 ∀(pins:List (Addr×Obj)) (s:Shared) (σ:St) (H:Hp) (x:V) (v vl vu:Value) (lo hi:Option Int) (sl:Addr) (Q:VK),Inv X pins σ H s->ZR x v->s.heap.IsSliceOf sl vl vu .none->IsPart vl lo->IsPart vu hi->r x lo hi H Q->
  ∃T id,typeLookup (.type T) "__getitem__"=pure (some (.builtin id))/\s.TypeIs v T/\wpAny (model X.prog X.w) X.A (getItem v (.ref sl)) (EP X pins σ Q) X.xe s
def tSl(r:V->Option Int->Option Int->Hp->VK->Prop)(te:TE)(tl th:TO):TE:=fun σ H Q=>te σ H fun x H1=>tl σ H1 fun l H2=>th σ H2 fun u H3=>r x l u H3 Q
theorem Zjv{r:V->Option Int->Option Int->Hp->VK->Prop}(hr:SlR X r)(he:PE X e te)(hl:PO X lo tl)(hu:PO X hi th):PE X (.Subscript e (.Slice lo hi none p2) pos) (tSl r te tl th):=by
 intro pins s σ H Q I h;refine Subscript_ (thn (he pins s σ H _ I h) fun v s1 ⟨x,H1,I1,r1,q1⟩=> ?_);refine wpAny_Slice (thn (hl pins s1 σ H1 _ I1 q1) fun vl s2 ⟨l,H2,I2,pl,q2⟩=>thn (hu pins s2 σ H2 _ I2 q2) fun vu s3 ⟨u,H3,I3,pu,q3⟩=> ?_);rw[evalPart_none];refine wpAny_pure ?_;have I4:Inv X pins σ H3 {s3 with heap:=s3.heap.push {cls:=.type "slice",data:=.fields #[vl,vu,.none]}}:=I3.kept (t':=s3.toks) fun b ob q=>Heap.get?_push_of_some _ q
 obtain⟨T,id,hT,ht,hg⟩:=hr pins {s3 with heap:=s3.heap.push {cls:=.type "slice",data:=.fields #[vl,vu,.none]}} σ H3 x v vl vu l u s3.heap.objs.size Q I4 r1 (Heap.IsSliceOf.new ..) pl pu q3;show wpAny (model X.prog X.w) X.A (subscriptTail e (.Slice lo hi none p2) v (.ref s3.heap.objs.size)) (EP X pins σ Q) X.xe {s3 with heap:=s3.heap.push {cls:=.type "slice",data:=.fields #[vl,vu,.none]}};exact tail_any (ops:=[.ref s3.heap.objs.size,v]) ht hT hg (by with_unfolding_all rfl)
def ZiH(xs:List V)(lo hi:Option Int):List V:=(xs.drop (HT.sIx xs.length 0 lo)).take (HT.sIx xs.length xs.length hi-HT.sIx xs.length 0 lo)
theorem Zgk(xs:List V)(lo hi:Option Int):(ZiH xs lo hi).length<=xs.length:=by
 unfold ZiH;rw[List.length_take,List.length_drop];omega
end
end L2
namespace L2
open PySem PySem.Spec PyProof.Rows
def ixN(n:Nat)(i:Int):Option Nat:=if 0<=i then(if i<n then some i.toNat else none) else if-(n:Int)<=i then some (i+n).toNat else none
def atI{α:Type}(xs:List α)(i:Int):Option α:=(ixN xs.length i).bind fun j=>xs[j]?
theorem Zl0{n:Nat}{i:Int}{j:Nat}(h:ixN n i=some j):seqIndex? i n=some j/\j<n/\-(n:Int)<=i/\i<n:=by
 unfold ixN at h
 by_cases h0:0<=i
 ·rw[if_pos h0] at h
  by_cases h1:i<n
  ·rw[if_pos h1] at h
   have e:i.toNat=j:=Option.some.inj h;exact⟨by rw[seqIndex_of h0 h1,e],by omega,by omega,h1⟩
  ·rw[if_neg h1] at h;cases h
 ·rw[if_neg h0] at h
  by_cases h1: -(n:Int)<=i
  ·rw[if_pos h1] at h
   have e:(i+n).toNat=j:=Option.some.inj h;exact⟨by rw[seqIndex_neg (by omega) h1,e],by omega,h1,by omega⟩
  ·rw[if_neg h1] at h;cases h
theorem Zco{α:Type}{xs:List α}{i:Int}{v:α}(h:atI xs i=some v):∃j,seqIndex? i xs.length=some j/\xs[j]? =some v/\j<xs.length/\-(xs.length:Int)<=i/\i<xs.length:=by
 unfold atI at h
 cases e:ixN xs.length i with
 |none=>rw[e] at h;cases h
 |some j=>
  rw[e] at h
  obtain⟨h1,h2,h3,h4⟩:=Zl0 e;exact⟨j,h1,h,h2,h3,h4⟩
def Zl1(b:Expr):Prop:=∀o i,subscripted b false o i=operate [o,i] (getItem o i)
def IxR(X:Cx)(r:R2):Prop:=
 ∀(value slice:Expr) (pins:List (Addr×Obj)) (s:Shared) (σ:St) (H:Hp) (x y:V) (v u:Value) (Q:VK),Inv X pins σ H s->ZR x v->ZR y u->r x y H Q->
  subscripted slice false v u=operate [v,u] (getItem v u)->wpAny (model X.prog X.w) X.A (subscriptTail value slice v u) (EP X pins σ Q) X.xe s
def MtR(X:Cx)(id:String)(r:V->List V->Hp->VK->Prop):Prop:=
 ∀(pins:List (Addr×Obj)) (s:Shared) (σ:St) (H:Hp) (x:V) (xs:List V) (v:Value) (us:List Value) (Q:VK),Inv X pins σ H s->ZR x v->ZW xs us->r x xs H Q->
  wpAny (model X.prog X.w) X.A (call (.builtin id) (v::us)) (EP X pins σ Q) X.xe s
section
variable {X:Cx} {a b:Expr} {ta tb:TE} {pos:Pos}
theorem YH{r:R2}(hr:IxR X r)(ha:PE X a ta)(hb:PE X b tb)(hs:Zl1 b):PE X (.Subscript a b pos) (tOp r ta tb):=by
 intro pins s σ H Q I h;exact Subscript_ (Zm6 ha hb I h fun v u s2 x y H2 I2 rx ry q=>hr a b pins s2 σ H2 x y v u Q I2 rx ry q (hs _ _))
def ZnU(K:PySem.W.Frag):R2:=fun x y H Q=>∃p xs i v,x=.ref p/\y=.int i/\SqL K H p xs/\atI xs i=some v/\Q v H
def Zn8(K:PySem.W.Frag):R2:=fun x y H Q=>∃p xs i v,x=.ref p/\y=.int i/\SqT K H p xs/\atI xs i=some v/\Q v H
def ZnV:R2:=fun x y H Q=>∃z i c,x=.str z/\y=.int i/\z.length<=sizeLine/\atI z.cps.toList i=some c/\Q (.str ⟨#[c]⟩) H
theorem ZaI:IxR X (ZnU X.K):=by
 intro value slice pins s σ H x y v u Q I rx ry h hs;obtain⟨p,xs,i,z,rfl,rfl,hq,he,q⟩:=h;cases rx;obtain⟨t,rfl⟩:=ry;obtain⟨its,r,pl,hz⟩:=I.list hq;obtain⟨j,h1,h2,h3,h4,h5⟩:=Zco he;obtain⟨w,ew,rw'⟩:=r.get h2;have hl:=r.length;have hn:=Zfu;have fin:EP X pins σ Q w s:=⟨z,H,I,rw',q⟩
 by_cases h0:0<=i
 ·have hj:i.toNat=j:=by
   rw[seqIndex_of h0 h5] at h1
   exact Option.some.inj h1
  exact item_listR pl.isList h0 (by omega) (by rw[hj];simpa using ew) fin hs
 ·have hj:(i+(its.toArray.size:Int)).toNat=j:=by
   rw[seqIndex_neg (by omega) h4] at h1
   rw[List.size_toArray,<-hl];exact Option.some.inj h1
  exact subscriptTail_builtinR (x:=w) pl.isList.typeIs slot_list_getitem.lookup
   (wpAny_getItem_list_neg (Q:=fun r s'=>r=w/\EP X pins σ Q r s') pl.isList (by omega) (by rw[List.size_toArray]<;>omega) (by omega) (by rw[hj];simpa using ew) ⟨rfl,fin⟩) hs
theorem YJ:IxR X (Zn8 X.K):=by
 intro value slice pins s σ H x y v u Q I rx ry h hs;obtain⟨p,xs,i,z,rfl,rfl,hq,he,q⟩:=h;cases rx;obtain⟨t,rfl⟩:=ry;obtain⟨its,r,pl,hz⟩:=I.tuple hq;obtain⟨j,h1,h2,h3,h4,h5⟩:=Zco he;obtain⟨w,ew,rw'⟩:=r.get h2;have hl:=r.length;have hn:=Zfu;have fin:EP X pins σ Q w s:=⟨z,H,I,rw',q⟩
 exact subscriptTail_builtinR (x:=w) pl.typeIs slot_tuple_getitem.lookup
  (getItem_tuple (j:=j) (Q:=fun r s'=>r=w/\EP X pins σ Q r s') pl (by omega) (by omega) (by rw[List.size_toArray,<-hl];exact h1) (by simpa using ew) ⟨rfl,fin⟩) hs
theorem Zjw:IxR X ZnV:=by
 intro value slice pins s σ H x y v u Q I rx ry h hs;obtain⟨z,i,c,rfl,rfl,hz,he,q⟩:=h;obtain⟨t,rfl⟩:=rx;obtain⟨t',rfl⟩:=ry;obtain⟨j,h1,h2,h3,h4,h5⟩:=Zco he;have hl:z.cps.toList.length=z.length:=by simp[Str.length]
 rw[hl] at h1 h4 h5
 have hn:=Zfu;exact tail_any (typeIs_str s z t) slot_str_getitem.lookup (getItem_str (c:=c) (by
  have e1:decide (i< -(2^63:Int))=false:=decide_eq_false (by omega);have e2:decide (i≥2^63)=false:=decide_eq_false (by omega);rw[e1,e2,Bool.or_false]) (by rw[h1];simpa using h2) ⟨.str ⟨#[c]⟩,H,I.tok _,⟨_,rfl⟩,q⟩) hs
theorem Zfx(lo hi:Option Int)(n:Nat):(sliceBounds lo hi none n).1=((HT.sIx n 0 lo:Nat):Int)/\(sliceBounds lo hi none n).2.1=((HT.sIx n n hi:Nat):Int)/\(sliceBounds lo hi none n).2.2=1:=by
 refine⟨?_, ?_,rfl⟩
 ·cases lo with
  |none=>simp[sliceBounds,HT.sIx]
  |some i=>
   simp only [sliceBounds,HT.sIx,Option.getD_none,show(1:Int)>0 by decide,if_true]
   by_cases h:i<0
   ·simp only [h,if_true]<;>omega
   ·simp only [h,if_false]<;>omega
 ·cases hi with
  |none=>simp[sliceBounds,HT.sIx]
  |some i=>
   simp only [sliceBounds,HT.sIx,Option.getD_none,show(1:Int)>0 by decide,if_true]
   by_cases h:i<0
   ·simp only [h,if_true]<;>omega
   ·simp only [h,if_false]<;>omega
theorem ZeM(its:List Value)(lo hi:Option Int):slicePick its.toArray lo hi none=((its.drop (HT.sIx its.length 0 lo)).take (HT.sIx its.length its.length hi-HT.sIx its.length 0 lo)).toArray:=by
 obtain⟨h1,h2,h3⟩:=Zfx lo hi its.toArray.size;unfold slicePick;rw[h1,h2,h3];simp only [sliceRange_one,pick_run,List.size_toArray]<;>rfl
def ZnW(K:PySem.W.Frag):V->Option Int->Option Int->Hp->VK->Prop:=fun x lo hi H Q=>∃a xs,x=.ref a/\SqL K H a xs/\∀p,H p=none->Q (.ref p) (upd H p (.lst (ZiH xs lo hi)))
theorem Zl2:SlR X (ZnW X.K):=by
 intro pins s σ H x v vl vu lo hi sl Q I rx hs pl pu h;obtain⟨a,xs,rfl,hx,q⟩:=h;cases rx;obtain⟨its,r,ht,hz⟩:=I.list hx;have hlen:=r.length;refine⟨"list",_,slot_list_getitem.lookup,ht.isList.typeIs, ?_⟩;refine wpAny_getItem_list_slice ht.isList hs pl pu .none (by simp) ?_ (by rw[List.size_toArray]<;>omega)
 rw[ZeM,<-hlen];refine⟨.ref s.heap.objs.size,_,I.laid (t':=s.toks) (o:=.lst (ZiH xs lo hi)) (fun b ob q=>Heap.get?_push_of_some _ q) (Nat.le_refl _) ?_,rfl,q _ (I.hok.fresh (Nat.le_refl _))⟩;exact⟨Nat.le_trans (Zgk xs lo hi) hz,_,0,(r.drop (HT.sIx xs.length 0 lo)).take (HT.sIx xs.length xs.length hi-HT.sIx xs.length 0 lo),Heap.get?_push_size _ rfl⟩
def Xi:V->Bool
 | .non=>true
 | .bl _=>true
 | .int _=>true
 | .str _=>true
 |_=>false
def eqV:V->V->Bool
 | .non,.non=>true
 | .bl a,.bl b=>a==b
 | .bl a,.int b=>(if a then 1 else 0)==b
 | .int a,.bl b=>a==(if b then 1 else 0)
 | .int a,.int b=>a==b
 | .str a,.str b=>a==b
 |_,_=>false
theorem Zhd{A:Around}{s:Shared}{y x:V}{u v:Value}(ry:ZR y u)(rx:ZR x v)(fy:Xi y=true)(fx:Xi x=true):SeqAt.EqAt A s u v (eqV y x):=by
 cases y with
 |non=>
  cases ry;cases x with
  |non=>cases rx;exact SeqAt.EqAt.same _
  |bl b=>cases rx;exact SeqAt.EqAt.none_bool b
  |int b=>obtain⟨t,rfl⟩:=rx;exact SeqAt.EqAt.none_int b t
  |str b=>obtain⟨t,rfl⟩:=rx;exact SeqAt.EqAt.none_str b t
  |_=>exact absurd (show false=true from fx) Bool.false_ne_true
 |bl a=>
  cases ry;cases x with
  |non=>cases rx;exact SeqAt.EqAt.bool_none a
  |bl b=>cases rx;exact SeqAt.EqAt.bool_bool a b
  |int b=>obtain⟨t,rfl⟩:=rx;exact SeqAt.EqAt.bool_int a b t
  |str b=>obtain⟨t,rfl⟩:=rx;exact SeqAt.EqAt.bool_str a b t
  |_=>exact absurd (show false=true from fx) Bool.false_ne_true
 |int a=>
  obtain⟨t',rfl⟩:=ry;cases x with
  |non=>cases rx;exact SeqAt.EqAt.int_none a t'
  |bl b=>cases rx;exact SeqAt.EqAt.int_bool a t' b
  |int b=>obtain⟨t,rfl⟩:=rx;exact SeqAt.EqAt.int_int a t' b t
  |str b=>obtain⟨t,rfl⟩:=rx;exact SeqAt.EqAt.int_str a t' b t
  |_=>exact absurd (show false=true from fx) Bool.false_ne_true
 |str a=>
  obtain⟨t',rfl⟩:=ry;cases x with
  |non=>cases rx;exact SeqAt.EqAt.str_none a t'
  |bl b=>cases rx;exact SeqAt.EqAt.str_bool a t' b
  |int b=>obtain⟨t,rfl⟩:=rx;exact SeqAt.EqAt.str_int a t' b t
  |str b=>obtain⟨t,rfl⟩:=rx;exact SeqAt.EqAt.str_str a t' b t
  |_=>exact absurd (show false=true from fx) Bool.false_ne_true
 |_=>exact absurd (show false=true from fy) Bool.false_ne_true
def eqU(x:V)(u:Value):Bool:=match u with
 | .none=>eqV .non x
 | .bool b=>eqV (.bl b) x
 | .int i _=>eqV (.int i) x
 | .str z _=>eqV (.str z) x
 |_=>false
theorem Zjx{x y:V}{u:Value}(r:ZR y u)(f:Xi y=true):eqU x u=eqV y x:=by
 cases y with
 |non=>cases r;rfl
 |bl b=>cases r;rfl
 |int i=>obtain⟨t,rfl⟩:=r;rfl
 |str z=>obtain⟨t,rfl⟩:=r;rfl
 |_=>exact absurd (show false=true from f) Bool.false_ne_true
theorem Zfy{x:V}:∀{xs:List V} {us:List Value},ZW xs us->xs.all Xi=true->us.any (eqU x)=xs.any fun y=>eqV y x
 |_,_,.nil,_=>rfl
 |y::xs,u::us,.cons r t,f=>by
  rw[List.all_cons,Bool.and_eq_true] at f
  rw[List.any_cons,List.any_cons,Zjx r f.1,Zfy t f.2]
theorem Ze9{A:Around}{s:Shared}{x:V}{v:Value}(rx:ZR x v)(fx:Xi x=true):∀{xs:List V} {us:List Value},ZW xs us->xs.all Xi=true->∀u∈us,SeqAt.EqAt A s u v (eqU x u)
 |_,_,.nil,_=>fun u hu=>by cases hu
 |y::xs,u::us,.cons r t,f=>fun u' hu=>by
  rw[List.all_cons,Bool.and_eq_true] at f
  rcases List.mem_cons.mp hu with rfl|hu
  ·rw[Zjx r f.1];exact Zhd r rx f.1 fx
  ·exact Ze9 rx fx t f.2 u' hu
def inV(x:V)(xs:List V):Bool:=xs.any fun y=>eqV y x
def rIn(K:PySem.W.Frag)(neg:Bool):R2:=fun x y H Q=>∃p xs,y=.ref p/\(SqL K H p xs\/SqT K H p xs)/\Xi x=true/\xs.all Xi=true/\Q (.bl (if neg then !inV x xs else inV x xs)) H
theorem Zf4:OpR X (compareOp .In) (rIn X.K false):=by
 intro pins s σ H x y v u Q I rx ry h;obtain⟨p,xs,rfl,hq,fx,fs,q⟩:=h;cases ry;rcases hq with hq|hq
 ·obtain⟨its,r,pl,hz⟩:=I.list hq;refine SeqAt.in_listAt (eqU x) pl.isList (fun w hw=>Ze9 rx fx r fs w (by simpa using hw)) ⟨.bl _,H,I,rfl, ?_⟩;rw[show its.toArray.any (eqU x)=its.any (eqU x) by simp,Zfy r fs];exact q
 ·obtain⟨its,r,pl,hz⟩:=I.tuple hq;refine SeqAt.in_tupleAt (eqU x) pl (fun w hw=>Ze9 rx fx r fs w (by simpa using hw)) ⟨.bl _,H,I,rfl, ?_⟩;rw[show its.toArray.any (eqU x)=its.any (eqU x) by simp,Zfy r fs];exact q
def tyV(K:PySem.W.Frag)(T:String)(x:V)(H:Hp):Prop:=match x with
 | .str _=>T="str"
 | .int _=>T="int"
 | .ref p=>(T="list"/\∃xs,SqL K H p xs)\/(T="tuple"/\∃o,K.lookup p=some o/\o.cls=.type "tuple"/\o.dict=none)\/
   (T="dict"/\((∃kvs,H p=some (.dK kvs))\/∃kvs,H p=some (.dT kvs)))\/(T="set"/\∃S n,H p=some (.set S n))
 |_=>False
theorem Zhe{pins:List (Addr×Obj)}{σ:St}{H:Hp}{s:Shared}{T:String}{x:V}{v:Value}(I:Inv X pins σ H s)(r:ZR x v)(ty:tyV X.K T x H):
  s.TypeIs v T/\∀a,v=.ref a->∃ob,s.heap.get? a=some ob/\ob.dict=none:=by
 cases x with
 |str z=>
  obtain⟨t,rfl⟩:=r;cases(show T="str" from ty);exact⟨typeIs_str s z t,fun _ e=>nomatch e⟩
 |int i=>
  obtain⟨t,rfl⟩:=r;cases(show T="int" from ty);exact⟨typeIs_int s i t,fun _ e=>nomatch e⟩
 |ref p=>
  cases r;rcases ty with ⟨rfl,xs,hq⟩|⟨rfl,o,hk,hc,hd⟩|⟨rfl,hk⟩|⟨rfl,S,n,hk⟩
  ·obtain⟨its,_,pl,_⟩:=I.list hq;refine⟨pl.isList.typeIs,fun a e=> ?_⟩;cases e;obtain⟨o,n,e,c,hd,_⟩:=pl;exact⟨o,e,hd⟩
  ·refine⟨⟨o,I.kIn p o hk,hc⟩,fun a e=> ?_⟩;cases e;exact⟨o,I.kIn _ o hk,hd⟩
  ·have z:∃o,s.heap.get? p=some o/\o.ExactDict:=by
    rcases hk with ⟨kvs,hk⟩|⟨kvs,hk⟩
    ·obtain⟨_,_,_,_,o,_,_,e,ex,_⟩:=I.hok p _ hk;exact⟨o,e,ex⟩
    ·obtain⟨_,_,_,_,o,_,_,e,ex,_⟩:=I.hok p _ hk;exact⟨o,e,ex⟩
   obtain⟨o,e,ex⟩:=z;refine⟨⟨o,e,ex.1⟩,fun a e2=> ?_⟩;cases e2;exact⟨o,e,ex.2.1⟩
  ·obtain⟨o,_,_,_,e,ex,_⟩:=I.hok p _ hk;refine⟨⟨o,e,ex.1⟩,fun a e2=> ?_⟩;cases e2;exact⟨o,e,ex.2.1⟩
 |_=>exact False.elim ty
def ZnX(K:PySem.W.Frag)(T:String)(r:V->List V->Hp->VK->Prop)(to:TE):TE:=fun σ H Q=>to σ H fun x H1=>tyV K T x H1/\r x [] H1 Q
def tBM(K:PySem.W.Frag)(T:String)(r:V->List V->Hp->VK->Prop)(to:TE)(t:TA):TE:=fun σ H Q=>to σ H fun x H1=>tyV K T x H1/\t σ H1 fun xs H2=>r x xs H2 Q
variable {o e:Expr} {es:List Expr} {to:TE} {t:TA} {name:Str} {apos cpos:Pos} {T id:String} {r:V->List V->Hp->VK->Prop}
theorem Zfz(pa:PlainAttrs T)(slot:Slot T name id)(hty:typeOf (.builtin id)=pure (.type "method_descriptor"))(hm:MtR X id r)(ho:PE X o to)
  (hbase:attributeBase o name X.env (eval o X.env)=eval o X.env:=by rfl)(hline:(apos.endLine==cpos.line)=true:=by rfl):PE X (.Call (.Attribute o name apos) [] [] cpos) (ZnX X.K T r to):=by
 intro pins s σ H Q I h;refine wpAny_Call_method0_late hbase hline (thn (ho pins s σ H _ I h) fun v s1 ⟨x,H1,I1,r1,ty,q1⟩=> ?_);obtain⟨h1,h2⟩:=Zhe I1 r1 ty;exact⟨T,id,pa,slot,hty,h1,h2,Calls.callWith_builtin rfl (PySem.evalArgs_none (hm pins s1 σ H1 x [] v [] Q I1 r1 .nil q1))⟩
theorem ZbT(pa:PlainAttrs T)(slot:Slot T name id)(hty:typeOf (.builtin id)=pure (.type "method_descriptor"))(hm:MtR X id r)(ho:PE X o to)(ha:PA X (e::es) t)
  (hbase:attributeBase o name X.env (eval o X.env)=eval o X.env:=by rfl)
  (hfew:((backTo cpos (starEach (e::es) X.env)).all (fun x=> !x.1)&&(backToKw cpos (keywordEach [] X.env)).all (fun x=>x.1.isSome)
   &&decide ((e::es).length+([]:List Keyword).length+(if([]:List Keyword).isEmpty then 0 else 1)<30))=true:=by rfl)
  (hline:(apos.endLine==cpos.line)=true:=by rfl)(hs:starEach (e::es) X.env=(false,eval e X.env)::starEach es X.env:=by rfl)(hplain:(backTo cpos (starEach es X.env)).any (·.1)=false:=by rfl):
  PE X (.Call (.Attribute o name apos) (e::es) [] cpos) (tBM X.K T r to t):=by
 intro pins s σ H Q I h;refine wpAny_Call_method_late hbase hfew hline rfl (thn (ho pins s σ H _ I h) fun v s1 ⟨x,H1,I1,r1,ty,q1⟩=> ?_);obtain⟨h1,h2⟩:=Zhe I1 r1 ty;refine⟨T,id,pa,slot,hty,h1,h2, ?_⟩;have hA:=ha cpos pins s1 σ H1 _ I1 q1;rw[hs] at hA⊢
 refine Calls.callWith_builtin (by show(false||(backTo cpos (starEach es X.env)).any (·.1))=false;rw[hplain]<;>rfl) (Calls.evalArgs_plain ?_)
 exact thn hA fun us s2 ⟨vs,H2,I2,r2,q2⟩=>hm pins s2 σ H2 x vs v us Q I2 r1 r2 q2
end
end L2
namespace L2
open PySem PySem.Spec PyProof.Rows
def MtM(X:Cx)(id:String)(r:V->List V->Hp->VK->Prop):Prop:=
 ∀(pins:List (Addr×Obj)) (s:Shared) (σ:St) (H:Hp) (x:V) (xs:List V) (v:Value) (us:List Value) (Q:VK),Inv X pins σ H s->ZR x v->ZW xs us->r x xs H Q->
  wpAny (model X.prog X.w) X.A (call (.builtin id) (v::us)) (EP X pins σ Q) X.xe s
theorem ZW.one:∀{x:V} {us:List Value},ZW [x] us->∃u,us=[u]/\ZR x u
 |_,_,.cons r .nil=>⟨_,rfl,r⟩
theorem ZW.zero:∀{us:List Value},ZW [] us->us=[]
 |_,.nil=>rfl
theorem ZW.dropLast{xs:List V}{us:List Value}(h:ZW xs us):ZW xs.dropLast us.dropLast:=by
 induction h with
 |nil=>exact .nil
 |cons r t ih=>
  cases t with
  |nil=>exact .nil
  |cons q t'=>exact .cons r ih
theorem Zhf{α:Type}(l:List α):l.eraseIdx (l.length-1)=l.dropLast:=by
 induction l with
 |nil=>rfl
 |cons a r ih=>
  cases r with
  |nil=>rfl
  |cons b r=>
   have e:(a::b::r).length-1=((b::r).length-1)+1:=by
    have h1:(a::b::r).length=r.length+2:=rfl;have h2:(b::r).length=r.length+1:=rfl;omega
   rw[e,List.eraseIdx_cons_succ,ih]
   all_goals rfl
section
variable {X:Cx} {pins:List (Addr×Obj)} {σ:St} {H:Hp} {s:Shared} {l b:Addr} {xs ys zs:List V}
theorem Inv.lset{its its':List Value}{n:Nat}{f:Array Value->Array Value}{t':Nat}(I:Inv X pins σ H s)(hH:H l=some (.lst xs))
  (e:s.heap.get? l=some {cls:=.type "list",data:=.seq its.toArray n})(hf:f its.toArray=its'.toArray)(hv:ZW ys its')(hz:ys.length<=sizeLine):
  Inv X pins σ (upd H l (.lst ys)) {s with heap:=s.heap.update l (Obj.mapSeq f),toks:=t'}:=by
 have q:=PySem.IsL.update e f;rw[hf] at q
 refine I.write (x:=l) (e:=l) (by rw[hH];exact trivial) (.inl rfl) (fun b' u hb hu=>(Heap.get?_update_other s.heap (Obj.mapSeq f) (Ne.symm hb)).trans hu) ⟨_,q⟩ ?_
 exact⟨hz,its',_,hv,q⟩
theorem Inv.lnew{its:List Value}{t':Nat}(I:Inv X pins σ H s)(hv:ZW ys its)(hz:ys.length<=sizeLine):
  Inv X pins σ (upd H s.heap.objs.size (.lst ys)) {s with heap:=s.heap.push {cls:=.type "list",data:=.seq its.toArray},toks:=t'}:=
 I.laid (fun _ _ q=>Heap.get?_push_of_some _ q) (Nat.le_refl _) ⟨hz,its,0,hv,Heap.get?_push_size _ rfl⟩
theorem Inv.fresh(I:Inv X pins σ H s):H s.heap.objs.size=none:=I.hok.fresh (Nat.le_refl _)
theorem Inv.lstM(I:Inv X pins σ H s)(hH:H l=some (.lst xs)):xs.length<=sizeLine/\∃(its:List Value) (n:Nat),ZW xs its/\xs.length=its.length/\s.heap.get? l=some {cls:=.type "list",data:=.seq its.toArray n}:=by
 obtain⟨z,its,n,r,e⟩:=I.hok l _ hH;exact⟨z,its,n,r,r.length,e⟩
theorem Zjy{n:Nat}(h:n<=sizeLine):Builtin.List.listTooLong n=false:=by
 unfold Builtin.List.listTooLong;exact decide_eq_false (by omega)
end
section
variable {X:Cx}
def Zl3:V->List V->Hp->VK->Prop:=fun x vs H Q=>∃l xs y,x=.ref l/\vs=[y]/\H l=some (.lst xs)/\xs.length<sizeLine/\Q .non (upd H l (.lst (xs++[y])))
theorem Xq:MtM X "list.append" Zl3:=by
 intro pins s σ H x vs v us Q I rx rv h;obtain⟨l,xs,y,rfl,rfl,hH,hz,q⟩:=h;cases rx;obtain⟨u,rfl,ru⟩:=rv.one;obtain⟨z,its,n,r,hl,e⟩:=I.lstM hH;refine call_meets F.slot_list_append ⟨_,e,rfl⟩ F.entry_list_append (F.args_list_append_2 _ _) (PySem.list_append l its.toArray n u (by rw[List.size_toArray];omega)) ⟨e, ?_⟩
 refine⟨.non,_,I.lset (its':=its++[u]) hH e (by simp) (r.append (.cons ru .nil)) ?_,rfl,q⟩;rw[List.length_append,List.length_singleton];omega
def Zl4:V->List V->Hp->VK->Prop:=fun x vs H Q=>∃l b xs zs,x=.ref l/\vs=[.ref b]/\H l=some (.lst xs)/\H b=some (.lst zs)/\xs.length+zs.length<=sizeLine/\Q .non (upd H l (.lst (xs++zs)))
theorem ZiI:MtM X "list.extend" Zl4:=by
 intro pins s σ H x vs v us Q I rx rv h;obtain⟨l,b,xs,zs,rfl,rfl,hH,hB,hz,q⟩:=h;cases rx;obtain⟨u,rfl,ru⟩:=rv.one;cases ru;obtain⟨z,its,n,r,hl,e⟩:=I.lstM hH;obtain⟨z2,its2,n2,r2,hl2,e2⟩:=I.lstM hB;have hsz:its.toArray.size+its2.toArray.size<=sizeLine:=by rw[List.size_toArray,List.size_toArray];omega
 have hlong:¬(!its.toArray.isEmpty&&Builtin.List.listTooLong (its.toArray.size+its2.toArray.size))=true:=by
  rw[Zjy hsz,Bool.and_false];exact Bool.false_ne_true
 refine call_meets F.slot_list_extend ⟨_,e,rfl⟩ F.entry_list_extend (F.args_list_extend_2 _ _)
  (AutoSeq1.list_extend_list_list_0 l its.toArray n b its2.toArray n2 hlong (by rw[List.size_toArray];omega) (by omega)) ⟨e,e2, ?_⟩
 refine⟨.non,_,I.lset (its':=its++its2) hH e (by simp) (r.append r2) ?_,rfl,q⟩;rw[List.length_append];omega
def Zn9:V->List V->Hp->VK->Prop:=fun x vs H Q=>∃l xs y,x=.ref l/\vs=[]/\H l=some (.lst xs)/\xs[xs.length-1]? =some y/\Q y (upd H l (.lst xs.dropLast))
theorem ZfA:MtM X "list.pop" Zn9:=by
 intro pins s σ H x vs v us Q I rx rv h;obtain⟨l,xs,y,rfl,rfl,hH,hy,q⟩:=h;cases rx;have hus:=rv.zero;subst hus;obtain⟨z,its,n,r,hl,e⟩:=I.lstM hH;obtain⟨u,hu,ru⟩:=r.get hy;have hy':its.toArray[its.toArray.size-1]? =some u:=by
  show its.toArray[its.length-1]? =some u;rw[<-Array.getElem?_toList,<-hl];exact hu
 refine call_meets F.slot_list_pop ⟨_,e,rfl⟩ F.entry_list_pop (F.args_list_pop_1 _) (MeetsSeq.list_pop_last l its.toArray n u hy' (by rw[List.size_toArray];omega)) ⟨e, ?_⟩
 refine⟨y,_,I.lset (its':=its.dropLast) hH e ?_ r.dropLast ?_,ru,q⟩
 ·show its.toArray.eraseIdxIfInBounds (its.toArray.size-1)=its.dropLast.toArray;rw[List.size_toArray,List.eraseIdxIfInBounds_toArray,Zhf]
 ·rw[List.length_dropLast];omega
end
section
variable {prog:Program} {w:World} {A:Around} {E:Value->Shared->Prop} {s:Shared}
end
section
variable {X:Cx}
end
end L2
namespace L2
open PySem PySem.Spec PyProof.Rows
section
variable {κ:Type} [DecidableEq κ]
def ZaJ(kvs:List (κ×V))(k:κ):Option V:=(kvs.find? fun kv=>decide (kv.1=k)).map (·.2)
def Zb7(kvs:List (κ×V))(k:κ)(v:V):List (κ×V):=
 if(kvs.any fun kv=>decide (kv.1=k))=true then kvs.map (fun kv=>if kv.1=k then(kv.1,v) else kv) else kvs++[(k,v)]
theorem Zb8{p:κ×V}{r:List (κ×V)}{k:κ}(e:p.1=k):ZaJ (p::r) k=some p.2:=by simp[ZaJ,List.find?_cons,e]
theorem Zb9{p:κ×V}{r:List (κ×V)}{k:κ}(e:¬p.1=k):ZaJ (p::r) k=ZaJ r k:=by simp[ZaJ,List.find?_cons,e]
theorem Zgl(k:κ):∀kvs:List (κ×V),(kvs.any fun kv=>decide (kv.1=k))=(ZaJ kvs k).isSome
 |[]=>rfl
 |p::r=>by
  rw[List.any_cons]
  by_cases e:p.1=k
  ·simp only [Zb8 e,decide_eq_true e,Bool.true_or,Option.isSome_some]
  ·rw[Zb9 e,decide_eq_false e,Bool.false_or];exact Zgl k r
theorem Zba(kvs:List (κ×V))(k:κ)(v:V):(Zb7 kvs k v).length<=kvs.length+1:=by
 unfold Zb7
 split
 ·rw[List.length_map];omega
 ·rw[List.length_append,List.length_cons,List.length_nil];omega
theorem Zb5.isSome_eq{o:Option V}{u:Option Value}(r:Zb5 o u):o.isSome=u.isSome:=by
 cases o with
 |none=>cases u with
  |none=>rfl
  |some _=>exact(show False from r).elim
 |some _=>cases u with
  |none=>exact(show False from r).elim
  |some _=>rfl
theorem Zb5.getD{o:Option V}{u:Option Value}{d:V}{d':Value}(r:Zb5 o u)(rd:ZR d d'):ZR (o.getD d) (u.getD d'):=by
 cases o with
 |none=>cases u with
  |none=>exact rd
  |some _=>exact(show False from r).elim
 |some _=>cases u with
  |none=>exact(show False from r).elim
  |some _=>exact r
theorem KV.val{kvs:List (κ×V)}{vs:List (κ×Value)}(r:KV kvs vs)(k:κ):Zb5 (ZaJ kvs k) (valueAt vs k):=by
 unfold KV at r
 induction r with
 |nil=>exact True.intro
 | @cons p q ps qs h t ih=>
  obtain⟨h1,h2⟩:=h
  by_cases e:p.1=k
  ·have e':q.1=k:=h1.symm.trans e;have b:valueAt (q::qs) k=some q.2:=by simp[valueAt,List.find?_cons,e']
   rw[Zb8 e,b];exact h2
  ·have e':¬q.1=k:=fun z=>e (h1.trans z);have b:valueAt (q::qs) k=valueAt qs k:=by simp[valueAt,List.find?_cons,e']
   rw[Zb9 e,b];exact ih
theorem KV.any{kvs:List (κ×V)}{vs:List (κ×Value)}(r:KV kvs vs)(k:κ):(kvs.any fun kv=>decide (kv.1=k))=vs.any fun kv=>decide (kv.1=k):=by
 unfold KV at r
 induction r with
 |nil=>rfl
 |cons h t ih=>rw[List.any_cons,List.any_cons,ih,h.1]
theorem KV.repl{kvs:List (κ×V)}{vs:List (κ×Value)}(r:KV kvs vs)(k:κ){y:V}{u:Value}(ry:ZR y u):
  KV (kvs.map fun kv=>if kv.1=k then(kv.1,y) else kv) (vs.map fun kv=>if kv.1=k then(kv.1,u) else kv):=by
 unfold KV at r⊢
 induction r with
 |nil=>exact .nil
 | @cons p q ps qs h t ih=>
  rw[List.map_cons,List.map_cons];refine .cons ?_ ih;obtain⟨h1,h2⟩:=h
  by_cases e:p.1=k
  ·rw[if_pos e,if_pos (h1.symm.trans e)];exact⟨h1,ry⟩
  ·rw[if_neg e,if_neg (fun z=>e (h1.trans z))];exact⟨h1,h2⟩
theorem KV.put{kvs:List (κ×V)}{vs:List (κ×Value)}(r:KV kvs vs)(k:κ){y:V}{u:Value}(ry:ZR y u):KV (Zb7 kvs k y) (stored vs k u):=by
 unfold Zb7 stored;rw[r.any k]
 by_cases e:(vs.any fun kv=>decide (kv.1=k))=true
 ·rw[if_pos e,if_pos e];exact r.repl k ry
 ·rw[if_neg e,if_neg e];exact Paired.snoc r ⟨rfl,ry⟩
theorem KV.keys{kvs:List (κ×V)}{vs:List (κ×Value)}(r:KV kvs vs):kvs.map (·.1)=vs.map (·.1):=by
 unfold KV at r
 induction r with
 |nil=>rfl
 |cons h t ih=>rw[List.map_cons,List.map_cons,ih,h.1]
theorem KV.length{kvs:List (κ×V)}{vs:List (κ×Value)}(r:KV kvs vs):kvs.length=vs.length:=Paired.length r
end
theorem Zea{P:Program}{w:World}{k:Key}{u:Value}(r:ZR (kV k) u):(Yu P w).is k u=true:=by
 cases k with
 |inl i=>obtain⟨t,e⟩:=(show∃t,u=Value.int i t from r);subst e;exact Zge P w i t
 |inr x=>obtain⟨t,e⟩:=(show∃t,u=Value.str x t from r);subst e;exact Zgf P w x t
theorem Zf5{P:Program}{w:World}:∀{ks:List Key} {us:List Value},ZW (ks.map kV) us->ItemsAre (Yu P w) ks us
 |[],_,r=>by rw[List.map_nil] at r;cases r;exact .nil
 |k::ks,_,r=>by
  rw[List.map_cons] at r
  cases r with
  |cons h t=>exact .cons (Zea h) (Zf5 t)
abbrev KT(H:Hp):List (List Key×V)->List (List Key×Addr×Value)->Prop:=Paired fun p q=>p.1=q.1/\H q.2.1=some (.tup (p.1.map kV))/\ZR p.2 q.2.2
theorem KT.val{H:Hp}{kvs:List (List Key×V)}{xs:List (List Key×Addr×Value)}(r:KT H kvs xs)(k:List Key):Zb5 (ZaJ kvs k) ((atKey xs k).map (·.2)):=by
 induction r with
 |nil=>exact True.intro
 | @cons p q ps qs h t ih=>
  obtain⟨h1,_,h2⟩:=h
  by_cases e:p.1=k
  ·have e':q.1=k:=h1.symm.trans e;have b:atKey (q::qs) k=some q.2:=by simp[atKey,List.find?_cons,e']
   rw[Zb8 e,b];exact h2
  ·have e':¬q.1=k:=fun z=>e (h1.trans z);have b:atKey (q::qs) k=atKey qs k:=by simp[atKey,List.find?_cons,e']
   rw[Zb9 e,b];exact ih
theorem KT.repl{H:Hp}{kvs:List (List Key×V)}{xs:List (List Key×Addr×Value)}(r:KT H kvs xs)(k:List Key){y:V}{u:Value}(ry:ZR y u):
  KT H (kvs.map fun kv=>if kv.1=k then(kv.1,y) else kv) (xs.map (putAt k u)):=by
 induction r with
 |nil=>exact .nil
 | @cons p q ps qs h t ih=>
  rw[List.map_cons,List.map_cons];refine .cons ?_ ih;obtain⟨h1,h2,h3⟩:=h;unfold putAt
  by_cases e:p.1=k
  ·rw[if_pos e,if_pos (h1.symm.trans e)];exact⟨h1,h2,ry⟩
  ·rw[if_neg e,if_neg (fun z=>e (h1.trans z))];exact⟨h1,h2,h3⟩
theorem KT.put{H:Hp}{kvs:List (List Key×V)}{xs:List (List Key×Addr×Value)}(r:KT H kvs xs)(k:List Key){b:Addr}{y:V}{u:Value}(hb:H b=some (.tup (k.map kV)))(ry:ZR y u):
  KT H (Zb7 kvs k y) (storedH xs k b u):=by
 have e:(kvs.any fun kv=>decide (kv.1=k))=(atKey xs k).isSome:=by
  rw[Zgl,(r.val k).isSome_eq,Option.isSome_map]
 unfold Zb7 storedH;rw[e]
 by_cases q:(atKey xs k).isSome=true
 ·rw[if_pos q,if_pos q];exact r.repl k ry
 ·rw[if_neg q,if_neg q];exact Paired.snoc r ⟨rfl,hb,ry⟩
theorem KT.keeps{H H':Hp}{kvs:List (List Key×V)}{xs:List (List Key×Addr×Value)}(r:KT H kvs xs)(ht:∀b ys,H b=some (.tup ys)->H' b=some (.tup ys)):KT H' kvs xs:=
 Paired.mapP r fun _ _ z=>⟨z.1,ht _ _ z.2.1,z.2.2⟩
section
variable {P:Program} {w:World} {H:Hp} {h:Heap} {a:Addr}
theorem ZlN{u:HO}(ok:HOk P w H h)(e:Rd H a u):Yz P w H h a u:=e.ok ok
theorem Zb3{kvs:List (Key×V)}(ok:HOk P w H h)(e:Rd H a (.dK kvs)):kvs.length<=sizeLine/\(a==sysModules)=false/\∃vs,KV kvs vs/\h.DictOf (Yu P w) a vs:=
 show Yz P w H h a (.dK kvs) from ZlN ok e
theorem ZlO{kvs:List (Key×V)}(ok:HOk P w H h)(e:H a=some (.dK kvs)):kvs.length<=sizeLine/\(a==sysModules)=false/\∃vs,KV kvs vs/\h.DictOf (Yu P w) a vs:=Zb3 ok (.inl e)
theorem Zd7{ks:List Key}(ok:HOk P w H h)(e:H a=some (.tup (ks.map kV))):(tupleKind (Yu P w)).is h ks a:=by
 obtain⟨_,its,r,o,h1,h2,n,h3⟩:=(show Yz P w H h a (.tup (ks.map kV)) from ok a _ e)
 exact⟨o,its.toArray,n,h1,h2,h3,by simpa using Zf5 r⟩
theorem Zeb{kvs:List (List Key×V)}(ok:HOk P w H h)(e:Rd H a (.dT kvs)):kvs.length<=sizeLine/\(a==sysModules)=false/\
  ∃xs,KT H kvs xs/\h.DictOfH (tupleKind (Yu P w)) a xs:=by
 obtain⟨z,y,xs,r,o,es,ep,h1,h2,h3,h4,h5⟩:=(show Yz P w H h a (.dT kvs) from ZlN ok e)
 refine⟨z,y,xs,r,o,es,ep,h1,h2,h3,h4,fun x hx=> ?_,h5⟩;have all:∀{l:List (List Key×V)} {m:List (List Key×Addr×Value)},KT H l m->∀x∈m,(tupleKind (Yu P w)).is h x.1 x.2.1:=by
  intro l m q
  induction q with
  |nil=>intro x hx;exact nomatch hx
  | @cons p q ps qs hq t ih=>
   intro x hx;rcases List.mem_cons.mp hx with e|hx
   ·subst e;exact Zd7 ok (by rw[<-hq.1];exact hq.2.1)
   ·exact ih x hx
 exact all r x hx
theorem Zna{kvs:List (List Key×V)}(ok:HOk P w H h)(e:H a=some (.dT kvs)):kvs.length<=sizeLine/\(a==sysModules)=false/\
  ∃xs,KT H kvs xs/\h.DictOfH (tupleKind (Yu P w)) a xs:=Zeb ok (.inl e)
end
def ZeN(H:Hp)(a:Addr)(y:V)(r:Option V):Prop:=
 (∃kvs k,Rd H a (.dK kvs)/\y=kV k/\r=ZaJ kvs k)\/∃kvs k b,Rd H a (.dT kvs)/\y=.ref b/\H b=some (.tup (k.map kV))/\r=ZaJ kvs k
def ZiJ(H:Hp)(a:Addr)(y v:V)(H':Hp):Prop:=
 (∃kvs k,H a=some (.dK kvs)/\y=kV k/\kvs.length<sizeLine/\H'=upd H a (.dK (Zb7 kvs k v)))\/
 ∃kvs k b,H a=some (.dT kvs)/\y=.ref b/\H b=some (.tup (k.map kV))/\kvs.length<sizeLine/\H'=upd H a (.dT (Zb7 kvs k v))
theorem ZiJ.k{H:Hp}{a:Addr}{kvs:List (Key×V)}{k:Key}{v:V}(e:H a=some (.dK kvs))(hl:kvs.length<sizeLine):ZiJ H a (kV k) v (upd H a (.dK (Zb7 kvs k v))):=.inl ⟨kvs,k,e,rfl,hl,rfl⟩
section
variable {X:Cx} {pins:List (Addr×Obj)} {σ:St} {H:Hp} {s:Shared} {a:Addr} {y v:V} {u r:Value} {o:Option V} {A:Around} {E:Value->Shared->Prop}
theorem Inv.big(I:Inv X pins σ H s):sysModules<s.heap.objs.size:=by
 have h:mainGlobals<s.heap.objs.size:=(I.mod.glob.keeps I.bk).lt;exact Nat.lt_trans (by decide) h
theorem ZiK{Q:Value->Shared->Prop}(hu:A.units+1<cLine)(I:Inv X pins σ H s)(g:ZeN H a y (some v))(ry:ZR y u)(h:∀w' s',Inv X pins σ H s'->ZR v w'->Q w' s'):
  wpAny (model X.prog X.w) A (getItem (.ref a) u) Q E s:=by
 rcases g with ⟨kvs,k,e,ey,l⟩|⟨kvs,k,b,e,ey,eb,l⟩
 ·subst ey;obtain⟨z,hd,vs,rel,dd⟩:=Zb3 I.hok e;obtain⟨w',hw,rw'⟩:=Zb5.some_of (v:=v) (o:=valueAt vs k) (by rw[l];exact rel.val k)
  exact wpAny_getItem_of (Zea ry) dd.mapOf hw (h w' _ (I.tok _) rw')
 ·subst ey;cases(show u=Value.ref b from ry);obtain⟨z,hd,xs,rel,dd⟩:=Zeb I.hok e;obtain⟨w',hw,rw'⟩:=Zb5.some_of (v:=v) (o:=(atKey xs k).map (·.2)) (by rw[l];exact rel.val k)
  obtain⟨p,hp,hp2⟩:=Option.map_eq_some_iff.mp hw;refine wpAny_getItem_heap (tupleKind_room_in1 hu) (Zd7 I.hok eb) dd hp ?_;rw[hp2];exact h w' _ (I.tok _) rw'
theorem ZnY{Q:Value->Shared->Prop}(hu:A.units+1<cLine)(I:Inv X pins σ H s)(g:ZeN H a y o)(ry:ZR y u)(h:∀s',Inv X pins σ H s'->Q (.bool o.isSome) s'):
  wpAny (model X.prog X.w) A (compareOp .In u (.ref a)) Q E s:=by
 rcases g with ⟨kvs,k,e,ey,l⟩|⟨kvs,k,b,e,ey,eb,l⟩
 ·subst ey;obtain⟨z,hd,vs,rel,dd⟩:=Zb3 I.hok e;refine wpAny_in_of (Zea ry) hd dd.mapOf ?_;rw[<-(rel.val k).isSome_eq,<-l];exact h _ (I.tok _)
 ·subst ey;cases(show u=Value.ref b from ry);obtain⟨z,hd,xs,rel,dd⟩:=Zeb I.hok e;refine wpAny_in_heap (tupleKind_room_in1 hu) (Zd7 I.hok eb) hd dd ?_;have q:=(rel.val k).isSome_eq;rw[Option.isSome_map] at q
  rw[<-q,<-l];exact h _ (I.tok _)
theorem Zl5{Q:Value->Shared->Prop}(hu:A.units+1<cLine)(I:Inv X pins σ H s)(g:ZeN H a y o)(ry:ZR y u)(h:∀s',Inv X pins σ H s'->Q (.bool (!o.isSome)) s'):
  wpAny (model X.prog X.w) A (compareOp .NotIn u (.ref a)) Q E s:=by
 rcases g with ⟨kvs,k,e,ey,l⟩|⟨kvs,k,b,e,ey,eb,l⟩
 ·subst ey;obtain⟨z,hd,vs,rel,dd⟩:=Zb3 I.hok e;refine wpAny_notIn_of (Zea ry) hd dd.mapOf ?_;rw[<-(rel.val k).isSome_eq,<-l];exact h _ (I.tok _)
 ·subst ey;cases(show u=Value.ref b from ry);obtain⟨z,hd,xs,rel,dd⟩:=Zeb I.hok e;refine wpAny_notIn_heap (tupleKind_room_in1 hu) (Zd7 I.hok eb) hd dd ?_;have q:=(rel.val k).isSome_eq;rw[Option.isSome_map] at q
  rw[<-q,<-l];exact h _ (I.tok _)
theorem ZfB{h':Heap}{t':Nat}{ob:HO}(I:Inv X pins σ H s)(mu:Mut (H a))(hs:Heap.SameBut a s.heap h')(he:∃q,h'.get? a=some q)(new:Yz X.prog X.w (upd H a ob) h' a ob):
  Inv X pins σ (upd H a ob) {s with heap:=h',toks:=t'}:=
 I.write (x:=a) (e:=a) mu (.inl rfl) (fun b q hb z=>(hs.2 b hb).trans z) he new
theorem Zhg{P:Program}{w:World}{H':Hp}{h':Heap}{kvs:List (Key×V)}{vs:List (Key×Value)}(z:kvs.length<=sizeLine)(hd:(a==sysModules)=false)(rel:KV kvs vs)(dd:h'.DictOf (Yu P w) a vs):
  Yz P w H' h' a (.dK kvs):=⟨z,hd,vs,rel,dd⟩
theorem ZiL{H':Hp}{Q:Unit->Shared->Prop}(hu:A.units+1<cLine)(I:Inv X pins σ H s)(g:ZiJ H a y v H')(ry:ZR y u)(rv:ZR v r)(h:∀s',Inv X pins σ H' s'->Q () s'):
  wpAny (model X.prog X.w) A (setItem (.ref a) u r) Q E s:=by
 rcases g with ⟨kvs,k,e,ey,l,eH⟩|⟨kvs,k,b,e,ey,eb,l,eH⟩
 ·subst ey eH;obtain⟨z,hd,vs,rel,dd⟩:=ZlO I.hok e;have hz:vs.length<=sizeLine:=by rw[<-rel.length];exact z
  have hl:(Zb7 kvs k v).length<=sizeLine:=by have:=Zba kvs k v;omega
  refine wpAny_setItem_pairs (hsz:=hz) (Zea ry) dd fun h' dd' hs=>h _ ?_;have he:∃q,h'.get? a=some q:=let ⟨q,_,_,hq,_⟩:=dd';⟨q,hq⟩;exact ZfB I (by rw[e];exact True.intro) hs he (Zhg hl hd (rel.put k rv) dd')
 ·subst ey eH;cases(show u=Value.ref b from ry);obtain⟨z,hd,xs,rel,dd⟩:=Zna I.hok e;have hz:xs.length<=sizeLine:=by rw[<-Paired.length rel];exact z
  have hl:(Zb7 kvs k v).length<=sizeLine:=by have:=Zba kvs k v;omega
  refine wpAny_setItem_heap (hsz:=hz) (tupleKind_room_in1 hu) (Zd7 I.hok eb) dd fun h' dd' hs=>h _ ?_;obtain⟨q,es,ep,hq,h2,h3,h4,_,h5⟩:=dd';refine ZfB I (by rw[e];exact True.intro) hs ⟨q,hq⟩ ⟨hl,hd,_,(rel.put k eb rv).keeps fun c ys ec=> ?_,q,es,ep,hq,h2,h3,h4,h5⟩
  rw[Zf (Zgg ec e (fun z=>nomatch z))];exact ec
end
section
variable {X:Cx} {pins:List (Addr×Obj)} {σ:St} {H:Hp} {s:Shared} {a:Addr} {kvs:List (Key×V)} {k:Key} {u:Value} {A:Around} {E:Value->Shared->Prop}
theorem Znb{Q:Value->Shared->Prop}(I:Inv X pins σ H s)(e:Rd H a (.dK kvs))(h:∀t s',Inv X pins σ H s'->Q (.int kvs.length t) s'):wpAny (model X.prog X.w) A (call (.builtin "len") [.ref a]) Q E s:=by
 obtain⟨z,hd,vs,rel,dd⟩:=Zb3 I.hok e;refine call_len_dict hd dd (by rw[<-rel.length];rw[sizeLine_eq] at z;omega) ?_
 rw[<-rel.length];exact h _ _ (I.tok _)
end
def Znc(i:Expr):Prop:=∀ov iv,subscripted i false ov iv=operate [ov,iv] (getItem ov iv)
theorem Zl6{prog:Program}{w:World}{A:Around}{E:Value->Shared->Prop}{s:Shared}{env:Env}{value slice:Expr}{pos:Pos}{T id:String}{Q:Value->Shared->Prop}
  (hl:typeLookup (.type T) "__getitem__"=pure (some (.builtin id)))(hs:Znc slice)
  (h:wpAny (model prog w) A (eval value env) (fun o s₁=>wpAny (model prog w) A (eval slice env) (fun i s₂=>s₂.TypeIs o T/\wpAny (model prog w) A (getItem o i) Q E s₂) E s₁) E s):
  wpAny (model prog w) A (eval (.Subscript value slice pos) env) Q E s:=by
 refine Subscript_ (wpAny_mono h (fun o s₁ h₁=>wpAny_mono h₁ (fun i s₂ h₂=> ?_) fun _ _ x=>x) fun _ _ x=>x);obtain⟨hT,h₂⟩:=h₂;unfold subscriptTail;refine wpAny_bind ?_;rw[getitemInPython_of_ne hT.not_modules];refine wpAny_bind (wpAny_specialOf hT hl ?_);have fin:wpAny (model prog w) A (subscripted slice false o i) (fun r s₃=>wpAny (model prog w) A (letTemporaryGo value o r>>=fun _=>pure r) Q E s₃) E s₂:=by
  rw[hs o i];exact wpAny_operating (wpAny_mono h₂ (fun r s₃ h₃=>wpAny_bind (wpAny_letTemporaryGo (wpAny_pure h₃))) fun _ _ x=>x)
 first
  |exact wpAny_pure (wpAny_bind fin)
  |exact wpAny_bind (wpAny_pure (wpAny_bind fin))
  |exact wpAny_bind fin
theorem Zgm{X:Cx}{pins:List (Addr×Obj)}{σ:St}{H:Hp}{s:Shared}{a:Addr}{y:V}{o:Option V}(I:Inv X pins σ H s)(g:ZeN H a y o):s.TypeIs (.ref a) "dict":=by
 rcases g with ⟨kvs,k,e,_,_⟩|⟨kvs,k,b,e,_,_,_⟩
 ·obtain⟨_,_,vs,_,dd⟩:=Zb3 I.hok e;exact dd.typeIs
 ·obtain⟨_,_,xs,_,dd⟩:=Zeb I.hok e;exact dd.typeIs
def Znd(td ty:TE):TE:=fun σ H Q=>td σ H fun x H1=>ty σ H1 fun y H2=>∃a v,x=.ref a/\ZeN H2 a y (some v)/\Q v H2
def ZnZ(ty td:TE):TE:=fun σ H Q=>ty σ H fun y H1=>td σ H1 fun x H2=>∃a o,x=.ref a/\ZeN H2 a y o/\Q (.bl o.isSome) H2
def Zl7(ty td:TE):TE:=fun σ H Q=>ty σ H fun y H1=>td σ H1 fun x H2=>∃a o,x=.ref a/\ZeN H2 a y o/\Q (.bl (!o.isSome)) H2
def Zne(td ty tv:TE):TS:=fun D σ H=>tv σ H fun v H1=>td σ H1 fun x H2=>ty σ H2 fun y H3=>∃a H4,x=.ref a/\ZiJ H3 a y v H4/\D.nx σ H4
section
variable {X:Cx} {o i e value:Expr} {pos pos' tpos:Pos} {td ty tv:TE}
theorem ZdQ(hu:X.A.units+1<cLine)(ho:PE X o td)(hi:PE X i ty)(hs:Znc i):PE X (.Subscript o i pos) (Znd td ty):=by
 intro pins s σ H Q I h;refine Zl6 PySem.F.slot_dict_getitem.lookup hs (thn (ho pins s σ H _ I h) fun u s1 ⟨x,H1,I1,rx,q1⟩=>thn (hi pins s1 σ H1 _ I1 q1) fun iv s2 ⟨y,H2,I2,ry,a,v,ex,g,q2⟩=> ?_);subst ex;obtain rfl:u=Value.ref a:=rx;exact⟨Zgm I2 g,ZiK hu I2 g ry fun w' s3 I3 rw'=>⟨v,H2,I3,rw',q2⟩⟩
theorem Zmc(hu:X.A.units+1<cLine)(hi:PE X i ty)(ho:PE X o td):PC X .In i o (ZnZ ty td):=by
 intro pins s σ H Q I h;refine thn (hi pins s σ H _ I h) fun iv s1 ⟨y,H1,I1,ry,q1⟩=>thn (ho pins s1 σ H1 _ I1 q1) fun u s2 ⟨x,H2,I2,rx,a,ov,ex,g,q2⟩=> ?_;subst ex;obtain rfl:u=Value.ref a:=rx;exact ZnY hu I2 g ry fun s3 I3=>⟨.bl ov.isSome,H2,I3,rfl,q2⟩
theorem ZiM(hu:X.A.units+1<cLine)(hi:PE X i ty)(ho:PE X o td):PC X .NotIn i o (Zl7 ty td):=by
 intro pins s σ H Q I h;refine thn (hi pins s σ H _ I h) fun iv s1 ⟨y,H1,I1,ry,q1⟩=>thn (ho pins s1 σ H1 _ I1 q1) fun u s2 ⟨x,H2,I2,rx,a,ov,ex,g,q2⟩=> ?_;subst ex;obtain rfl:u=Value.ref a:=rx;exact Zl5 hu I2 g ry fun s3 I3=>⟨.bl (!ov.isSome),H2,I3,rfl,q2⟩
theorem Zi4(hu:X.A.units+1<cLine)(ho:PE X o td)(hi:PE X i ty)(hv:PE X value tv)(hs:swapsWith value (some (.Subscript o i pos')) pos.line X.env=pure false):
  PS X (.Assign [.Subscript o i pos'] value pos) (Zne td ty tv):=by
 intro pins s σ H D I h;refine wpAny_Assign_Subscript (thn (hv pins s σ H _ I h) fun r s1 ⟨v,H1,I1,rv,q1⟩=>thn (ho pins s1 σ H1 _ I1 q1) fun u s2 ⟨x,H2,I2,rx,q2⟩=>thn (hi pins s2 σ H2 _ I2 q2) fun iv s3 ⟨y,H3,I3,ry,a,H4,ex,g,q3⟩=> ?_) hs;subst ex;obtain rfl:u=Value.ref a:=rx;exact ZiL hu I3 g ry rv fun s4 I4=>⟨σ,H4,I4,q3⟩
end
theorem Zjz{P:Program}{w:World}{H:Hp}(h:Heap)(hb:sysModules<h.objs.size):Yz P w H (h.push {cls:=.type "dict",data:=.dict #[]}) h.objs.size (.dK []):=
 ⟨Nat.zero_le _,beq_eq_false_iff_ne.mpr (Ne.symm (Nat.ne_of_lt hb)),[],.nil,Heap.DictOf.new h⟩
section
variable {X:Cx} {pos:Pos}
end
def Zhh:List (TE×TE)->St->Hp->(List (V×V)->Hp->Prop)->Prop
 |[],_,H,Q=>Q [] H
 |(tk,tv)::r,σ,H,Q=>tk σ H fun x H1=>tv σ H1 fun y H2=>Zhh r σ H2 fun ps H3=>Q ((x,y)::ps) H3
abbrev VV:List (V×V)->List (Value×Value)->Prop:=Paired fun p q=>ZR p.1 q.1/\ZR p.2 q.2
def PPs(X:Cx)(pos:Pos)(keys:List (Option Expr))(values:List Expr)(trs:List (TE×TE)):Prop:=
 ∀(pins:List (Addr×Obj)) (s:Shared) (σ:St) (H:Hp) (Q:List (V×V)->Hp->Prop),Inv X pins σ H s->Zhh trs σ H Q->
  wpAny (model X.prog X.w) X.A (evalPairs (pairTrees keys values X.env pos)) (fun vs s'=>∃ps H',Inv X pins σ H' s'/\VV ps vs/\Q ps H') X.xe s
theorem Zi5{X:Cx}{pos:Pos}:PPs X pos [] [] []:=fun pins s σ H Q I h=>pairTrees_nil_walk ⟨[],H,I,.nil,h⟩
theorem Zgn{X:Cx}{pos:Pos}{k v:Expr}{ks:List (Option Expr)}{vs:List Expr}{tk tv:TE}{trs:List (TE×TE)}(hk:PE X k tk)(hv:PE X v tv)(hr:PPs X pos ks vs trs):
  PPs X pos (some k::ks) (v::vs) ((tk,tv)::trs):=fun pins s σ H Q I h=>
 pairTrees_cons_walk (thn (hk pins s σ H _ I h) fun u s1 ⟨x,H1,I1,rx,q1⟩=>thn (hv pins s1 σ H1 _ I1 q1) fun w2 s2 ⟨y,H2,I2,ry,q2⟩=>
  thn (hr pins s2 σ H2 _ I2 q2) fun ws s3 ⟨ps,H3,I3,rel,q3⟩=>⟨(x,y)::ps,H3,I3,.cons ⟨rx,ry⟩ rel,q3⟩)
def Zah(kvs more:List (Key×V)):List (Key×V):=more.foldl (fun acc kv=>Zb7 acc kv.1 kv.2) kvs
theorem KV.merge:∀{more:List (Key×V)} {rs:List (Key×Value)} {kvs:List (Key×V)} {vs:List (Key×Value)},KV more rs->KV kvs vs->KV (Zah kvs more) (merged vs rs):=by
 intro more rs kvs vs r;unfold KV at r
 induction r generalizing kvs vs with
 |nil=>intro q;exact q
 | @cons p q ps qs h t ih=>
  intro r0;have e:KV (Zb7 kvs p.1 p.2) (stored vs q.1 q.2):=by
   have:=r0.put p.1 h.2;rw[<-h.1];exact this
  exact ih e
theorem ZbU:∀(more kvs:List (Key×V)),(Zah kvs more).length<=kvs.length+more.length
 |[],kvs=>by show kvs.length<=kvs.length+0;omega
 |p::r,kvs=>by
  have h1:=ZbU r (Zb7 kvs p.1 p.2);have h2:=Zba kvs p.1 p.2;show(Zah (Zb7 kvs p.1 p.2) r).length<=_;rw[List.length_cons];omega
theorem Zec{P:Program}{w:World}:∀{kvs:List (Key×V)} {ws:List (Value×Value)},VV (kvs.map fun kv=>(kV kv.1,kv.2)) ws->∃rs,Carries (Yu P w) ws rs/\KV kvs rs
 |[],_,r=>by rw[List.map_nil] at r;cases r;exact⟨[],True.intro,.nil⟩
 |p::kvs,_,r=>by
  rw[List.map_cons] at r
  cases r with
  | @cons a b as bs h t=>
   obtain⟨rs,c,q⟩:=Zec (P:=P) (w:=w) t;obtain⟨b1,b2⟩:=b;exact⟨(p.1,b2)::rs,⟨Zea h.1,rfl,c⟩,.cons ⟨rfl,h.2⟩ q⟩
def Znf(trs:List (TE×TE)):TE:=fun σ H Q=>∀p,H p=none->Zhh trs σ (upd H p (.dK [])) fun ps H2=>H2 p=some (.dK [])/\∃kvs:List (Key×V),ps=kvs.map (fun kv=>(kV kv.1,kv.2))/\kvs.length<=15/\Q (.ref p) (upd H2 p (.dK (Zah [] kvs)))
theorem Zi6{X:Cx}{pos:Pos}{keys:List (Option Expr)}{values:List Expr}{trs:List (TE×TE)}(h:PPs X pos keys values trs)(hall:keys.all (·.isSome)=true)(hl:keys.length=values.length)(h0:keys≠[])
  (h15:keys.length<=15):PE X (.Dict keys values pos) (Znf trs):=by
 intro pins s σ H Q I q;have hn:=I.hok.fresh (Nat.le_refl s.heap.objs.size);have I1:=I.laid (a:=s.heap.objs.size) (o:=.dK []) (h':=s.heap.push {cls:=.type "dict",data:=.dict #[]}) (t':=s.toks) (fun _ _ q=>Heap.get?_push_of_some _ q) (Nat.le_refl _) (Zjz s.heap I.big);refine wpAny_Dict_walk (knd:=Yu X.prog X.w) hall hl h0 h15 (thn (h pins _ σ _ _ I1 (q _ hn)) fun ws s2 ⟨ps,H2,I2,rel,e,kvs,ep,lk,q2⟩=> ?_)
 subst ep;obtain⟨rs,c,rk⟩:=Zec (P:=X.prog) (w:=X.w) rel;obtain⟨z,hd,vs0,r0,dd⟩:=ZlO I2.hok e;cases r0;refine⟨rs,c,dd,fun h' dd' hs=>⟨.ref s.heap.objs.size,_, ?_,rfl,q2⟩⟩;have hz:(Zah [] kvs).length<=sizeLine:=by
  have h1:=ZbU kvs [];rw[List.length_nil] at h1
  rw[sizeLine_eq];omega
 have he:∃q,h'.get? s.heap.objs.size=some q:=let ⟨q,_,_,hq,_⟩:=dd';⟨q,hq⟩;exact ZfB I2 (by rw[e];exact True.intro) hs he (Zhg hz hd (rk.merge .nil) dd')
structure M2 (X:Cx) (o:Expr) (m:Str) (apos:Pos) (e f:Expr) (cpos:Pos):Prop where
 base:attributeBase o m X.env (eval o X.env)=eval o X.env
 few:((backTo cpos (starEach [e,f] X.env)).all (fun x=> !x.1)&&(backToKw cpos (keywordEach [] X.env)).all (fun x=>x.1.isSome)
  &&decide (([e,f]:List Expr).length+([]:List Keyword).length+(if([]:List Keyword).isEmpty then 0 else 1)<30))=true
 line:(apos.endLine==cpos.line)=true
 trees:backTo cpos (starEach [e,f] X.env)=[(false,eval e X.env),(false,eval f X.env)]
def IsD(H:Hp)(a:Addr):Prop:=(∃kvs,Rd H a (.dK kvs))\/∃kvs,Rd H a (.dT kvs)
theorem Zmd{X:Cx}{pins:List (Addr×Obj)}{σ:St}{H:Hp}{s:Shared}{a:Addr}(I:Inv X pins σ H s)(d:IsD H a):
  s.TypeIs (.ref a) "dict"/\(∀b,Value.ref a=.ref b->∃ob,s.heap.get? b=some ob/\ob.dict=none)/\(a==sysModules)=false:=by
 rcases d with ⟨kvs,e⟩|⟨kvs,e⟩
 ·obtain⟨_,hd,vs,_,dd⟩:=Zb3 I.hok e;refine⟨dd.typeIs,fun b q=> ?_,hd⟩;cases q;obtain⟨ob,_,_,h1,h2,_⟩:=dd;exact⟨ob,h1,h2.2.1⟩
 ·obtain⟨_,hd,xs,_,dd⟩:=Zeb I.hok e;refine⟨dd.typeIs,fun b q=> ?_,hd⟩;cases q;obtain⟨ob,_,_,h1,h2,_⟩:=dd;exact⟨ob,h1,h2.2.1⟩
section
variable {X:Cx} {pins:List (Addr×Obj)} {σ:St} {H:Hp} {s:Shared} {a:Addr} {y d:V} {u r:Value} {o:Option V} {A:Around} {E:Value->Shared->Prop}
theorem Zme{Q:Value->Shared->Prop}(hu:A.units+1<cLine)(I:Inv X pins σ H s)(g:ZeN H a y o)(ry:ZR y u)(rd:ZR d r)(h:∀w' s',Inv X pins σ H s'->ZR (o.getD d) w'->Q w' s'):
  wpAny (model X.prog X.w) A (call (.builtin "dict.get") [.ref a,u,r]) Q E s:=by
 rcases g with ⟨kvs,k,e,ey,l⟩|⟨kvs,k,b,e,ey,eb,l⟩
 ·subst ey;obtain⟨z,hd,vs,rel,dd⟩:=Zb3 I.hok e;refine call_meetsIn PySem.F.slot_dict_get dd.typeIs PySem.F.entry_dict_get (PySem.F.args_dict_get_3 _ _ _) (meets_dict_get_default (Yu X.prog X.w) a (Zea ry) hd r) ⟨_,dd.mapOf,h _ _ (I.tok _) ?_⟩;rw[l];exact(rel.val k).getD rd
 ·subst ey;cases(show u=Value.ref b from ry);obtain⟨z,hd,xs,rel,dd⟩:=Zeb I.hok e;refine call_meetsIn PySem.F.slot_dict_get dd.typeIs PySem.F.entry_dict_get (PySem.F.args_dict_get_3 _ _ _) (meetsH_dict_get_default (tupleKind (Yu X.prog X.w)) a b hd r) ⟨tupleKind_room_in1 hu,k,xs,Zd7 I.hok eb,dd,h _ _ (I.tok _) ?_⟩;rw[l];exact(rel.val k).getD rd
end
def Zmf(td ty tx:TE):TE:=fun σ H Q=>td σ H fun x H1=>∃a,x=.ref a/\IsD H1 a/\ty σ H1 fun y H2=>tx σ H2 fun z H3=>∃o,ZeN H3 a y o/\Q (o.getD z) H3
section
variable {X:Cx} {o e f:Expr} {apos cpos:Pos} {td ty tx:TE}
theorem Zgo(hu:X.A.units+1<cLine)(ho:PE X o td)(he:PE X e ty)(hf:PE X f tx)(m:M2 X o "get" apos e f cpos):PE X (.Call (.Attribute o "get" apos) [e,f] [] cpos) (Zmf td ty tx):=by
 intro pins s σ H Q I h;refine wpAny_Call_method m.base m.few m.line PySem.F.plainAttrs_dict PySem.F.slot_dict_get PySem.F.type_dict_get (thn (ho pins s σ H _ I h) fun u s1 ⟨x,H1,I1,rx,a,ex,d,q1⟩=> ?_);subst ex;obtain rfl:u=Value.ref a:=rx;obtain⟨t1,t2,_⟩:=Zmd I1 d;refine⟨t1,t2, ?_⟩;rw[m.trees];refine Calls.callWith_builtin rfl (Calls.evalArgs_plain (Calls.spliced_cons (thn (he pins s1 σ H1 _ I1 q1) fun iv s2 ⟨y,H2,I2,ry,q2⟩=>
  Calls.spliced_cons (thn (hf pins s2 σ H2 _ I2 q2) fun fv s3 ⟨z,H3,I3,rz,ov,g,q3⟩=>Calls.spliced_nil ?_))))
 exact Zme hu I3 g ry rz fun w' s4 I4 rw'=>⟨_,H3,I4,rw',q3⟩
end
section
variable {X:Cx} {pins:List (Addr×Obj)} {σ:St} {H:Hp} {s:Shared} {a:Addr} {kvs:List (Key×V)} {A:Around} {E:Value->Shared->Prop}
theorem ZjA{Q:Value->Shared->Prop}(I:Inv X pins σ H s)(e:Rd H a (.dK kvs))(h:∀p s',H p=none->Inv X pins σ (upd H p (.dK kvs)) s'->Q (.ref p) s'):wpAny (model X.prog X.w) A (call (.type "dict") [.ref a]) Q E s:=by
 obtain⟨z,hd,vs,rel,dd⟩:=Zb3 I.hok e;refine kt_call_dict hd dd (by rw[<-rel.length];exact z) fun h' dd' hs=> ?_
 refine h _ _ (I.hok.fresh (Nat.le_refl _)) (I.laid (a:=s.heap.objs.size) (o:=.dK kvs) (t':=s.toks) (fun b q hq=> ?_) (Nat.le_refl _) (Zhg z (beq_eq_false_iff_ne.mpr (Ne.symm (Nat.ne_of_lt I.big))) rel dd'));exact(hs.2 b (Nat.ne_of_lt (Heap.lt_size hq))).trans (Heap.get?_push_of_some _ hq)
end
section
variable {X:Cx} {pins:List (Addr×Obj)} {σ:St} {H:Hp} {s:Shared} {a:Addr} {y:V} {u:Value} {A:Around} {E:Value->Shared->Prop}
end
end L2
namespace Att
open PySem PySem.W PySem.Calls PyProof.Rows
theorem ZdJ{P:Params}{h:Heap}:∀(ns:List Int) (vs:List Value),WellAll P h vs (ns.map WData.int)->IntsAre vs ns:=by
 intro ns
 induction ns with
 |nil=>
  intro vs w;rw[List.map_nil] at w
  cases w;exact .nil
 |cons n ns ih=>
  intro vs w;rw[List.map_cons] at w
  cases w with
  |cons a b=>
   cases a;exact .cons _ _ (ih _ b)
theorem script_of{l:OpenLaw}{n:Nat}(hn:l.most=some n){P:Params}{h:Heap}{args:List WData}{vals:List Value}
  (hpre:l.row.toRowW.claim.pre args=true)(hwl:WellAll P h vals args):
  ∃a vs ns,vals=[Value.ref a]/\args=[WData.list (ns.map WData.int)]/\h.get? a=some {cls:=.type "list",data:=.seq vs.toArray}/\IntsAre vs ns/\ns.length<=n:=by
 have hsh:WShape.hasAll [] args [.list .int]=true:=(pre_splitW hpre).1;have hc:l.pre.holds [] {args:=args}=true:=(pre_splitW hpre).2;obtain⟨d,r,rfl,h1,h2⟩:=hasAllW_cons hsh;obtain rfl:=hasAllW_nil h2;obtain⟨xs,rfl,h3⟩:=hasW_list h1;obtain⟨ns,rfl⟩:=items_int h3;have hlen:ns.length<=n:=by
  unfold OpenLaw.pre at hc
  have h4:(WTm.not (.lt (.lit (.int (n:Int))) (.len (.arg 0)))).holds [] {args:=[.list (ns.map .int)]}=true:=by
   have h4:=(holds_andW hc).1;rw[hn] at h4
   exact h4
  have h5:=condW_of h4 (w_not (w_lt w_lit (w_len_list (w_arg rfl))));rw[List.length_map] at h5
  refine Nat.le_of_not_lt fun q=> ?_;have q':(n:Int)<((ns.length:Nat):Int):=by omega
  first
   |(rw[decide_eq_true q'] at h5;exact absurd h5 (by decide))
   |(simp at h5;omega)
 cases hwl with
 |cons w1 w2=>
  cases w2;cases w1 with
  |list ho hall=>exact⟨_,_,ns,rfl,rfl,ho,ZdJ ns _ hall,hlen⟩
theorem post_true(l:OpenLaw)(args:List WData):l.row.toRowW.claim.post args (.bool true) args=true:=
 postW_of (r:=l.row.toRowW) (X:=(true==true))
  (show WShape.has [] (.bool true) .bool=true by first|rfl|decide|simp[WShape.has,WShape.arms,WShape.armsAll])
  (show(WTm.eq .res (.lit (.bool true))).value [] {args:=args,res:=some (.bool true),after:=args}=some (.bool (true==true)) from w_eq_bool (w_res rfl) w_lit) rfl
section
variable {prog:Program} {w:World} {A:Around} {E:Value->Shared->Prop} {s:Shared} {K:Frag}
end
end Att
namespace L2
open PySem PySem.Spec PyProof.Rows
theorem Zf6:∀{vs:List Value} {ns:List Int},IntsAre vs ns->ZW (ns.map V.int) vs
 |_,_,.nil=> .nil
 |_,_,.cons n t h=> .cons ⟨t,rfl⟩ (Zf6 h)
def Zng(H:Hp):Prop:=∀b,H b=none\/∃o xs,H b=some (.frz o (.lst xs))
theorem ZjB{P:Program}{w:World}{K:PySem.W.Frag}{mg mb:Str->Option Value}{CX:CXT}{k:Nat}{fa a:Addr}{fd:FuncData}{x:Str}{sp:Sp}{s₁:Shared}{vs:List Value}{ns:List Int}
  (KX:K.In s₁.heap)(hns:s₁.heap.Ns mainGlobals mg)(hb:s₁.heap.Ns builtinsNs mb)(hbb:∀x:Str,x≠"__name__"->mb x=bootBuiltins x)(hlim:s₁.heap.NoLimit)(hg:s₁.gens= #[])
  (ha:s₁.heap.get? a=some {cls:=.type "list",data:=.seq vs.toArray})(hi:IntsAre vs ns)(hl:ns.length<=sizeLine)(hr:Xc k callerA)
  (F:∀base:Heap,K.In base->base.Ns mainGlobals mg->YD P w K mg base CX k fa fd [x] sp)(hbind:∀(s:Shared) (u:Value),BindsTo s fd ⟨[u],[]⟩ [(x,u)])
  (hsp:∀H:Hp,Zng H->SqL K H a (ns.map V.int)->sp [.ref a] H (fun v _=>v=.bl true) fun _ _ _=>False)
  (hCX:∀H e s',CX [] H s₁ (fun _ _ _=>False) e s'->False):
  codeAny (model P w) callerA (.call (.ref fa) ⟨[.ref a],[]⟩) (fun r s'=>r=.ok (.ret (.bool true))/\OldK s₁.heap s'.heap/\s'.os=s₁.os/\AllBare s'.gens) s₁:=by
 have rv:=Zf6 hi;have lenV:=hi.length;have core:∀H:Hp,Zng H->SqL K H a (ns.map V.int)->HOk P w H s₁.heap->(∀b,H b≠none->b=a)->(H a≠none->K.lookup a=none)->
   codeAny (model P w) callerA (.call (.ref fa) ⟨[.ref a],[]⟩) (fun r s'=>r=.ok (.ret (.bool true))/\OldK s₁.heap s'.heap/\s'.os=s₁.os/\AllBare s'.gens) s₁:=by
  intro H hO hS hok hA hK;have base_of:∀{b:Addr} {o:Obj},s₁.heap.get? b=some o->H b=none->(Zft s₁.heap H).get? b=some o:=fun e n=>Zjh e n;have noA:∀{b:Addr} {o:Obj} {es:Array DictEntry} {ep:Nat},s₁.heap.get? b=some o->o.data=.dict es ep->H b=none:=fun{b o es ep} e d=>by
   cases q:H b with
   |none=>rfl
   |some u=>
    have e':b=a:=hA b (by rw[q];simp)
    subst e';rw[ha] at e;cases e
    have d':Data.seq vs.toArray _=Data.dict es ep:=d;cases d'
  have nsK:∀{b:Addr} {m:Str->Option Value},s₁.heap.Ns b m->(Zft s₁.heap H).Ns b m:=fun{b m} ⟨o,es,ep,e,d,r⟩=>⟨o,es,ep,base_of e (noA e d),d,r⟩
  have hKb:K.In (Zft s₁.heap H):=fun b o e=>base_of (KX b o e) (by
   cases q:H b with
   |none=>rfl
   |some u=>
    have e':b=a:=hA b (by rw[q];simp)
    subst e';rw[hK (by rw[q];simp)] at e;cases e)
  have hM:Mod K mg (Zft s₁.heap H):=⟨hKb,nsK hns,⟨mb,nsK hb,hbb⟩,let ⟨mc,h1,h2⟩:=hlim;⟨mc,nsK h1,h2⟩⟩
  have e0:ZeL P w K mg (Zft s₁.heap H) callerA [] s₁ H:=⟨rfl,hM,fun b o e=>ZkN e,Nat.le_of_eq (Ziv _ _),trivial,fun b hb=>absurd (show b∈([]:List Addr) from hb) (by simp),hok,.of_eq hg⟩
  refine codeAny_mono ((F _ hKb (nsK hns)).run callerA [] s₁ H ⟨[.ref a],[]⟩ [.ref a] [.ref a] _ _ hr e0 (hbind s₁ (.ref a)) (.cons rfl .nil) (hsp H hO hS)) fun r s' h=> ?_;cases r with
  |error e=>exact(hCX H e s' h).elim
  |ok fl=>
   cases fl with
   |next=>exact False.elim h
   |brk=>exact False.elim h
   |cont=>exact False.elim h
   |ret u=>
    obtain⟨v,H',os,bare,un,hok',r',q⟩:=h;have q':v=.bl true:=q;subst q';obtain rfl:u=Value.bool true:=r';refine⟨rfl,OldK.of_keep fun b o e=> ?_,os,bare⟩;cases q:H b with
    |none=>exact un.keep b o e q (by intro z;exact absurd (show b∈([]:List Addr) from z) (by simp)) (by simp)
    |some u=>
     rcases hO b with z|⟨ob,xs,z⟩
     ·rw[q] at z;cases z
     ·have z2:=un.frzs b ob _ z;obtain⟨e1,_⟩:=hok b _ z;obtain⟨e2,_⟩:=hok' b _ z2;rw[e] at e1;cases e1
      exact e2
 cases hk:K.lookup a with
 |some o=>
  have e:=KX a o hk;rw[ha] at e
  cases e;refine core (fun _=>none) (fun _=> .inl rfl) (.inr ⟨_,vs.toArray,_,hk,rfl,rfl,rfl,by rw[List.size_toArray,lenV];exact hl,by simpa using rv⟩) (fun b u z=>by have z':(none:Option HO)=some u:=z;cases z') (fun b z=>absurd rfl z) fun z=>absurd rfl z
 |none=>
  refine core (fun b=>if b=a then some (.frz {cls:=.type "list",data:=.seq vs.toArray} (.lst (ns.map V.int))) else none) (fun b=> ?_) (.inl (.inr ⟨{cls:=.type "list",data:=.seq vs.toArray},if_pos rfl⟩)) (fun b u z=> ?_) (fun b z=> ?_) fun _=>hk
  ·by_cases hb:b=a
   ·exact .inr ⟨_,_,if_pos hb⟩
   ·exact .inl (if_neg hb)
  ·by_cases hb:b=a
   ·have z':=(if_pos hb).symm.trans z;cases z';subst hb;exact⟨ha,by rw[List.length_map];exact hl,vs,_,rv,ha⟩
   ·have z':=(if_neg hb).symm.trans z;cases z'
  ·by_cases hb:b=a
   ·exact hb
   ·exact absurd (if_neg hb) z
end L2
namespace L2
open PySem PySem.Spec PyProof.Rows
end L2
namespace L2
open PySem PySem.Spec PyProof.Rows
def Zi7(s:Stmt)(j:Nat):Stmt:=match s with
 | .ClassDef _ _ _ body _ _ _ _ _ _ _=>body.getD j (.Pass ⟨0,0,0,0⟩)
 |_=> .Pass ⟨0,0,0,0⟩
def ZbB(s:Stmt):Arguments:=match s with
 | .FunctionDef _ a _ _ _ _ _ _ _ _=>a
 |_=>{posonlyargs:=[],args:=[],vararg:=none,kwonlyargs:=[],kw_defaults:=[],kwarg:=none,defaults:=[]}
def Zac(s:Stmt):List Stmt:=match s with
 | .FunctionDef _ _ b _ _ _ _ _ _ _=>b
 |_=>[]
def Zz(s:Stmt):Scope:=match s with
 | .FunctionDef _ _ _ _ _ _ sc _ _ _=>sc
 |_=>{kind:=.function,names:=[],isGenerator:=false,isCoroutine:=false}
abbrev CX0:CXT:=fun _ _ _ _ _ _=>False
abbrev E0:XK:=fun _ _ _=>False
theorem Yh{X:Cx}:JZ CX0 X E0:=fun _ _ _ _ _ _ _ h=>h.elim
structure Fun (K:PySem.W.Frag) (x qual:Str) (st:Stmt) (f:Addr) (fd:FuncData):Prop where
 ex:∃(oc:Value) (od:Option Addr) (kV doc pm:Value) (an:Option Addr) (cdv ct:Value) (osl:Array (Option Value)),
  fd=PySem.W.fnOf x qual (ZbB st) (Zac st) (Zz st) .none kV doc pm an cdv ct/\K.lookup f=some ⟨oc,od,.func fd,osl⟩/\PySem.W.codeIn K cdv qual=true
 kp:PySem.W.keepIn K (.ref f)=true
section
variable {P:Program} {w:World} {K:PySem.W.Frag} {mg:Str->Option Value} {base:Heap}
theorem Fun.ok{x qual:Str}{st:Stmt}{f:Addr}{fd:FuncData}{N ps:List Str}{k:Nat}{sp:Sp}(F:Fun K x qual st f fd)(S:ZV N ps (Zz st))(len:∀vs H Q E,sp vs H Q E->vs.length=ps.length)
  (hbody:∀(cdv:Value) (A:Around) (outer:List Env) (s:Shared) (H:Hp) (vs:List V) (Q:VK) (E:XK),Xc k (A.deeper (envOfC qual (Zz st) s.heap.objs.size f cdv))->sp vs H Q E->
   ∃t,PSs (Xg CX0 P w K mg base N qual (Zz st) f cdv A outer s H E).nox (Zac st) t/\t {nx:=fun _ H'=>Q .non H',rt:=Q} (ZaB N vs) H):YD P w K mg base CX0 (k+1) f fd ps sp:=by
 obtain⟨oc,od,kV,doc,pm,an,cdv,ct,osl,rfl,lk,hcd⟩:=F.ex;refine ZlM lk hcd S len fun A outer s H vs Q E hr hsp=> ?_;obtain⟨t,h,q⟩:=hbody cdv A outer s H vs Q E hr hsp;exact⟨t,h.nox,q⟩
theorem Fun.binds{x qual:Str}{st:Stmt}{f:Addr}{fd:FuncData}{ps:List Str}(F:Fun K x qual st f fd)
  (h:∀(kV doc pm:Value) (an:Option Addr) (cdv ct:Value) (us:List Value),us.length=ps.length->bindArgs (PySem.W.fnOf x qual (ZbB st) (Zac st) (Zz st) .none kV doc pm an cdv ct) ⟨us,[]⟩=pure (ps.zip us)):JL K fd ps []:=by
 obtain⟨oc,od,kV,doc,pm,an,cdv,ct,osl,rfl,lk,hcd⟩:=F.ex;exact .all (h kV doc pm an cdv ct)
theorem Zhi{x qual:Str}{st:Stmt}{f:Addr}{oc:Value}{od an:Option Addr}{osl:Array (Option Value)}{kV doc pm cdv ct:Value}(l:K.lookup f=some ⟨oc,od,.func (PySem.W.fnOf x qual (ZbB st) (Zac st) (Zz st) .none kV doc pm an cdv ct),osl⟩)
  (c:PySem.W.codeIn K cdv qual=true)(k:PySem.W.keepIn K (.ref f)=true):Fun K x qual st f (PySem.W.fnOf x qual (ZbB st) (Zac st) (Zz st) .none kV doc pm an cdv ct):=⟨⟨oc,od,kV,doc,pm,an,cdv,ct,osl,rfl,l,c⟩,k⟩
end
theorem Zi8{A:Around}{k:Nat}(hr:Xc k A):A.units+1<cLine:=Nat.lt_of_le_of_lt (Nat.add_le_add_left (by decide:1<=64) _) hr.units
section
variable {X:Cx}
theorem pv(i:Nat){x:Str}{pos:Pos}(hN:X.N[i]? =some x:=by rfl)(hv:Vis X.env.scope x:=by first|exact Or.inl rfl|exact Or.inr (Or.inl rfl)|exact Or.inr (Or.inr rfl)) (hd:(x==("__debug__":Str))=false:=by decide)
  (hcd:(x==("__classdict__":Str))=false:=by decide):PE X (.Name x pos) (Zix i):=Zm0 hN hv hd hcd
theorem ZiN:JK X (.builtin "len") (fun xs H Q=>∃a kvs,xs=[V.ref a]/\H a=some (.dK kvs)/\Q (.int kvs.length) H):=by
 intro pins s σ H xs us Q I r h;obtain⟨a,kvs,rfl,ha,q⟩:=h;obtain⟨u,rfl,ru⟩:=Zb2 r;cases ru;exact Znb I (.inl ha) fun t s' I'=>⟨.int kvs.length,H,I',⟨t,rfl⟩,q⟩
end
theorem ZaC{A B:Prop}(h:B):if false=true then A else B:=by
 rw[if_neg Bool.false_ne_true];exact h
theorem JP{A B:Prop}(h:A):if true=true then A else B:=by
 rw[if_pos rfl];exact h
theorem ZaK{c A B:Prop} [Decidable c](h1:c->A)(h2:¬c->B):if c then A else B:=by
 by_cases h:c
 ·rw[if_pos h];exact h1 h
 ·rw[if_neg h];exact h2 h
def ZK(H H':Hp):Prop:=∀b o,H b=some o->H' b=some o
theorem ZK.refl(H:Hp):ZK H H:=fun _ _ h=>h
theorem ZK.trans{H H1 H2:Hp}(a:ZK H H1)(b:ZK H1 H2):ZK H H2:=fun c o h=>b c o (a c o h)
theorem ZK.seq{K:PySem.W.Frag}{H H':Hp}{a:Addr}{xs:List V}(e:ZK H H')(h:SqL K H a xs):SqL K H' a xs:=by
 rcases h with (h|⟨o,h⟩)|h
 ·exact .inl (.inl (e _ _ h))
 ·exact .inl (.inr ⟨o,e _ _ h⟩)
 ·exact .inr h
section
variable {κ:Type} [DecidableEq κ]
theorem Zi9:∀{l:List κ} {k:κ},l.Nodup->¬k∈l->(l++[k]).Nodup
 |[],k,_,_=>by simp
 |a::r,k,h,hk=>by
  obtain⟨h1,h2⟩:=List.nodup_cons.mp h;show(a::(r++[k])).Nodup;refine List.nodup_cons.mpr ⟨fun m=> ?_,Zi9 h2 fun m=>hk (List.mem_cons.mpr (Or.inr m))⟩;rcases List.mem_append.mp m with q|q
  ·exact h1 q
  ·exact hk (List.mem_cons.mpr (Or.inl (List.mem_singleton.mp q).symm))
end
end L2
namespace L3
open PySem PySem.Spec PyProof.Rows L2
theorem up{α:Type}{M:Model}{A:Around}{t:Sem α}{Q:α->Shared->Prop}{E:Value->Shared->Prop}{s:Shared}(h:wpAny M A t Q (fun _ _=>False) s):wpAny M A t Q E s:=wpAny_mono h (fun _ _ z=>z) fun _ _ z=>z.elim
theorem Zl8{prog:Program}{w:World}{A:Around}{E:Value->Shared->Prop}{s:Shared}{l b:Addr}{vs ws:List Value}{Q:Value->Shared->Prop}(hl:s.heap.IsList l vs.toArray)(hb:s.heap.IsList b ws.toArray)
  (h:Q (.ref s.heap.objs.size) {s with heap:=s.heap.push {cls:=.type "list",data:=.seq (vs++ws).toArray}})(hz:vs.length+ws.length<=sizeLine):wpAny (model prog w) A (binaryOp .Add (.ref l) (.ref b)) Q E s:=by
 obtain⟨⟨c1,d1,t1,l1⟩,o1,k1,n1,e1⟩:=id hl;obtain⟨⟨c2,d2,t2,l2⟩,o2,k2,n2,e2⟩:=id hb;simp only at k1 e1 k2 e2
 subst k1 e1 k2 e2;refine concat_meets ⟨_,o1,rfl⟩ ⟨_,o2,rfl⟩ noFill_list_add seq_list_add PySem.F.slot_list_add PySem.F.entry_list_add (PySem.F.args_list_add_2 _ _) (list_addW l b vs.toArray ws.toArray n1 n2 d1 d2 l1 l2 (by simpa using hz)) ⟨o1,o2, ?_⟩;have ea:vs.toArray++ws.toArray=(vs++ws).toArray:=by simp
 rw[ea];exact h
section
variable {X:Cx}
theorem ZbC:OpR X (binaryOp .Mult) (rI IntMulOk fun i j=> .int (i*j)):=opI fun _ _ _ _ _ _ _ hc q=>mul_int q hc
def Znh(K:PySem.W.Frag):R2:=fun x y H Q=>∃l b xs zs,x=.ref l/\y=.ref b/\SqL K H l xs/\SqL K H b zs/\xs.length+zs.length<=sizeLine/\∀p,H p=none->Q (.ref p) (upd H p (.lst (xs++zs)))
theorem Zcp:OpR X (binaryOp .Add) (Znh X.K):=by
 intro pins s σ H x y v u Q I rx ry h;obtain⟨l,b,xs,zs,rfl,rfl,h1,h2,hz,q⟩:=h;cases rx;cases ry;obtain⟨its,r,pl,_⟩:=I.list h1;obtain⟨its2,r2,pl2,_⟩:=I.list h2;obtain⟨m,F⟩:=I.fr;have e1:=r.length;have e2:=r2.length;refine Zl8 pl.isList pl2.isList ?_ (by omega);exact⟨.ref _,_,I.lnew (t':=s.toks) (r.append r2) (by rw[List.length_append];omega),rfl,q _ I.fresh⟩
theorem ZbZ:∀{bs:List Bool} {us:List Value},ZW (bs.map V.bl) us->LSm.BoolsAre us bs
 |[],us,r=>by
  rw[List.map_nil] at r
  cases r;exact .nil
 |b::bs,us,r=>by
  rw[List.map_cons] at r
  cases r with
  |cons r1 r2=>
   cases(show _=Value.bool b from r1);exact .cons b (ZbZ r2)
theorem Zhj(hc:X.calm=true):JK X (.builtin "all") (fun xs H Q=>∃(p:Addr) (bs:List Bool),xs=[.ref p]/\SqL X.K H p (bs.map V.bl)/\Q (.bl (bs.all id)) H):=by
 intro pins s σ H xs us Q I r h;obtain⟨p,bs,rfl,hq,q⟩:=h;obtain⟨u,rfl,rx⟩:=Zb2 r;cases rx;obtain⟨its,r',pl,hz⟩:=I.list hq;have hb:=ZbZ r';have hlt:p<s.heap.objs.size:=pl.lt;refine call_all_walk (wpAny_pyIter_list pl.isList ?_);refine⟨s.heap.objs.size,[s.heap.objs.size,p],[s.heap.objs.size],its.toArray.size,_,_,fun i=>(bs[i]?).getD true,rfl,Walks.list (A:=X.A.in1) (I.ok.hd hc) _ p (Nat.ne_of_lt hlt) its.toArray,
  ⟨⟨_,Heap.get?_push_size _ rfl,rfl,rfl⟩,pl.isList.push _⟩,fun i v s' Q' E' hP hQ=> ?_,fun h' tk hk=> ?_⟩
 ·obtain⟨bit,ebit,rfl⟩:=hb.get i v (by simpa using hP);simp only [ebit,Option.getD_some] at hQ
  exact wpAny_truthy_bool hQ
 ·have e:((List.range its.toArray.size).all fun i=>(bs[i]?).getD true)=bs.all id:=by
   rw[List.size_toArray,hb.length];exact LSm.range_all bs
  rw[e];exact⟨.bl (bs.all id),H,I.kept (LSm.kept_iter hk),rfl,q⟩
def ZlP:V->Option Value
 | .ty n=>some (.type n)
 | .ref a=>some (.ref a)
 |_=>none
theorem Zbb:JK X (.builtin "isinstance") (fun xs H Q=>∃x y t c b,xs=[x,y]/\ZlP y=some c/\Zcn X.K H x t/\PySem.W.kitOne X.K t c=some b/\Q (.bl b) H):=by
 intro pins s σ H xs us Q I r h;obtain⟨x,y,t,c,b,rfl,hy,ty,e,q⟩:=h;obtain⟨u,u2,rfl,rx,ry⟩:=Zi1 r;have ec:u2=c:=by
  cases y with
  |ty n=>cases hy;exact ry
  |ref a=>cases hy;exact ry
  |_=>cases hy
 subst ec;exact ZiF I rx ty e fun tk=>⟨.bl b,H,I.tok _,rfl,q⟩
end
def Ext:L2.St->L2.St->Prop
 |[],[]=>True
 |none::a,_::b=>Ext a b
 |some v::a,w::b=>w=some v/\Ext a b
 |_,_=>False
theorem Ext.len:∀{a b:L2.St},Ext a b->a.length=b.length
 |[],[],_=>rfl
 |none::a,_::b,h=>by
  have h:Ext a b:=h;simp[h.len]
 |some v::a,w::b,h=>by
  have h:w=some v/\Ext a b:=h;simp[h.2.len]
 |[],_::_,h=>h.elim
 |none::_,[],h=>h.elim
 |some _::_,[],h=>h.elim
theorem Ext.get:∀{a b:L2.St},Ext a b->∀(i:Nat) (v:V),a[i]? =some (some v)->b[i]? =some (some v)
 |[],[],_,i,v,e=>by simp at e
 |none::a,_::b,h,i,v,e=>by
  have h:Ext a b:=h;cases i with
  |zero=>simp at e
  |succ i=>simpa using h.get i v (by simpa using e)
 |some z::a,w::b,h,i,v,e=>by
  have h:w=some z/\Ext a b:=h;cases i with
  |zero=>
   have e':z=v:=by simpa using e
   subst e';rw[h.1]
   rfl
  |succ i=>simpa using h.2.get i v (by simpa using e)
 |[],_::_,h,_,_,_=>h.elim
 |none::_,[],h,_,_,_=>h.elim
 |some _::_,[],h,_,_,_=>h.elim
def frY(own:List Str)(fr:List (Str×Nat))(σ:L2.St):L2.St:=own.map (fun _=>none)++fr.map fun p=>σ.getD p.2 none
def nmY(own:List Str)(fr:List (Str×Nat)):List Str:=own++fr.map (·.1)
def Xw(X:Cx)(N:List Str)(scope:Scope)(cl:List (Str×Addr))(C:Addr)(s:Shared)(H:Hp)(fp:List Addr):Cx:=
 {X with N:=N,s₀:=s,H₀:=H,env:=compEnvC scope cl C X.env,outer:=X.stack,stack:=X.stack,ex:=fp,fn:=fun _=>false,pn:=[],xe:=fun _ _=>False}
def ZfC:Option NameKind->Bool
 |some .cell=>true
 |some .free=>true
 |_=>false
theorem ZbD{o:Option NameKind}(h:ZfC o=true):o=some .cell\/o=some .free:=by
 cases o with
 |none=>cases h
 |some k=>cases k<;>first|exact .inl rfl|exact .inr rfl|cases h
def Zgp(X:Cx)(scope:Scope):List (Str×Nat)->Prop
 |[]=>True
 |p::r=>(X.N[p.2]? =some p.1/\ZfC (X.env.scope.names.lookup p.1)=true/\ZfC ((relabel scope X.env).names.lookup p.1)=true)/\Zgp X scope r
theorem Zgp.mem{X:Cx}{scope:Scope}:∀{fr:List (Str×Nat)},Zgp X scope fr->∀p∈fr,X.N[p.2]? =some p.1/\ZfC (X.env.scope.names.lookup p.1)=true/\ZfC ((relabel scope X.env).names.lookup p.1)=true
 |[],_,p,hp=>by simp at hp
 |q::r,h,p,hp=>by
  have h:_/\Zgp X scope r:=h;rcases List.mem_cons.mp hp with rfl|hmore
  ·exact h.1
  ·exact h.2.mem p hmore
def Zgq(X:Cx):List (Str×Addr)->Prop
 |[]=>True
 |p::r=>X.env.cells.lookup p.1=some p.2/\Zgq X r
theorem Zgq.get{X:Cx}:∀{cl:List (Str×Addr)},Zgq X cl->∀x c,cl.lookup x=some c->X.env.cells.lookup x=some c
 |[],_,x,c,e=>by simp at e
 |(n,a)::r,h,x,c,e=>by
  have h:X.env.cells.lookup n=some a/\Zgq X r:=h
  by_cases hx:x=n
  ·subst hx;simp only [List.lookup_cons,beq_self_eq_true] at e
   cases e;exact h.1
  ·have hb:(x==n)=false:=by simpa using hx
   simp only [List.lookup_cons,hb] at e
   exact h.2.get x c e
def Zd8(scope:Scope)(env:Env)(cl:List (Str×Addr)):Bool:=
 scope.kind==.function&&scope.names.all (fun y=>y.2 !=.cell)&&scope.names.all (fun y=>y.2 !=.local||scope.names.lookup y.1==some .local)&&
 (relabel scope env).names.all (fun y=> !ZfC (some y.2)||(cl.lookup y.1).isSome)
def ZdE:TT:=fun _ H Q=>Q true H
def PTs(X:Cx)(ifs:List Expr)(t:TT):Prop:=
 ∀(pins:List (Addr×Obj)) (s:Shared) (σ:L2.St) (H:Hp) (Q:Bool->Hp->Prop),Inv X pins σ H s->t σ H Q->
  wpAny (model X.prog X.w) X.A (forIn ifs true fun c r=>if r=true then do let ok<-isTrue c X.env (eval c X.env);pure (ForInStep.yield ok) else pure (ForInStep.yield r)) (TP X pins σ Q) X.xe s
theorem Zcq{X:Cx}:PTs X [] ZdE:=fun _ _ _ H _ I h=>wpAny_tests_nil ⟨H,I,h⟩
theorem Zl9{X:Cx}{c:Expr}{t:TT}(h:PT X c t):PTs X [c] t:=fun pins s σ H Q I q=>wpAny_tests_one (h pins s σ H Q I q)
theorem Zia{prog:Program}{w:World}{A:Around}{R:Result->Shared->Prop}{s:Shared}{elt tg iter:Expr}{ifs:List Expr}{scope:Scope}{pos:Pos}{it acc:Value}{env:Env}(J:Nat->Shared->Prop)
  (turn:∀n s,J n s->∀E:Value->Shared->Prop,wpAny (model prog w) A (pyNext it) (fun r s₁=>(r=none/\R (.ok .next) s₁)\/∃v,r=some v/\
    wpAny (model prog w) A (letOwnedTupleGo tg it v) (fun _ s₂=>wpAny (model prog w) A (assign tg env v) (fun _ s₃=>
     wpAny (model prog w) A (forIn ifs true fun c r=>if r=true then do let ok<-isTrue c env (eval c env);pure (ForInStep.yield ok) else pure (ForInStep.yield r)) (fun ok s₄=>
      (ok=true/\wpAny (model prog w) A (eval elt env) (fun x s₅=>wpAny (model prog w) A (call (.builtin "list.append") [acc,x]) (fun _ s₆=>∃m,m<n/\J m s₆) E s₅) E s₄)\/
      (ok=false/\∃m,m<n/\J m s₄)) E s₃) E s₂) E s₁) E s)
  (n:Nat)(h:J n s):codeAny (model prog w) A (.compLoop (.ListComp elt [⟨tg,iter,ifs,0⟩] scope pos) 0 it acc env) R s:=by
 refine codeAny_loop rfl J (fun n s hJ=> ?_) n h;show wpAny _ A ((compTurn (.ListComp elt [⟨tg,iter,ifs,0⟩] scope pos) 0 it acc env).onRaise (fun x=>do noteFrame x env;theTreesLotGoes x)) _ _ s
 refine wpAny_noted ?_;rw[compTurn_list];refine wpAny_bind (wpAny_standAt (wpAny_bind (thn (turn n s hJ _) fun r s₁ h₁=> ?_)));rcases h₁ with ⟨rfl,h₁⟩|⟨v,rfl,h₁⟩
 ·exact wpAny_pure h₁
 ·refine wpAny_bind (thn h₁ fun _ s₂ h₂=>wpAny_bind (thn h₂ fun _ s₃ h₃=>wpAny_bind (thn h₃ fun ok s₄ h₄=> ?_)));rcases h₄ with ⟨rfl,h₄⟩|⟨rfl,h₄⟩
  ·exact wpAny_bind (wpAny_bind (thn h₄ fun x s₅ h₅=>wpAny_bind (thn h₅ fun _ s₆ h₆=>wpAny_pure (wpAny_pure ⟨rfl,h₆⟩))))
  ·exact wpAny_pure ⟨rfl,h₄⟩
def ZjC(J:It)(own:List Str)(fr:List (Str×Nat))(g:TG)(tc:TT)(te:TE)(σ:L2.St)(H1:Hp)(Q:VK):Prop:=∀D,H1 D=none->∃W:Nat->Nat->List V->Hp->Prop,(∃m,W 0 m [] (upd H1 D (.lst [])))/\
 ∀i m ys H2,W i m ys H2->H2 D=some (.lst ys)/\((J.stop i H2/\Q (.ref D) H2)\/(J.go i H2/\∃N:List V->Hp->Prop,(∀zs H',N zs H'->∃m',m'<m/\W (i+1) m' zs H')/\
  ∀x H',J.yld i H2 x H'->g x (frY own fr σ) H' fun σ3 H3=>Ext (frY own fr σ) σ3/\tc σ3 H3 fun b H4=>if b=true then te σ3 H4 fun v H5=>H5 D=some (.lst ys)/\ys.length<sizeLine/\N (ys++[v]) (upd H5 D (.lst (ys++[v]))) else N ys H4))
def Zgr(wi:TI)(own:List Str)(fr:List (Str×Nat))(g:TG)(tc:TT)(te:TE):TE:=fun σ H Q=>wi σ H fun J H1=>ZjC J own fr g tc te σ H1 Q
theorem ZiO{X:Cx}{elt tg iter:Expr}{ifs:List Expr}{scope:Scope}{pos ipos:Pos}{wi:TI}{g:TG}{tc:TT}{te:TE}{cl:List (Str×Addr)}(own:List Str)(fr:List (Str×Nat))(hc:X.calm=true)(hi:PI X tg iter wi)
  (hclos:closureFor scope X.env=pure cl)(hcl:Zgq X cl)(hok:Zd8 scope X.env cl=true)(hfr:Zgp X scope fr)
  (hg:∀C s H fp,PG (Xw X (nmY own fr) scope cl C s H fp) tg g)(ht:∀C s H fp,PTs (Xw X (nmY own fr) scope cl C s H fp) ifs tc)(he:∀C s H fp,PE (Xw X (nmY own fr) scope cl C s H fp) elt te)
  (hs:∀x,foldedSetIterable iter X.env x=pure x){pins:List (Addr×Obj)}{s:Shared}{σ:L2.St}{H:Hp}{Q:VK}{use:Option (Value->Sem Unit)}{PQ:Value->Shared->Prop}(I:Inv X pins σ H s)(h:Zgr wi own fr g tc te σ H Q)
  (hend:∀(s6:Shared) (H5:Hp) (C D:Addr) (m:Str->Option Value),Inv X pins σ H5 s6->s6.heap.Ns C m->Zd3 X pins H5 C->Q (.ref D) H5->compPost (model X.prog X.w) X.A X.xe use PQ (.ref D) C (.ok .next) s6):
  wpAny (model X.prog X.w) X.A (comprehension (.ListComp elt [⟨tg,iter,ifs,0⟩] scope pos) scope X.env ipos (newList []) false (eval iter X.env) use) PQ X.xe s:=by
 have ok1:scope.kind=.function:=by
  unfold Zd8 at hok
  simp only [Bool.and_eq_true,beq_iff_eq] at hok
  exact hok.1.1.1
 have ok2:∀y∈scope.names,y.2≠.cell:=by
  unfold Zd8 at hok
  simp only [Bool.and_eq_true,List.all_eq_true] at hok
  intro y hy
  simpa using hok.1.1.2 y hy
 have ok3:∀y∈scope.names,y.2=.local->scope.names.lookup y.1=some .local:=by
  unfold Zd8 at hok
  simp only [Bool.and_eq_true,List.all_eq_true] at hok
  intro y hy e;have:=hok.1.2 y hy
  simpa [e] using this
 have ok4:∀x,(relabel scope X.env).names.lookup x=some .cell\/(relabel scope X.env).names.lookup x=some .free->∃c,cl.lookup x=some c:=by
  unfold Zd8 at hok
  simp only [Bool.and_eq_true,List.all_eq_true] at hok
  intro x hx;have key:∀k,(relabel scope X.env).names.lookup x=some k->ZfC (some k)=true->∃c,cl.lookup x=some c:=fun k e hk=>by
   have:=hok.2 (x,k) (PySem.mem_of_lookup e);simp only [hk,Bool.not_true,Bool.false_or] at this
   exact Option.isSome_iff_exists.mp this
  rcases hx with e|e
  ·exact key _ e rfl
  ·exact key _ e rfl
 refine wpAny_comprehension_free (use:=use) rfl hs hclos ok1 ok3 ?_;refine thn (hi pins s σ H _ I h) fun v s1 h1=>thn h1 fun itv s2 h2=> ?_;obtain⟨it,fp,tn,J,H2,e,I2,T,st2,f2,hD⟩:=h2;subst e;have lt2:∀b∈fp,b<s2.heap.objs.size:=fun b hb=>by
  obtain⟨o,e,_⟩:=T.obj _ _ st2 b hb;exact Heap.lt_size e
 refine wpAny_newObj_type (wpAny_newFunctionEnv ok2 (by intro y hy;simp at hy) (fun h₁ hns₁ hsb₁=> ?_) ok1)
 obtain⟨W,⟨m0,w0⟩,turn⟩:=hD s2.heap.objs.size I2.fresh;have I3:Inv X pins σ (upd H2 s2.heap.objs.size (.lst [])) {s2 with heap:=s2.heap.push {cls:=.type "list",data:=.seq ([]:List Value).toArray}}:=I2.lnew (t':=s2.toks) .nil (Nat.zero_le _);have st3:=T.keep 0 _ (s2.heap.push {cls:=.type "list",data:=.seq ([]:List Value).toArray}) st2 fun b hb o e=>Heap.get?_push_of_some _ e;have f3:∀b∈fp,Zd3 X pins (upd H2 s2.heap.objs.size (.lst [])) b:=fun b hb=>⟨by rw[Zf (Nat.ne_of_lt (lt2 b hb))];exact(f2 b hb).1,(f2 b hb).2⟩
 generalize hs3:({s2 with heap:=s2.heap.push {cls:=.type "list",data:=.seq ([]:List Value).toArray}}:Shared)=s3 at I3
 have es3:s3.heap=s2.heap.push {cls:=.type "list",data:=.seq ([]:List Value).toArray}:=by rw[<-hs3]
 have eg3:s3.gens=s2.gens:=by rw[<-hs3]
 have lt3:∀b∈fp,b<s3.heap.objs.size:=fun b hb=>by rw[es3,Heap.size_push];exact Nat.lt_succ_of_lt (lt2 b hb)
 rw[<-es3] at st3
 have hns:h₁.Ns s3.heap.objs.size (fun x=>([]:List (Str×Value)).reverse.lookup x):=by rw[es3];exact hns₁
 have k34:∀b o,s3.heap.get? b=some o->h₁.get? b=some o:=fun b o e=>by
  have hsb:=hsb₁.extBut b o;rw[es3] at e
  exact hsb (Nat.ne_of_lt (Heap.lt_size e)) (Heap.get?_push_of_some _ e)
 generalize hs4:({s3 with heap:=h₁,toks:=s3.toks+([]:List (Str×Value)).length}:Shared)=s4;have es4:s4.heap=h₁:=by rw[<-hs4]
 have st4:tn 0 s4.heap:=T.keep 0 _ _ st3 fun b hb o e=>by rw[es4];exact k34 b o e
 have IY:Inv (Xw X (nmY own fr) scope cl s3.heap.objs.size s3 (upd H2 s2.heap.objs.size (.lst [])) fp) [] (frY own fr σ) (upd H2 s2.heap.objs.size (.lst [])) s4:=by
  refine⟨⟨I3.ok.mod,ok1,I3.ok.glob,I3.ok.blt,Nat.le_refl _,fun x y c e1 e2=>I3.ok.inj x y c (hcl.get x c e1) (hcl.get y c e2),fun x hx=>ok4 x hx,(fun x c z=>nomatch z),I3.ok.hd,I3.ok.frames,.inl rfl,
   fun b hb=>⟨Nat.ne_of_lt (lt3 b hb),fun x c e=>(f3 b hb).2.2.2.2.1 x c (hcl.get x c e)⟩,I3.bs,Nat.le_trans I3.ok.bsz I3.sz,fun b o e hb=> ?_,fun b hb z=> ?_,I3.stack,I3.stkFree⟩,
   by rw[<-hs4];rfl,by rw[<-hs4];exact I3.bare,Un.kept (by rw[es4];exact k34),⟨_,by rw[es4];exact hns,fun i x v e1 e2 e3=> ?_⟩,fun x c e=> ?_,I3.hok.fresh (Nat.le_refl _),fun x c e=>I3.freeC x c (hcl.get x c e),fun p hp=>absurd hp (by simp[Xw]),by rw[es4];exact I3.hok.kept k34, ?_⟩
  ·rcases(f3 b hb).2.2.2.1 with z|z
   ·exact I3.ok.noex b o e z
   ·exact absurd (Nat.lt_of_lt_of_le (Heap.lt_size (I3.ok.bs b o e).1) z) (Nat.lt_irrefl _)
  ·rcases List.mem_cons.mp (I3.stkSub b z) with q|q
   ·exact(f3 b hb).2.1 q
   ·exact(f3 b hb).2.2.1 q
  ·have e1:(own++fr.map (·.1))[i]? =some x:=e1;have e2:(own.map (fun _=>(none:Option V))++fr.map fun p=>σ.getD p.2 none)[i]? =some (some v):=e2;have hi:own.length<=i:=by
    refine Nat.le_of_not_lt fun hlt=> ?_;rw[List.getElem?_append_left (by simpa using hlt),List.getElem?_map] at e2
    cases q:own[i]? with
    |none=>rw[q] at e2;cases e2
    |some a=>rw[q] at e2;cases e2
   rw[List.getElem?_append_right hi,List.getElem?_map] at e1
   rw[List.getElem?_append_right (by simpa using hi),List.getElem?_map,List.length_map] at e2
   cases q:fr[i-own.length]? with
   |none=>rw[q] at e1;cases e1
   |some p=>
    rw[q] at e1 e2
    obtain rfl:p.1=x:=Option.some.inj e1;have e2:σ.getD p.2 none=some v:=Option.some.inj e2;have e4:σ[p.2]? =some (some v):=by
     rw[List.getD_eq_getElem?_getD] at e2
     cases z:σ[p.2]? with
     |none=>rw[z] at e2;cases e2
     |some a=>
      rw[z] at e2
      have e2:a=some v:=e2;rw[e2]
    obtain⟨n1,n2,n3⟩:=hfr.mem p (List.mem_of_getElem? q);obtain⟨m,hn,hl⟩:=I3.loc;have vis:Vis X.env.scope p.1:=.inr (ZbD n2);obtain⟨u,r,l⟩:=hl p.2 p.1 v n1 e4 vis;refine⟨u,r, ?_⟩;rcases l with ⟨k,_⟩|⟨_,c,e,z⟩
    ·have k:X.env.scope.names.lookup p.1=some .local:=k;rw[k] at n2;cases n2
    ·obtain⟨c',e'⟩:=ok4 p.1 (ZbD n3);have e'':=hcl.get _ _ e';rw[e] at e''
     cases e'';obtain⟨o,ho,hd⟩:=z;exact .inr ⟨ZbD n3,c,e',o,by rw[es4];exact k34 c o ho,hd⟩
  ·obtain⟨v,o,ho,hd⟩:=I3.cell x c (hcl.get x c e);exact⟨v,o,by rw[es4];exact k34 c o ho,hd⟩
  ·simp[frY,nmY,Xw]
 have fY:∀{H':Hp} {s':Shared},(∀b∈fp,H' b=none)->∀b∈fp,Zd3 (Xw X (nmY own fr) scope cl s3.heap.objs.size s3 (upd H2 s2.heap.objs.size (.lst [])) fp) [] H' b:=fun{H' _} hn b hb=>
  ⟨hn b hb,Nat.ne_of_lt (lt3 b hb),fun z=>by
   rcases List.mem_cons.mp (I3.stkSub b z) with q|q
   ·exact(f3 b hb).2.1 q
   ·exact(f3 b hb).2.2.1 q,.inl hb,fun x c e=>(f3 b hb).2.2.2.2.1 x c (hcl.get x c e),fun p hp=>absurd hp (by simp[Xw])⟩
 have loop:codeAny (model X.prog X.w) X.A (.compLoop (.ListComp elt [⟨tg,iter,ifs,0⟩] scope pos) 0 (.ref it) (.ref s2.heap.objs.size) (compEnvC scope cl s3.heap.objs.size X.env))
   (compPost (model X.prog X.w) X.A X.xe use PQ (.ref s2.heap.objs.size) s3.heap.objs.size) s4:=by
  refine Zia (fun n s'=>∃i ys H',Inv (Xw X (nmY own fr) scope cl s3.heap.objs.size s3 (upd H2 s2.heap.objs.size (.lst [])) fp) [] (frY own fr σ) H' s'/\tn i s'.heap/\(∀b∈fp,H' b=none)/\W i n ys H') ?_ m0
   ⟨0,[],_,IY,st4,fun b hb=>(f3 b hb).1,w0⟩
  rintro n s5 ⟨i,ys,H5,I5,st5,fr5,w5⟩ E;obtain⟨d5,way⟩:=turn i n ys H5 w5;rcases way with ⟨stop,q⟩|⟨go,N,hN,step⟩
  ·refine thn (T.done (Xw X (nmY own fr) scope cl s3.heap.objs.size s3 (upd H2 s2.heap.objs.size (.lst [])) fp) rfl rfl rfl hc i [] s5 _ H5 E I5 (fY (s':=s5) fr5) st5 stop) fun r s6 ⟨hr,I6⟩=> .inl ⟨hr, ?_⟩;obtain⟨m,hn,_⟩:=I6.loc;have I7:Inv X pins σ H5 s6:=I3.call' (s':=s6) (ch:=fp) I6.os I6.base I6.hok I6.bare (fun b hb=>⟨(f3 b hb).2.2.2.1,(f3 b hb).2.1,(f3 b hb).2.2.2.2.1,(f3 b hb).2.2.2.2.2⟩);exact hend s6 H5 _ _ m I7 hn (I3.fpOk (Nat.le_refl _) I6.free) q
  ·refine thn (T.item (Xw X (nmY own fr) scope cl s3.heap.objs.size s3 (upd H2 s2.heap.objs.size (.lst [])) fp) rfl rfl rfl hc i [] s5 _ H5 E I5 (fY (s':=s5) fr5) st5 go) fun r s6 ⟨u,hr,h6⟩=> .inr ⟨u,hr, ?_⟩;refine thn h6 fun _ s7 ⟨x,H7,I7,r7,y7,st7,fr7⟩=> ?_;have I7':=I7.pinned (fY (s':=s7) fr7) (T.obj _ _ st7);refine up (thn (hg _ _ _ _ _ s7 _ H7 x u _ I7' r7 (step x H7 y7)) fun _ s8 ⟨σ8,H8,I8,x8,q8⟩=> ?_)
   refine up (thn (ht _ _ _ _ _ s8 σ8 H8 _ I8 q8) fun ok s9 ⟨H9,I9,q9⟩=> ?_);have again:∀{σ':L2.St} {H':Hp} {s':Shared} {zs:List V},Inv (Xw X (nmY own fr) scope cl s3.heap.objs.size s3 (upd H2 s2.heap.objs.size (.lst [])) fp) ([]++Zd4 fp s7.heap) σ' H' s'->Ext (frY own fr σ) σ'->N zs H'->
     ∃m,m<n/\∃i ys H',Inv (Xw X (nmY own fr) scope cl s3.heap.objs.size s3 (upd H2 s2.heap.objs.size (.lst [])) fp) [] (frY own fr σ) H' s'/\tn i s'.heap/\(∀b∈fp,H' b=none)/\W i m ys H':=fun{σ' H' s' zs} I' x' n'=>by
    obtain⟨m',hm,w'⟩:=hN zs H' n';refine⟨m',hm,i+1,zs,H',I'.unpinned.weak x'.len fun j v e=>x'.get j v e,T.keep _ _ _ st7 fun b hb o e=>(I'.pin (b,o) (List.mem_append_right _ (List.mem_append_right _ (Jc hb e)))).1,fun b hb=> ?_,w'⟩;obtain⟨o,e,_⟩:=T.obj _ _ st7 b hb;exact(I'.pin (b,o) (List.mem_append_right _ (List.mem_append_right _ (Jc hb e)))).2.1
   cases ok with
   |false=>
    rw[if_neg Bool.false_ne_true] at q9
    exact .inr ⟨rfl,again I9 x8 q9⟩
   |true=>
    rw[if_pos rfl] at q9
    refine .inl ⟨rfl,up (thn (he _ _ _ _ _ s9 σ8 H9 _ I9 q9) fun y s10 ⟨v10,H10,I10,r10,d10,z10,n10⟩=> ?_)⟩;refine up (thn (Xq _ s10 σ8 H10 (.ref s2.heap.objs.size) [v10] _ [y] (fun _ H'=>N (ys++[v10]) H') I10 rfl (.cons r10 .nil) ⟨s2.heap.objs.size,ys,v10,rfl,rfl,d10,z10,n10⟩) fun _ s11 ⟨v11,H11,I11,_,n11⟩=> ?_);exact again I11 x8 n11
 have ZaB:codeAny (model X.prog X.w) X.A (.compStart (.ListComp elt [⟨tg,iter,ifs,0⟩] scope pos) 0 (.ref it) (.ref s2.heap.objs.size) (compEnvC scope cl s3.heap.objs.size X.env))
   (compPost (model X.prog X.w) X.A X.xe use PQ (.ref s2.heap.objs.size) s3.heap.objs.size) s4:=codeAny_compStart_list loop (T.self _ _ _ _ _ st4 loop)
 exact ZaB
theorem Zcr{X:Cx}{elt tg iter:Expr}{ifs:List Expr}{scope:Scope}{pos:Pos}{wi:TI}{g:TG}{tc:TT}{te:TE}{cl:List (Str×Addr)}(own:List Str)(fr:List (Str×Nat))(hc:X.calm=true)(hi:PI X tg iter wi)
  (hclos:closureFor scope X.env=pure cl)(hcl:Zgq X cl)(hok:Zd8 scope X.env cl=true)(hfr:Zgp X scope fr)
  (hg:∀C s H fp,PG (Xw X (nmY own fr) scope cl C s H fp) tg g)(ht:∀C s H fp,PTs (Xw X (nmY own fr) scope cl C s H fp) ifs tc)(he:∀C s H fp,PE (Xw X (nmY own fr) scope cl C s H fp) elt te)
  (hs:∀x,foldedSetIterable iter X.env x=pure x:=by intro _;rfl):PE X (.ListComp elt [⟨tg,iter,ifs,0⟩] scope pos) (Zgr wi own fr g tc te):=by
 intro pins s σ H Q I h;rw[eval_ListComp];refine ZiO (use:=none) own fr hc hi hclos hcl hok hfr hg ht he hs I h fun s6 H5 C D m I6 hn f q=>⟨m,hn,fun h' hs'=> ?_⟩
 exact⟨.ref D,H5,I6.turned (t':=s6.toks) (fun b o hb e=>(hs'.2 b hb).trans e) f.1 f.2.1 f.2.2.2.1 f.2.2.2.2.1 f.2.2.2.2.2,rfl,q⟩
end L3
namespace L3
open PySem PySem.Spec PyProof.Rows L2
theorem Zai:bootBuiltins "len"=some (.builtin "len"):=by decide+kernel
theorem Zmg:bootBuiltins "abs"=some (.builtin "abs"):=by decide+kernel
theorem ZfD:bootBuiltins "max"=some (.builtin "max"):=by decide+kernel
theorem ZjD:bootBuiltins "min"=some (.builtin "min"):=by decide+kernel
theorem Zmh:bootBuiltins "all"=some (.builtin "all"):=by decide+kernel
theorem ZS:bootBuiltins "isinstance"=some (.builtin "isinstance"):=by decide+kernel
theorem Zed:bootBuiltins "int"=some (.type "int"):=by decide+kernel
theorem Zib:bootBuiltins "dict"=some (.type "dict"):=by decide+kernel
structure Cal (P:Program) (w:World) (K:PySem.W.Frag) (mg:Str->Option Value) (base:Heap) (CX:CXT) (k:Nat) (x:Str) (ps:List Str) (sp:Sp):Prop where
 ex:∃(f:Addr) (fd:FuncData),mg x=some (.ref f)/\PySem.W.keepIn K (.ref f)=true/\JL K fd ps []/\YD P w K mg base CX k f fd ps sp
section
variable {X:Cx} {CX:CXT} {k:Nat} {x:Str} {ps:List Str} {sp:Sp} {E:XK} {e:PySem.Expr} {es:List PySem.Expr} {t:TA} {p pos:Pos}
theorem Yc(c:Cal X.prog X.w X.K X.mg X.base CX k x ps sp)(hr:Xc k X.A)(hg:Gl X x)(hx:JZ CX X E)(ha:PA X (e::es) t)(hdb:(x==("__debug__":Str))=false:=by decide)
  (he:starEach (e::es) X.env=(false,eval e X.env)::starEach es X.env:=by rfl)(hpl:(backTo pos (starEach es X.env)).any (·.1)=false:=by rfl):PE X (.Call (.Name x p) (e::es) [] pos) (Zi2 sp [] E t):=by
 obtain⟨f,fd,hm,hk,hb,F⟩:=c.ex;exact ZkY F hr hg hm hk hb .nil hx ha hdb he hpl
theorem Zhk(c:Cal X.prog X.w X.K X.mg X.base CX k x ps sp)(hr:Xc k X.A)(hg:Gl X x)(hx:JZ CX X E)(hdb:(x==("__debug__":Str))=false:=by decide):PE X (.Call (.Name x p) [] [] pos) (Zi2 sp [] E ZkX):=by
 obtain⟨f,fd,hm,hk,hb,F⟩:=c.ex;exact Zjt F hr hg hm hk hb .nil hx hdb
end
theorem Zbc:∀{ns:List Int} {B:Nat},PySem.W.WData.weightAll (ns.map PySem.W.WData.int)<=B->∀i∈ns,Builtin.Int.intBits i<=B
 |[],_,_,i,hi=>by simp at hi
 |n::ns,B,h,i,hi=>by
  have h:PySem.W.WData.weight (.int n)+1+PySem.W.WData.weightAll (ns.map PySem.W.WData.int)<=B:=h;have e:PySem.W.WData.weight (.int n)=Builtin.Int.intBits n:=rfl;rw[e] at h
  rcases List.mem_cons.mp hi with rfl|hi
  ·omega
  ·exact Zbc (by omega) i hi
theorem Zla{l:PySem.W.OpenLaw}{n:Nat}{q:Program}{loose:List Str}{XP:(Str->Option Value)->Heap->Prop}{YP:World->Heap->Prop}{d:DefRec}
  (hn:l.most=some n)(hdf:d.params.defaults=[])
  (call:∀(w:World) (s₀ s₁:Shared) (mg mb:Str->Option Value) (fa:Addr) (a:Addr) (vs:List Value) (ns:List Int),
   PySem.W.Ground q loose [] XP w s₀ mg mb s₁.heap->YP w s₁.heap->mg d.name=some (.ref fa)->
   s₁.heap.get? a=some {cls:=.type "list",data:=.seq vs.toArray}->IntsAre vs ns->ns.length<=n->(∀i∈ns,Builtin.Int.intBits i<=1048576)->s₁.gens= #[]->
   codeAny (model l.prog w) callerA (.call (.ref fa) ⟨[.ref a],[]⟩) (fun r s'=>r=.ok (.ret (.bool true))/\OldK s₁.heap s'.heap/\s'.os=s₁.os/\AllBare s'.gens) s₁):
  PySem.W.WalkO q loose XP YP l.row.toRowW d [] (fun f vs=>PySem.call f vs):=by
 intro w s₀ s₁ mg mb G Y fa o pm cd doc dV kV ho hdata hcode hD hmg hg args vals as hpre hlay hread hwl hlow;obtain rfl:dV=.none:=PySem.W.Dflts.none hD hdf;obtain rfl:kV=.none:=PySem.W.Dflts.noKw hD;obtain⟨a,vs,ns,rfl,rfl,hobj,hints,hlen⟩:=Att.script_of hn hpre hwl;have hb:∀i∈ns,Builtin.Int.intBits i<=1048576:=by
  have h1:PySem.W.WData.layableAll [PySem.W.WData.list (ns.map PySem.W.WData.int)]=true:=hlay;have h2:PySem.W.WData.layable (PySem.W.WData.list (ns.map PySem.W.WData.int))=true:=by simpa [PySem.W.WData.layableAll] using h1
  have h3:PySem.W.WData.weight (PySem.W.WData.list (ns.map PySem.W.WData.int))<=2^20:=by
   unfold PySem.W.WData.layable at h2
   rw[Bool.and_eq_true] at h2
   exact of_decide_eq_true h2.2
  exact Zbc (show PySem.W.WData.weightAll (ns.map PySem.W.WData.int)<=1048576 from h3)
 refine PySem.W.enter_call (codeAny_mono (call w s₀ s₁ mg mb fa a vs ns G Y hmg hobj hints hlen hb hg) fun r s' hq=> ?_);obtain⟨rfl,h2,h3,h4⟩:=hq;exact⟨.inl ⟨.bool true,.bool true,[],rfl,fun _=>rfl,.bool true,Att.post_true l _,fun _=>⟨List.Pairwise.nil,fun _ hm=>(nomatch hm)⟩⟩,h2,h3,h4⟩
def ZjE(K:PySem.W.Frag):Sp:=fun vs H Q _=>∃(a:Addr) (ns:List Int),vs=[.ref a]/\SqL K H a (ns.map V.int)/\ns.length<=63/\(∀i∈ns,Builtin.Int.intBits i<=1048576)/\∀H',Q (.bl true) H'
theorem Zni{l:PySem.W.OpenLaw}{k:Nat}{q:Program}{loose:List Str}{XP:(Str->Option Value)->Heap->Prop}{YP:World->Heap->Prop}{d:DefRec}{K:Params->PySem.W.Frag}{x:Str}
  (hn:l.most=some 63)(hdf:d.params.defaults=[])(hr:Xc k callerA)(hY:∀(w:World) (h:Heap),YP w h->(K w.params).In h)
  (F:∀(w:World) (mg:Str->Option Value) (fa:Addr) (h:Heap),(K w.params).In h->h.Ns mainGlobals mg->mg d.name=some (.ref fa)->
   ∃fd:FuncData,(∀(s:Shared) (u:Value),BindsTo s fd ⟨[u],[]⟩ [(x,u)])/\∀base:Heap,(K w.params).In base->base.Ns mainGlobals mg->YD l.prog w (K w.params) mg base CX0 k fa fd [x] (ZjE (K w.params))):
  PySem.W.WalkO q loose XP YP l.row.toRowW d [] (fun f vs=>PySem.call f vs):=by
 refine Zla hn hdf fun w s₀ s₁ mg mb fa a vs ns G Y hmg hobj hints hlen hb hg=> ?_;have KX:=hY w _ Y;obtain⟨fd,hbd,hF⟩:=F w mg fa _ KX G.T.g hmg;exact ZjB KX G.T.g G.T.b G.T.builtins G.T.nolimit hg hobj hints (Nat.le_trans hlen (by decide)) hr hF hbd (fun H hO hS=>⟨a,ns,rfl,hS,hlen,hb,fun _=>rfl⟩) fun H e s' z=>z
end L3
namespace L3
open PySem PySem.Spec PyProof.Rows L2 PySem.Builtin PySem.Builtin.Str
section
variable {X:Cx}
theorem Zcs:∀{ys:List Str} {us:List Value},ZW (ys.map V.str) us->StrsAre us ys
 |[],us,r=>by
  rw[List.map_nil] at r
  cases r;exact .nil
 |y::ys,us,r=>by
  rw[List.map_cons] at r
  cases r with
  |cons r1 r2=>
   obtain⟨t,e⟩:=r1;subst e;exact .cons y t (Zcs r2)
theorem ZiP:MtR X "str.join" (fun x vs H Q=>∃z p ys,x=.str z/\vs=[.ref p]/\SqL X.K H p (ys.map V.str)/\(ys.map (·.length)).sum+ys.length*z.length<=16777216/\Q (.str (Txt.join z ys)) H):=by
 intro pins s σ H x xs v us Q I rx r h;obtain⟨z,p,ys,rfl,rfl,hS,hk,q⟩:=h;obtain⟨t,rfl⟩:=rx;obtain⟨u,rfl,r2⟩:=Zb2 r;cases r2;obtain⟨its,rv,pl,_⟩:=I.list hS;exact join_list pl.isList (by simpa using Zcs rv) hk fun t' k=>⟨.str _,H,I.tok _,⟨_,rfl⟩,q⟩
abbrev TF:=L2.St->Hp->(Str->Hp->Prop)->Prop
def PF1(X:Cx)(e:PySem.Expr)(t:TF):Prop:=
 ∀(pins:List (Addr×Obj)) (s:Shared) (σ:L2.St) (H:Hp) (Q:Str->Hp->Prop),Inv X pins σ H s->t σ H Q->wpAny (model X.prog X.w) X.A (eval e X.env) (fun u s'=>∃y tk H',u=.str y tk/\Inv X pins σ H' s'/\Q y H') X.xe s
def PFs(X:Cx)(es:List PySem.Expr)(t:Str->TF):Prop:=
 ∀(out:Str) (pins:List (Addr×Obj)) (s:Shared) (σ:L2.St) (H:Hp) (Q:Str->Hp->Prop),Inv X pins σ H s->t out σ H Q->wpAny (model X.prog X.w) X.A (joinParts out (evalEach es X.env)) (fun u s'=>∃y tk H',u=.str y tk/\Inv X pins σ H' s'/\Q y H') X.xe s
theorem ZjF{x:Str}{k:Nat}{pos:Pos}:PF1 X (.Constant (.str x) k pos) (fun _ H Q=>Q x H):=fun _ _ _ H _ I h=>Calls.Constant_str ⟨x,_,H,rfl,I.tok _,h⟩
theorem Zmi:PFs X [] (fun out _ H Q=>out.length<=sizeLine/\Q out H):=fun out _ s _ H _ I h=>joinParts_nil ⟨out,_,H,rfl,I.tok _,h.2⟩ h.1
theorem ZfE{e:PySem.Expr}{es:List PySem.Expr}{t1:TF}{t2:Str->TF}(h1:PF1 X e t1)(h2:PFs X es t2):PFs X (e::es) (fun out σ H Q=>t1 σ H fun y H1=>(out++y).length<=sizeLine/\t2 (out++y) σ H1 Q):=by
 intro out pins s σ H Q I h;show wpAny (model X.prog X.w) X.A (joinParts out (eval e X.env::evalEach es X.env)) _ X.xe s;refine joinParts_cons (thn (h1 pins s σ H _ I h) fun v s1 hv=> ?_);obtain⟨y,tk,H1,rfl,I1,hz,q⟩:=hv;exact⟨hz,h2 (out++y) pins s1 σ H1 Q I1 q⟩
theorem Zlb{v1 v2:PySem.Expr}{rest:List PySem.Expr}{pos:Pos}{t:Str->TF}(h:PFs X (v1::v2::rest) t):PE X (.JoinedStr (v1::v2::rest) pos) (fun σ H Q=>t Str.empty σ H fun y H1=>Q (.str y) H1):=by
 intro pins s σ H Q I q;refine JoinedStr_many (thn (h Str.empty pins s σ H _ I q) fun u s1 hu=> ?_);obtain⟨y,tk,H1,rfl,I1,q1⟩:=hu;exact⟨.str y,H1,I1,⟨tk,rfl⟩,q1⟩
end
end L3
namespace M1
open PySem.Builtin PySem.Builtin.Str PySem
def cs(x:Str):List Nat:=x.cps.toList
theorem Zhl(x y:Str):cs (x++y)=cs x++cs y:=by
 show(x.cps++y.cps).toList=_;rw[Array.toList_append]
 rfl
theorem ZjG(c:Nat):cs ⟨#[c]⟩=[c]:=rfl
theorem ZjH(x:Str):x.length=(cs x).length:=by
 show x.cps.size=x.cps.toList.length;rw[Array.length_toList]
end M1
namespace M2
open PySem M1
end M2
namespace L3
open PySem PySem.Spec PyProof.Rows L2
theorem Zhm{k:Key}{u:Value}(h:Ze5 k u=true):ZR (kV k) u:=by
 rcases YG h with ⟨i,t,rfl,rfl⟩|⟨x,t,rfl,rfl⟩
 ·exact⟨t,rfl⟩
 ·exact⟨t,rfl⟩
theorem ZjI{kvs:List (Key×V)}{vs:List (Key×Value)}(r:KV kvs vs):∀{i:Nat} {p:Key×V},kvs[i]? =some p->∃u,vs[i]? =some (p.1,u)/\ZR p.2 u:=by
 induction r with
 |nil=>intro i p e;simp at e
 |cons h _ ih=>
  intro i p e;cases i with
  |zero=>
   obtain rfl:=Option.some.inj ((List.getElem?_cons_zero ..).symm.trans e);refine⟨_, ?_,h.2⟩;rw[List.getElem?_cons_zero,h.1]
  |succ i=>
   rw[List.getElem?_cons_succ] at e
   obtain⟨u,e1,e2⟩:=ih e;exact⟨u,by rw[List.getElem?_cons_succ];exact e1,e2⟩
section
variable {X:Cx} {pins:List (Addr×Obj)} {σ:L2.St} {H:Hp} {s:Shared} {a n:Addr} {p q:HO}
theorem Zgs(I:L2.Inv X pins σ H s)(h:H a=some p)(h1:∀xs,p≠.tup xs)(h2:∀x,p≠.own x)(h3:∀t,p≠.tbl t)(hf:∀o u,X.H₀ a≠some (.frz o u))(ok:Yz X.prog X.w H s.heap a q):L2.Inv X pins σ (upd H a q) s:=by
 have nn:∀b,H b=none->b≠a:=fun b e z=>by subst z;rw[h] at e;cases e
 refine⟨I.ok,I.os,I.bare,⟨I.base.keep,I.base.slot,fun b o e n hx=> ?_,I.base.there,fun b xs e=> ?_,fun b o u e=> ?_,fun b ps e=> ?_⟩,I.loc,I.cell, ?_,fun x c e=> ?_,fun z hz=> ?_,fun b u e=> ?_,I.len⟩
 ·rw[Zf (nn b (I.base.free b o e n hx))];exact I.base.free b o e n hx
 ·have e2:=I.base.tups b xs e;rw[Zf (fun z=>by subst z;rw[h] at e2;exact h1 xs (Option.some.inj e2))]
  exact e2
 ·rw[Zf (fun z=>by subst z;exact hf o u e)]
  exact I.base.frzs b o u e
 ·obtain⟨m,e2⟩:=I.base.tbls b ps e;exact⟨m,by rw[Zf (fun z=>by subst z;rw[h] at e2;exact h3 _ (Option.some.inj e2))];exact e2⟩
 ·rw[Zf (nn _ I.free)];exact I.free
 ·rw[Zf (nn _ (I.freeC x c e))];exact I.freeC x c e
 ·obtain⟨z1,z2,z3⟩:=I.pin z hz;exact⟨z1,by rw[Zf (nn _ z2)];exact z2,z3⟩
 ·have ho:∀c x,H c=some (.own x)->upd H a q c=some (.own x):=fun c x ec=>by
   rw[Zf (fun z=>by subst z;rw[h] at ec;exact h2 x (Option.some.inj ec))]
   exact ec
  have ht:∀c xs,H c=some (.tup xs)->upd H a q c=some (.tup xs):=fun c xs ec=>by
   rw[Zf (fun z=>by subst z;rw[h] at ec;exact h1 xs (Option.some.inj ec))]
   exact ec
  by_cases hb:b=a
  ·subst hb;rw[Zd] at e
   cases e;exact ok.stay (fun _ _ _ z=>z) (fun c z=>ho c _ z) ht
  ·rw[Zf hb] at e
   exact(I.hok b u e).stay (fun _ _ _ z=>z) (fun c z=>ho c _ z) ht
theorem Zee{kvs:List (Key×V)}(I:L2.Inv X pins σ H s)(h:H a=some (.dK kvs)):∃o,s.heap.get? a=some o/\L2.Inv X pins σ (upd H a (.frz o (.dK kvs))) s:=by
 obtain⟨z1,z2,vs,z3,o,es,ep,z4,z5⟩:=I.hok a _ h;refine⟨o,z4,Zgs I h (fun _ e=>nomatch e) (fun _ e=>nomatch e) (fun _ e=>nomatch e) (fun o' u e=> ?_) ⟨z4,I.hok a _ h⟩⟩;have:=I.base.frzs a o' u e;rw[h] at this
 cases this
theorem XN{o:Obj}{u:HO}(I:L2.Inv X pins σ H s)(h:H a=some (.frz o u))(hf:∀o u,X.H₀ a≠some (.frz o u)):L2.Inv X pins σ (upd H a u) s:=
 Zgs I h (fun _ e=>nomatch e) (fun _ e=>nomatch e) (fun _ e=>nomatch e) hf (I.hok a _ h).2
theorem ZiQ(I:L2.Inv X pins σ H s)(f:Zd3 X pins H n)(ok:Yz X.prog X.w (upd H n q) s.heap n q):L2.Inv X pins σ (upd H n q) s:=by
 obtain⟨f0,f1,f2,f3,f4,f5⟩:=f;have ns:∀b u,H b=some u->b≠n:=fun b u e z=>by subst z;rw[f0] at e;cases e
 refine⟨I.ok,I.os,I.bare,⟨I.base.keep,I.base.slot,fun b o e m hx=> ?_,I.base.there,fun b xs e=> ?_,fun b o u e=> ?_,fun b ps e=> ?_⟩,I.loc,I.cell, ?_,fun x c e=> ?_,fun z hz=> ?_,fun b u e=> ?_,I.len⟩
 ·refine(Zf ?_).trans (I.base.free b o e m hx);rintro rfl;rcases f3 with z|z
  ·exact hx z
  ·exact absurd (Nat.lt_of_lt_of_le (Heap.lt_size e) z) (Nat.lt_irrefl _)
 ·have e2:=I.base.tups b xs e;rw[Zf (ns b _ e2)];exact e2
 ·have e2:=I.base.frzs b o u e;rw[Zf (ns b _ e2)];exact e2
 ·obtain⟨m,e2⟩:=I.base.tbls b ps e;exact⟨m,by rw[Zf (ns b _ e2)];exact e2⟩
 ·rw[Zf (Ne.symm f1)];exact I.free
 ·rw[Zf (f4 x c e)];exact I.freeC x c e
 ·obtain⟨z1,z2,z3⟩:=I.pin z hz;exact⟨z1,by rw[Zf (f5 z hz)];exact z2,z3⟩
 ·by_cases hb:b=n
  ·subst hb;rw[Zd] at e
   cases e;exact ok
  ·rw[Zf hb] at e
   exact(I.hok b u e).stay (fun _ _ _ z=>z) (fun c z=>by rw[Zf (ns c _ z)];exact z) fun c xs z=>by rw[Zf (ns c _ z)];exact z
end
theorem Zf7{P:Program}{w:World}{H:Hp}{h:Heap}{a:Addr}{o:Obj}{kvs:List (Key×V)}(ok:HOk P w H h)(e:H a=some (.frz o (.dK kvs))){es:Array DictEntry}{ep:Nat}(hd:o.data=.dict es ep):
  (a==sysModules)=false/\∃vs,KV kvs vs/\h.DictAt (Yu P w) a vs ep:=by
 obtain⟨ho,z1,z2,vs,z3,o',es',ep',z4,z5,z6,z7⟩:=ok a _ e;rw[ho] at z4
 cases z4;rw[hd] at z6
 cases z6;exact⟨z2,vs,z3,o,es,ho,z5,hd,z7⟩
def Itk(a:Addr)(o:Obj)(kvs:List (Key×V)):It:=
 ⟨fun i H=>H a=some (.frz o (.dK kvs))/\i<kvs.length,fun i H x H'=>H'=H/\∃kv,kvs[i]? =some kv/\x=kV kv.1,fun i H=>H a=some (.frz o (.dK kvs))/\kvs.length<=i⟩
def Iti(a:Addr)(o:Obj)(kvs:List (Key×V)):It:=
 ⟨fun i H=>H a=some (.frz o (.dK kvs))/\i<kvs.length,fun i H x H'=>∃kv p,kvs[i]? =some kv/\H p=none/\x=.ref p/\H'=upd H p (.tup [kV kv.1,kv.2]),fun i H=>H a=some (.frz o (.dK kvs))/\kvs.length<=i⟩
theorem ZiR{P:Program}{w:World}{K:PySem.W.Frag}{tg:PySem.Expr}(a it:Addr){o:Obj}{kvs:List (Key×V)}{es:Array DictEntry}{ep:Nat}(hd:o.data=.dict es ep)(n:Nat)(hn:n=kvs.length):
  Zjn P w K tg (Itk a o kvs) [it] it (fun i h=>h.IsKeyIter it a i n ep) where
 mem:=by simp
 obj:=fun i h st b hb=>by
  have e:b=it:=by simpa using hb
  subst e;obtain⟨o,e,c,d⟩:=st;exact⟨o,e,fun v z=>by rw[d] at z;cases z⟩
 keep:=fun i h h' st k=>st.at fun o e=>k it (by simp) o e
 item:=by
  intro X hP hw hK hc i pins s σ H E I hf st hg;subst hP hw hK;obtain⟨hz,hlt⟩:=hg;obtain⟨_,vs,rv,hm⟩:=Zf7 I.hok hz hd;obtain⟨kv,hx⟩:∃kv,kvs[i]? =some kv:=⟨kvs[i],by simp[hlt]⟩
  obtain⟨u,hu,ru⟩:=ZjI rv hx;obtain⟨f0,f1,f2,f3,f4,f5⟩:=hf it (by simp);have el:n=vs.length:=by rw[hn];exact Paired.length rv
  rw[el] at st
  refine wpAny_pyNext_dict_item st hm hu fun key h' hk st' sb=> ?_;have I1:L2.Inv X pins σ H {s with heap:=h'}:=I.turned (t':=s.toks) (fun b o hb e=>(sb.2 b hb).trans e) f0 f1 f3 f4 f5;obtain⟨ob,e,c,d⟩:=id st';refine⟨key,rfl,Zjo (s:={s with heap:=h'}) e c d (by decide) ⟨kV kv.1,H,I1,Zhm hk,⟨rfl,kv,hx,rfl⟩, ?_,fun b hb=>(hf b hb).1⟩⟩;show h'.IsKeyIter it a (i+1) n ep;rw[el];exact st'
 done:=by
  intro X hP hw hK hc i pins s σ H E I hf st hg;subst hP hw hK;obtain⟨hz,hle⟩:=hg;obtain⟨_,vs,rv,hm⟩:=Zf7 I.hok hz hd;have el:n=vs.length:=by rw[hn];exact Paired.length rv
  rw[el] at st
  obtain⟨f0,f1,f2,f3,f4,f5⟩:=hf it (by simp);exact wpAny_pyNext_dict_end (I.ok.hd hc) st hm (List.getElem?_eq_none (by omega)) fun h' eb=>⟨rfl,I.turned (t':=s.toks) (fun b o hb e=>eb b o hb e) f0 f1 f3 f4 f5⟩
 self:=fun _ _ _ _ _ st h=>wpAny_pyIter_keyiter st h
theorem Zhn{P:Program}{w:World}{K:PySem.W.Frag}{elts:List PySem.Expr}{x1:Nat}{pos:Pos}(a it:Addr){o:Obj}{kvs:List (Key×V)}{es:Array DictEntry}{ep:Nat}(hd:o.data=.dict es ep)(n:Nat)(hn:n=kvs.length):
  Zjn P w K (.Tuple elts x1 pos) (Iti a o kvs) [it] it (fun i h=>∃ok ov,IsItemIter h it a i n ep ok ov) where
 mem:=by simp
 obj:=fun i h st b hb=>by
  have e:b=it:=by simpa using hb
  subst e;obtain⟨ok,ov,e⟩:=st;exact⟨_,e,fun v z=>by cases z⟩
 keep:=fun i h h' ⟨ok,ov,e⟩ k=>⟨ok,ov,k it (by simp) _ e⟩
 item:=by
  intro X hP hw hK hc i pins s σ H E I hf st hg;subst hP hw hK;obtain⟨hz,hlt⟩:=hg;obtain⟨_,vs,rv,hm⟩:=Zf7 I.hok hz hd;obtain⟨kv,hx⟩:∃kv,kvs[i]? =some kv:=⟨kvs[i],by simp[hlt]⟩
  obtain⟨u,hu,ru⟩:=ZjI rv hx;obtain⟨f0,f1,f2,f3,f4,f5⟩:=hf it (by simp);have el:n=vs.length:=by rw[hn];exact Paired.length rv
  rw[el] at st
  obtain⟨ok,ov,st⟩:=st;refine wpAny_pyNext_items_item st hm hu fun key h' hk st' nt sz kp=> ?_;refine⟨_,rfl,wpAny_letOwnedTupleGo_items (s:={s with heap:=h'}) st' fun h2 st2 sb2=> ?_⟩;have nit:s.heap.objs.size≠it:=fun z=>by
   exact absurd (Heap.lt_size st) (by rw[<-z];exact Nat.lt_irrefl _)
  have I1:L2.Inv X pins σ H {s with heap:=h2,toks:=s.toks}:=I.turned (t':=s.toks) (fun b o hb e=>(sb2.2 b hb).trans (kp b o hb e)) f0 f1 f3 f4 f5;have fn:=I.fpOk (H':=H) (Nat.le_refl _) (I.hok.fresh (Nat.le_refl _));have I2:=ZiQ (q:=.tup [kV kv.1,kv.2]) I1 fn ⟨by show 2<=sizeLine;rw[sizeLine_eq];decide,[key,u],.cons (Zhm hk) (.cons ru .nil),{cls:=.type "tuple",data:=.seq #[key,u]},(sb2.2 _ nit).trans nt,rfl,_,rfl⟩
  refine⟨.ref s.heap.objs.size,_,I2,rfl,⟨kv,_,hx,fn.1,rfl,rfl⟩,⟨key,u, ?_⟩,fun b hb=> ?_⟩
  ·show IsItemIter h2 it a (i+1) n ep key u;rw[el];exact st2
  ·have e:b=it:=by simpa using hb
   subst e;rw[Zf (Ne.symm nit)];exact f0
 done:=by
  intro X hP hw hK hc i pins s σ H E I hf st hg;subst hP hw hK;obtain⟨hz,hle⟩:=hg;obtain⟨_,vs,rv,hm⟩:=Zf7 I.hok hz hd;have el:n=vs.length:=by rw[hn];exact Paired.length rv
  rw[el] at st
  obtain⟨ok,ov,st⟩:=st;obtain⟨f0,f1,f2,f3,f4,f5⟩:=hf it (by simp);exact wpAny_pyNext_items_end (I.ok.hd hc) st hm (List.getElem?_eq_none (by omega)) fun h' eb=>⟨rfl,I.turned (t':=s.toks) (fun b o hb e=>eb b o hb e) f0 f1 f3 f4 f5⟩
 self:=fun _ _ _ _ _ ⟨_,_,st⟩ h=>PySem.W.kcp_self st h
section
variable {X:Cx} {tg:PySem.Expr}
def Znj(tl:TE):TI:=fun σ H R=>tl σ H fun x H1=>∃a kvs,x=.ref a/\H1 a=some (.dK kvs)/\∀o,R (Itk a o kvs) (upd H1 a (.frz o (.dK kvs)))
theorem Zic{l:PySem.Expr}{tl:TE}(hl:PE X l tl):PI X tg l (Znj tl):=by
 intro pins s σ H R I h;refine thn (hl pins s σ H _ I h) fun v s1 ⟨x,H1,I1,r1,q1⟩=> ?_;obtain⟨a,kvs,e,hq,q⟩:=q1;subst e;cases r1;obtain⟨o,ho,I2⟩:=Zee I1 hq;obtain⟨z1,z2,vs0,z3,o',es,ep,z4,z5,z6,z7⟩:=I1.hok a _ hq;rw[ho] at z4
 cases z4;obtain⟨hs,vs,rv,hm⟩:=Zf7 I2.hok Zd z6;have el:kvs.length=vs.length:=Paired.length rv;refine wpAny_pyIter_dict hs hm ?_;refine⟨s1.heap.objs.size,[s1.heap.objs.size],_,_,_,rfl,I2.kept (t':=s1.toks) fun b o e=>Heap.get?_push_of_some _ e,ZiR a _ z6 vs.length el.symm,⟨_,Heap.get?_push_size _ rfl,rfl,rfl⟩,fun b hb=> ?_,q o⟩;have e:b=s1.heap.objs.size:=by simpa using hb
 subst e;exact I2.fpOk (Nat.le_refl _) (I2.hok.fresh (Nat.le_refl _))
def JT(v a:Addr):HO:=.ext fun h=>h.IsItemsView v a
def ZjJ(tl:TE):TE:=fun σ H Q=>tl σ H fun x H1=>∃a kvs,x=.ref a/\H1 a=some (.dK kvs)/\∀v,H1 v=none->Q (.ref v) (upd H1 v (JT v a))
theorem Zef{o:PySem.Expr}{to:TE}{apos cpos:Pos}(ho:PE X o to)
  (hbase:attributeBase o "items" X.env (eval o X.env)=eval o X.env:=by rfl)(hline:(apos.endLine==cpos.line)=true:=by rfl):PE X (.Call (.Attribute o "items" apos) [] [] cpos) (ZjJ to):=by
 intro pins s σ H Q I h;refine wpAny_Call_method0_late hbase hline (thn (ho pins s σ H _ I h) fun v s1 ⟨x,H1,I1,r1,a,kvs,e,ha,q1⟩=> ?_);subst e;cases r1;obtain⟨h1,h2⟩:=Zhe (T:="dict") (x:=.ref a) I1 rfl (.inr (.inr (.inl ⟨rfl,.inl ⟨kvs,ha⟩⟩)));obtain⟨z1,z2,vs,z3,z4⟩:=I1.hok a _ ha;refine⟨"dict","dict.items",F.plainAttrs_dict,F.slot_dict_items,F.type_dict_items,h1,h2,Calls.callWith_builtin rfl (PySem.evalArgs_none ?_)⟩
 refine call_meetsIn F.slot_dict_items h1 F.entry_dict_items (F.args_dict_items_1 _) (meets_dict_items (Yu X.prog X.w) a z2) ⟨⟨vs,z4⟩, ?_⟩;refine⟨.ref _,_,I1.laid (a:=s1.heap.objs.size) (o:=JT s1.heap.objs.size a) (t':=s1.toks) (fun b q hq=>Heap.get?_push_of_some _ hq) (Nat.le_refl _) ?_,rfl,q1 _ I1.fresh⟩;refine⟨⟨_,Heap.get?_push_size _ rfl,rfl,rfl⟩,⟨_,Heap.get?_push_size _ rfl⟩,fun g1 g2 z k=> ?_⟩
 obtain⟨ob,e1,e2⟩:=z;exact⟨ob,k _ e1,e2⟩
def ZjK(tl:TE):TI:=fun σ H R=>tl σ H fun x H1=>∃v a kvs,x=.ref v/\H1 v=some (JT v a)/\H1 a=some (.dK kvs)/\∀o,R (Iti a o kvs) (upd H1 a (.frz o (.dK kvs)))
theorem Zgt{l:PySem.Expr}{tl:TE}{elts:List PySem.Expr}{x1:Nat}{pos:Pos}(hl:PE X l tl):PI X (.Tuple elts x1 pos) l (ZjK tl):=by
 intro pins s σ H R I h;refine thn (hl pins s σ H _ I h) fun v s1 ⟨x,H1,I1,r1,q1⟩=> ?_;obtain⟨v,a,kvs,e,hv,hq,q⟩:=q1;subst e;cases r1;have vw:s1.heap.IsItemsView v a:=(I1.hok v _ hv).1;obtain⟨o,ho,I2⟩:=Zee I1 hq;obtain⟨z1,z2,vs0,z3,o',es,ep,z4,z5,z6,z7⟩:=I1.hok a _ hq;rw[ho] at z4
 cases z4;obtain⟨hs,vs,rv,hm⟩:=Zf7 I2.hok Zd z6;have el:kvs.length=vs.length:=Paired.length rv;refine wpAny_pyIter_items vw hm ?_;refine⟨s1.heap.objs.size,[s1.heap.objs.size],_,_,_,rfl,I2.kept (t':=s1.toks) fun b o e=>Heap.get?_push_of_some _ e,Zhn a _ z6 vs.length el.symm,⟨_,_,Heap.get?_push_size _ rfl⟩,fun b hb=> ?_,q o⟩;have e:b=s1.heap.objs.size:=by simpa using hb
 subst e;exact I2.fpOk (Nat.le_refl _) (I2.hok.fresh (Nat.le_refl _))
def ZeO(H₀:Hp)(a:Addr)(H H':Hp):Prop:=(∀o u,H₀ a≠some (.frz o u))/\∃o u,H a=some (.frz o u)/\H'=upd H a u
def ZlQ(H₀:Hp)(a:Addr)(t:TE):TE:=fun σ H Q=>t σ H fun v H1=>∃H2,ZeO H₀ a H1 H2/\Q v H2
theorem Zlc{e:PySem.Expr}{t:TE}(a:Addr)(h:PE X e t):PE X e (ZlQ X.H₀ a t):=fun pins s σ H Q I q=>
 thn (h pins s σ H _ I q) fun _ _ ⟨v,_,I1,r1,H2,⟨hf,o,u,e1,e2⟩,q1⟩=>⟨v,H2,by rw[e2];exact XN I1 e1 hf,r1,q1⟩
def Znk(H₀:Hp)(a:Addr)(t:TS):TS:=fun D σ H=>t {nx:=fun σ' H1=>∃H2,ZeO H₀ a H1 H2/\D.nx σ' H2,rt:=fun v H1=>∃H2,ZeO H₀ a H1 H2/\D.rt v H2,bk:=fun σ' H1=>∃H2,ZeO H₀ a H1 H2/\D.bk σ' H2,ct:=fun σ' H1=>∃H2,ZeO H₀ a H1 H2/\D.ct σ' H2} σ H
theorem Zid{st:Stmt}{t:TS}(a:Addr)(h:PS X st t):PS X st (Znk X.H₀ a t):=fun pins s σ H D I q=>
 thn (h pins s σ H _ I q) fun f _ q1=>by
  cases f with
  |next=>obtain⟨σ7,H7,I7,H2,⟨hf,o,u,e1,e2⟩,q7⟩:=q1;exact⟨σ7,H2,by rw[e2];exact XN I7 e1 hf,q7⟩
  |cont=>obtain⟨σ7,H7,I7,H2,⟨hf,o,u,e1,e2⟩,q7⟩:=q1;exact⟨σ7,H2,by rw[e2];exact XN I7 e1 hf,q7⟩
  |brk=>obtain⟨σ7,H7,I7,H2,⟨hf,o,u,e1,e2⟩,q7⟩:=q1;exact⟨σ7,H2,by rw[e2];exact XN I7 e1 hf,q7⟩
  |ret v=>obtain⟨x7,σ7,H7,I7,r7,H2,⟨hf,o,u,e1,e2⟩,q7⟩:=q1;exact⟨x7,σ7,H2,by rw[e2];exact XN I7 e1 hf,r7,q7⟩
end
end L3
namespace L3
open PySem PySem.Spec PyProof.Rows L2
theorem Znl{A B:Hp->Prop}{σ:L2.St}{H:Hp}(h:A H):ZdE σ H (fun b H5=>if b=true then A H5 else B H5):=by
 unfold ZdE;exact JP h
structure Znm (n:Nat) (Pv:Nat->List V->Hp->Prop) (D:Addr) (J:It) (own:List Str) (fr:List (Str×Nat)) (g:TG) (tc:TT) (te:TE) (σ:L2.St) (H:Hp) (Q:VK):Prop where
 hn:n<=sizeLine
 h0:Pv 0 [] (upd H D (.lst []))
 hlen:∀i ys H2,Pv i ys H2->ys.length<=i
 st:∀i ys zs H2 H3,H2 D=some (.lst zs)->(∀b u,b≠D->H2 b=some u->H3 b=some u)->Pv i ys H2->Pv i ys H3
 hgo:∀i ys H2,Pv i ys H2->i<n->J.go i H2
 hstop:∀ys H2,Pv n ys H2->H2 D=some (.lst ys)->J.stop n H2/\Q (.ref D) H2
 hstep:∀i x ys H2 H3,Pv i ys H2->H2 D=some (.lst ys)->i<n->J.yld i H2 x H3->∀(RT:V->Hp->Prop) (RF:Hp->Prop),(∀v H6,H6 D=some (.lst ys)->Pv (i+1) (ys++[v]) H6->RT v H6)->(∀H5,H5 D=some (.lst ys)->Pv (i+1) ys H5->RF H5)->
   g x (frY own fr σ) H3 fun σ3 H4=>Ext (frY own fr σ) σ3/\tc σ3 H4 fun b H5=>if b=true then te σ3 H5 RT else RF H5
theorem Zeg{J:It}{own:List Str}{fr:List (Str×Nat)}{g:TG}{tc:TT}{te:TE}{σ:L2.St}{H:Hp}{Q:VK}(h:∀D,H D=none->∃n Pv,Znm n Pv D J own fr g tc te σ H Q):ZjC J own fr g tc te σ H Q:=by
 intro D hD;obtain⟨n,Pv,hn,h0,hlen,st,hgo,hstop,hstep⟩:=h D hD;refine⟨fun i m ys H2=>m=n-i/\i<=n/\H2 D=some (.lst ys)/\Pv i ys H2,⟨n,by simp,Nat.zero_le _,Zd,h0⟩, ?_⟩;rintro i m ys H2 ⟨rfl,hi,d2,p2⟩;refine⟨d2, ?_⟩
 by_cases hlt:i<n
 ·refine .inr ⟨hgo i ys H2 p2 hlt,fun zs H'=>H' D=some (.lst zs)/\Pv (i+1) zs H',fun zs H' ⟨e1,e2⟩=>⟨n-(i+1),by omega,rfl,hlt,e1,e2⟩,fun x H' y=> ?_⟩;have l2:=hlen i ys H2 p2;exact hstep i x ys H2 H' p2 d2 hlt y _ _ (fun v H6 e6 p6=>⟨e6,by omega,Zd,st _ _ _ _ _ e6 (fun b u nb e=>by rw[Zf nb];exact e) p6⟩) fun H5 e5 p5=>⟨e5,p5⟩
 ·have e:i=n:=by omega
  subst e;exact .inl (hstop ys H2 p2 d2)
theorem ZdR{J:It}{own:List Str}{fr:List (Str×Nat)}{g:TG}{tc:TT}{te:TE}{σ:L2.St}{H:Hp}{Q:VK}(n:Nat)(out:Nat->List V)(hn:n<=sizeLine)(ho:∀i,(out i).length<=1)
  (hgo:∀i H2,ZK H H2->i<n->J.go i H2)(hstop:∀H2,ZK H H2->J.stop n H2)
  (hstep:∀i x H2 H3,ZK H H2->i<n->J.yld i H2 x H3->∀(RT:V->Hp->Prop) (RF:Hp->Prop),(∀v H6,out i=[v]->ZK H2 H6->RT v H6)->(∀H5,out i=[]->ZK H2 H5->RF H5)->
   g x (frY own fr σ) H3 fun σ3 H4=>Ext (frY own fr σ) σ3/\tc σ3 H4 fun b H5=>if b=true then te σ3 H5 RT else RF H5)
  (q:∀D H2,H D=none->ZK H H2->H2 D=some (.lst ((List.range n).flatMap out))->Q (.ref D) H2):ZjC J own fr g tc te σ H Q:=by
 have len:∀i,((List.range i).flatMap out).length<=i:=by
  intro i
  induction i with
  |zero=>simp
  |succ i ih=>
   have h1:=ho i;rw[List.range_succ,List.flatMap_append,List.length_append];simp only [List.flatMap_cons,List.flatMap_nil,List.append_nil];omega
 have nxt:∀i,(List.range (i+1)).flatMap out=(List.range i).flatMap out++out i:=fun i=>by
  rw[List.range_succ,List.flatMap_append];simp
 refine Zeg fun D hD=>⟨n,fun i ys H2=>ys=(List.range i).flatMap out/\ZK H H2,hn,⟨rfl,fun b u e=>by rw[Zf (Zk e hD)];exact e⟩,fun i ys H2 p=>by rw[p.1];exact len i,fun i ys zs H2 H3 _ k p=>⟨p.1,fun b u e=>k b u (Zk e hD) (p.2 b u e)⟩,
  fun i ys H2 p lt=>hgo i H2 p.2 lt,fun ys H2 p d=>⟨hstop H2 p.2,q D H2 hD p.2 (by rw[<-p.1];exact d)⟩,fun i x ys H2 H3 p d lt y RT RF rt rf=> ?_⟩
 exact hstep i x H2 H3 p.2 lt y RT RF (fun v H6 e s=>rt v H6 (s _ _ d) ⟨by rw[nxt,e,p.1],p.2.trans s⟩) fun H5 e s=>rf H5 (s _ _ d) ⟨by rw[nxt,e,List.append_nil,p.1],p.2.trans s⟩
theorem Zad{α β:Type}(f:α->β):∀l:List α,l.flatMap (fun a=>[f a])=l.map f
 |[]=>rfl
 |a::l=>by rw[List.flatMap_cons,List.map_cons,Zad f l];rfl
theorem Zf8{α β:Type}(xs:List α)(f:α->β)(d:β):(List.range xs.length).map (fun i=>((xs[i]?).map f).getD d)=xs.map f:=by
 apply List.ext_getElem
 ·simp
 ·intro i h1 h2;have h3:i<xs.length:=by simpa using h1
  simp[h3]
theorem Zc0{α β:Type}(f:α->List β):∀xs:List α,(List.range xs.length).flatMap (fun i=>((xs[i]?).map f).getD [])=xs.flatMap f
 |[]=>rfl
 |x::xs=>by
  rw[List.length_cons,List.range_succ_eq_map,List.flatMap_cons,List.flatMap_map,List.flatMap_cons,<-Zc0 f xs]
  rfl
theorem Zho{J:It}{n:Nat}{g:TG}{tb:TS}{D:ZcZ}{σ:L2.St}{H:Hp}(Pv:Nat->L2.St->Hp->Prop)(h0:Pv 0 σ H)(hgo:∀i σ H,i<n->Pv i σ H->J.go i H)(hstop:∀σ H,Pv n σ H->J.stop n H/\D.nx σ H)
  (hs:∀i x σ H H',i<n->Pv i σ H->J.yld i H x H'->g x σ H' fun σ2 H2=>tb {D with nx:=Pv (i+1),ct:=Pv (i+1),bk:=D.nx} σ2 H2):
  ∃W:Nat->Nat->L2.St->Hp->Prop,(∃m,W 0 m σ H)/\∀i m σ H,W i m σ H->
   (J.stop i H/\D.nx σ H)\/(J.go i H/\∃N:L2.St->Hp->Prop,(∀σ' H',N σ' H'->∃m',m'<m/\W (i+1) m' σ' H')/\∀x H',J.yld i H x H'->g x σ H' fun σ2 H2=>tb {D with nx:=N,ct:=N,bk:=D.nx} σ2 H2):=by
 refine⟨fun i m σ H=>m=n-i/\i<=n/\Pv i σ H,⟨n,by simp,Nat.zero_le _,h0⟩, ?_⟩;rintro i m σ H ⟨rfl,hi,p⟩
 by_cases hlt:i<n
 ·exact .inr ⟨hgo i σ H hlt p,Pv (i+1),fun σ' H' p'=>⟨n-(i+1),by omega,rfl,hlt,p'⟩,fun x H' y=>hs i x σ H H' hlt p y⟩
 ·have e:i=n:=by omega
  subst e;exact .inl (hstop σ H p)
theorem ZjL:bootBuiltins "any"=some (.builtin "any"):=by decide+kernel
theorem Zf9:bootBuiltins "sorted"=some (.builtin "sorted"):=by decide+kernel
section
variable {X:Cx} {pins:List (Addr×Obj)} {σ:L2.St} {H:Hp} {s:Shared}
theorem Zmj{h:Heap}{L:Addr}{m m':Str->Option Value}(a:h.Ns L m)(b:h.Ns L m'):m=m':=by
 obtain⟨o,es,ep,e1,e2,_,e3⟩:=a;obtain⟨o',es',ep',f1,f2,_,f3⟩:=b;rw[e1] at f1
 cases f1;rw[e2] at f2
 cases f2;exact funext fun x=>(e3 x).symm.trans (f3 x)
theorem Zhp{m:Str->Option Value}{g:Heap}{tk:Nat}{more:List (Addr×Obj)}(I:L2.Inv X pins σ H s)(hm:s.heap.Ns X.env.locals m)(F:Fr X.base X.env.locals g m)(N:News X.base X.env.locals g (more++ZdP X.base s.heap X.env.locals)):L2.Inv X pins σ H {s with heap:=g,toks:=tk}:=by
 have kp:∀b o,b≠X.env.locals->s.heap.get? b=some o->g.get? b=some o:=fun b o nb e=>by
  cases hb:X.base.get? b with
  |some o'=>
   have e2:=I.bk b o' hb;rw[e] at e2
   cases e2;exact F.keep b o hb
  |none=>exact(N (b,o) (List.mem_append_right _ (ZdC nb hb e))).1
 have nt:∀b u,H b=some u->b≠X.env.locals:=fun b u e z=>by rw[z,I.free] at e;cases e
 refine I.step (g':=s.gens) (d':=s.drawn) (ch:=[]) (fun _ z=>nomatch z) (fun b o nb _ _ e _=>kp b o nb e) (fun b o nb _ _ e _=>⟨o.slots,kp b o nb e⟩) (fun _ _ _ _ n=>n) (fun b o _ e=> ?_) (fun _ _ e=>e) (fun _ _ _ e=>e) (fun _ ps e=>⟨#[],by rw[e];simp⟩)
  (fun m' hm'=>by rw[Zmj hm' hm];exact F.ns) (fun b u e=>(I.hok b u e).stay (fun c v hc z=>kp c v ?_ z) (fun _ z=>z) fun _ _ z=>z) I.bare
 ·by_cases nb:b=X.env.locals
  ·obtain⟨o',_,_,e',_⟩:=F.ns;exact⟨o',by rw[nb];exact e'⟩
  ·exact⟨o,kp b o nb e⟩
 ·rcases hc with rfl|hc
  ·exact nt _ _ e
  ·exact nt _ _ hc
end
section
variable {X:Cx}
theorem Zeh(hc:X.calm=true):JK X (.builtin "any") (fun xs H Q=>∃(p:Addr) (bs:List Bool),xs=[.ref p]/\SqL X.K H p (bs.map V.bl)/\Q (.bl (bs.any id)) H):=by
 intro pins s σ H xs us Q I r h;obtain⟨p,bs,rfl,hq,q⟩:=h;obtain⟨u,rfl,rx⟩:=Zb2 r;cases rx;obtain⟨its,r',pl,hz⟩:=I.list hq;have hb:=ZbZ r';have hlt:p<s.heap.objs.size:=pl.lt;refine call_any_walk (wpAny_pyIter_list pl.isList ?_);refine⟨s.heap.objs.size,[s.heap.objs.size,p],[s.heap.objs.size],its.toArray.size,_,_,fun i=>(bs[i]?).getD false,rfl,Walks.list (A:=X.A.in1) (I.ok.hd hc) _ p (Nat.ne_of_lt hlt) its.toArray,
  ⟨⟨_,Heap.get?_push_size _ rfl,rfl,rfl⟩,pl.isList.push _⟩,fun i v s' Q' E' hP hQ=> ?_,fun h' tk hk=> ?_⟩
 ·obtain⟨bit,ebit,rfl⟩:=hb.get i v (by simpa using hP);simp only [ebit,Option.getD_some] at hQ
  exact wpAny_truthy_bool hQ
 ·have e:((List.range its.toArray.size).any fun i=>(bs[i]?).getD false)=bs.any id:=by
   rw[List.size_toArray,hb.length];exact LSm.range_any bs
  rw[e];exact⟨.bl (bs.any id),H,I.kept (LSm.kept_iter hk),rfl,q⟩
theorem Zct:JK X (.type "dict") (fun xs H Q=>∃a kvs,xs=[.ref a]/\Rd H a (.dK kvs)/\∀p,H p=none->Q (.ref p) (upd H p (.dK kvs))):=by
 intro pins s σ H xs us Q I r h;obtain⟨a,kvs,rfl,hq,q⟩:=h;obtain⟨u,rfl,rx⟩:=Zb2 r;cases rx;exact ZjA I hq fun p s' hp I'=>⟨.ref p,_,I',rfl,q p hp⟩
end
def Zcu(a:Addr)(kvs:List (Key×V))(H H2:Hp):Prop:=(∀b u,b≠a->H b=some u->H2 b=some u)/\∃o,H2 a=some (.frz o (.dK kvs))
theorem Zcu.rd{a:Addr}{kvs:List (Key×V)}{H H2:Hp}(f:Zcu a kvs H H2):Rd H2 a (.dK kvs):=f.2.elim fun o e=> .inr ⟨o,e⟩
theorem Zcu.rd2{a b:Addr}{kvs ks:List (Key×V)}{H H2:Hp}(f:Zcu a kvs H H2)(ha:H a=some (.dK kvs))(hb:Rd H b (.dK ks)):Rd H2 b (.dK ks):=by
 by_cases e:b=a
 ·subst e;rcases hb with hb|⟨o,hb⟩
  ·rw[ha] at hb;cases hb;exact f.rd
  ·rw[ha] at hb;cases hb
 ·rcases hb with hb|⟨o,hb⟩
  ·exact .inl (f.1 b _ e hb)
  ·exact .inr ⟨o,f.1 b _ e hb⟩
theorem Zcu.thaw{H₀:Hp}{a:Addr}{kvs:List (Key×V)}{H H2:Hp}(f:Zcu a kvs H H2)(ha:H a=some (.dK kvs))(hf:∀o u,H₀ a≠some (.frz o u)):ZeO H₀ a H2 (upd H2 a (.dK kvs))/\ZK H (upd H2 a (.dK kvs)):=by
 obtain⟨o,e⟩:=f.2;refine⟨⟨hf,o,_,e,rfl⟩,fun b u h=> ?_⟩
 by_cases hb:b=a
 ·subst hb;rw[ha] at h
  cases h;exact Zd
 ·rw[Zf hb];exact f.1 b u hb h
theorem Zhq{K:PySem.W.Frag}{H₀:Hp}{own:List Str}{fr:List (Str×Nat)}{te:TE}{σ:L2.St}{H:Hp}{Q:VK}{i0 i1 j:Nat}{a:Addr}{kvs:List (Key×V)}(f:Key×V->V)(hv:σ[j]? =some (some (.ref a)))(ha:H a=some (.dK kvs))(hz:kvs.length<=sizeLine)(hf:∀o u,H₀ a≠some (.frz o u))
  (hx:∀v u,Ext (frY own fr σ) (((frY own fr σ).set i0 (some v)).set i1 (some u)))(he:∀kv∈kvs,∀H2 (Q2:VK),Zcu a kvs H H2->(∀H3,ZK H2 H3->Q2 (f kv) H3)->te (((frY own fr σ).set i0 (some (kV kv.1))).set i1 (some kv.2)) H2 Q2)
  (q:∀D H2,ZK H H2->H D=none->H2 D=some (.lst (kvs.map f))->Q (.ref D) H2):ZlQ H₀ a (Zgr (ZjK (ZjJ (Zix j))) own fr (Zm4 K 2 (Zjk (ZhZ i0) (Zjk (ZhZ i1) Zn0))) ZdE te) σ H Q:=by
 refine⟨_,hv,a,kvs,rfl,ha,fun v hv0=>⟨v,a,kvs,rfl,Zd, ?_,fun o=> ?_⟩⟩
 ·rw[Zf (Zk ha hv0)];exact ha
 have hva:v≠a:=fun e=>by rw[e,ha] at hv0;cases hv0
 have fs:∀{H2:Hp},ZK (upd (upd H v (JT v a)) a (.frz o (.dK kvs))) H2->Zcu a kvs H H2:=fun s=>⟨fun b u n e=>s b u (by rw[Zf n,Zf (Zk e hv0)];exact e),o,s _ _ Zd⟩
 refine ZdR kvs.length (fun i=>((kvs[i]?).map fun kv=>[f kv]).getD []) hz (fun i=>by cases kvs[i]? <;>simp) (fun i H2 s lt=>⟨s _ _ Zd,lt⟩) (fun H2 s=>⟨s _ _ Zd,Nat.le_refl _⟩) (fun i x H2 H3 s lt y RT RF rt rf=> ?_) fun D H2 hD s d=> ?_
 ·obtain⟨kv,p,e2,hp,e3,e4⟩:=y;subst e3 e4;have s3:ZK H2 (upd H2 p (.tup [kV kv.1,kv.2])):=fun b u e=>by rw[Zf (Zk e hp)];exact e
  refine⟨p,_,rfl,SqT.of Zd,rfl,_,_,rfl,_,_,rfl,rfl,hx _ _, ?_⟩;unfold ZdE;refine JP ?_;exact he kv (List.mem_of_getElem? e2) _ RT (fs (s.trans s3)) fun H4 s4=>rt _ H4 (by rw[e2];rfl) (s3.trans s4)
 ·have hDa:D≠a:=fun e=>by rw[e,Zd] at hD;cases hD
  have hDv:D≠v:=fun e=>by rw[e,Zf hva,Zd] at hD;cases hD
  obtain⟨t1,t2⟩:=(fs s).thaw ha hf;refine⟨_,t1,q D _ t2 (by rw[Zf hDa,Zf hDv] at hD;exact hD) ?_⟩
  rw[Zf hDa,d,Zc0 (fun kv:Key×V=>[f kv]) kvs,Zad]
end L3
namespace L3
open PySem PySem.Spec PyProof.Rows L2
def EqP(P:Program)(w:World)(A:Around)(s:Shared)(y x:Value)(k:Bool):Prop:=∀(E:Value->Shared->Prop) (Q:Bool->Shared->Prop),Q k s->wpAny (model P w) A (eqBool y x) Q E s
def RcP(P:Program)(w:World)(A:Around)(s:Shared)(op:CmpOp)(y x:Value)(k:Bool):Prop:=∀(E:Value->Shared->Prop) (Q:Value->Shared->Prop),Q (.bool k) s->wpAny (model P w) A (richCompare op y x) Q E s
theorem EqP.refs{P:Program}{w:World}{A:Around}{s:Shared}{l b:Addr}{k:Bool}(n:l≠b)(h:RcP P w A s .Eq (.ref l) (.ref b) k):EqP P w A s (.ref l) (.ref b) k:=by
 intro E Q q;unfold eqBool;refine wpAny_holding (wpAny_ite_split (fun z=>absurd (Value.ref.inj (eq_of_beq z)) n) fun _=>wpAny_bind ?_);exact h E _ (wpAny_truthy_bool q)
abbrev ZdK(d:Option Addr)(t:Array Value)(n:Nat)(sl:Array (Option Value)):Obj:={cls:=.type "list",dict:=d,data:=.seq t n,slots:=sl}
abbrev ZiS(d:Option Addr)(t:Array Value)(n:Nat)(sl:Array (Option Value)):Obj:={cls:=.type "tuple",dict:=d,data:=.seq t n,slots:=sl}
section
variable {P:Program} {w:World} (l b:Addr) (xs ys:Array Value) (n m:Nat) (d1 d2:Option Addr) (s1 s2:Array (Option Value)) (e:Nat->Bool)
theorem ZjM(hz:xs.size=ys.size)(c:Int)(hc:c=2\/c=3)(k:Nat):∀i:Nat,xs.size-i=k->MeetsIn P w (Builtin.«list.__eq__.loop» ⟨[.ref l,.ref b,rawInt i,rawInt c],[]⟩)
  (fun A R s=>s.heap.get? l=some (ZdK d1 xs n s1)/\s.heap.get? b=some (ZdK d2 ys m s2)/\(∀j (h1:j<xs.size) (h2:j<ys.size),EqP P w A.in1 s xs[j] ys[j] (e j))/\
   R (.ok (.ret (.bool (if c=2 then((List.range xs.size).drop i).all e else !((List.range xs.size).drop i).all e)))) s):=by
 induction k with
 |zero=>
  intro i hk A R s h;obtain⟨hq,gs,dr,tk,oss⟩:=s;obtain⟨u1,u2,ue,q⟩:=h;have v1:xs[((i:Nat):Int).toNat]? =none:=by simp;omega
  have v2:ys[((i:Nat):Int).toNat]? =none:=by simp;omega
  have v3:(List.range xs.size).drop i=[]:=by simp;omega
  rw[v3] at q
  rcases hc with rfl|rfl
  ·wp_walk using AutoSeq1.wpAny_loadPart' u1,AutoSeq1.wpAny_loadPart' u2
   rw[v1,v2]
   wp_walk using AutoSeq1.wpAny_loadPart' u1,AutoSeq1.wpAny_loadPart' u2
   show R (.ok (.ret (.bool (xs.size==ys.size)))) _;rw[hz,beq_self_eq_true];exact q
  ·wp_walk using AutoSeq1.wpAny_loadPart' u1,AutoSeq1.wpAny_loadPart' u2
   rw[v1,v2]
   wp_walk using AutoSeq1.wpAny_loadPart' u1,AutoSeq1.wpAny_loadPart' u2
   show R (.ok (.ret (.bool (xs.size !=ys.size)))) _;rw[hz,bne_self_eq_false];exact q
 |succ k ih=>
  intro i hk A R s h;obtain⟨hq,gs,dr,tk,oss⟩:=s;obtain⟨u1,u2,ue,q⟩:=h;have t1:i<xs.size:=by omega
  have t2:i<ys.size:=by omega
  have v1:xs[((i:Nat):Int).toNat]? =some xs[i]:=by simp[t1]
  have v2:ys[((i:Nat):Int).toNat]? =some ys[i]:=by simp[t2]
  have v3:(List.range xs.size).drop i=i::(List.range xs.size).drop (i+1):=by simp[List.drop_eq_getElem_cons,t1]
  have v4:((i:Int)+1)=((i+1:Nat):Int):=by push_cast;rfl
  rw[v3,List.all_cons] at q
  rcases hc with rfl|rfl
  ·wp_walk using AutoSeq1.wpAny_loadPart' u1,AutoSeq1.wpAny_loadPart' u2
   rw[v1,v2];refine wpAny_bind (ue i t1 t2 _ _ ?_);cases ei:e i with
   |true=>
    rw[ei,Bool.true_and] at q
    wp_walk
    rw[v4];refine⟨plainId_quiet MeetsSeq3.plain_eq_loop _,codeAny_builtin MeetsSeq3.entry_eq_loop ?_⟩;rw[Around.under_plainId MeetsSeq3.plain_eq_loop _];exact ih (i+1) (by omega) A R _ ⟨u1,u2,ue,q⟩
   |false=>
    rw[ei,Bool.false_and] at q
    wp_walk using AutoSeq1.wpAny_loadPart' u1,AutoSeq1.wpAny_loadPart' u2
    rw[v1,v2]
    wp_walk
    exact q
  ·wp_walk using AutoSeq1.wpAny_loadPart' u1,AutoSeq1.wpAny_loadPart' u2
   rw[v1,v2];refine wpAny_bind (ue i t1 t2 _ _ ?_);cases ei:e i with
   |true=>
    rw[ei,Bool.true_and] at q
    wp_walk
    rw[v4];refine⟨plainId_quiet MeetsSeq3.plain_eq_loop _,codeAny_builtin MeetsSeq3.entry_eq_loop ?_⟩;rw[Around.under_plainId MeetsSeq3.plain_eq_loop _];exact ih (i+1) (by omega) A R _ ⟨u1,u2,ue,q⟩
   |false=>
    rw[ei,Bool.false_and] at q
    wp_walk using AutoSeq1.wpAny_loadPart' u1,AutoSeq1.wpAny_loadPart' u2
    rw[v1,v2]
    wp_walk
    exact q
theorem Zmk(hz:xs.size=ys.size):MeetsIn P w (Builtin.«list.__eq__» ⟨[.ref l,.ref b],[]⟩) (fun A R s=>s.heap.get? l=some (ZdK d1 xs n s1)/\s.heap.get? b=some (ZdK d2 ys m s2)/\
  (∀j (h1:j<xs.size) (h2:j<ys.size),EqP P w A.in1 s xs[j] ys[j] (e j))/\R (.ok (.ret (.bool ((List.range xs.size).all e)))) s):=by
 intro A R s h;obtain⟨hq,gs,dr,tk,oss⟩:=s;obtain⟨u1,u2,ue,q⟩:=h;have sub:=AutoSeq1.sub_list_list;have v0:¬(xs.size !=ys.size)=true:=by simp[hz]
 wp_walk using AutoSeq1.wpAny_loadPart' u1,AutoSeq1.wpAny_loadPart' u2
 refine⟨plainId_quiet MeetsSeq3.plain_eq_loop _,codeAny_builtin MeetsSeq3.entry_eq_loop ?_⟩;rw[Around.under_plainId MeetsSeq3.plain_eq_loop _];exact ZjM l b xs ys n m d1 d2 s1 s2 e hz 2 (.inl rfl) _ 0 rfl A R _ ⟨u1,u2,ue,by simpa using q⟩
theorem Zml(hz:xs.size=ys.size):MeetsIn P w (Builtin.«list.__ne__» ⟨[.ref l,.ref b],[]⟩) (fun A R s=>s.heap.get? l=some (ZdK d1 xs n s1)/\s.heap.get? b=some (ZdK d2 ys m s2)/\
  (∀j (h1:j<xs.size) (h2:j<ys.size),EqP P w A.in1 s xs[j] ys[j] (e j))/\R (.ok (.ret (.bool (!(List.range xs.size).all e)))) s):=by
 intro A R s h;obtain⟨hq,gs,dr,tk,oss⟩:=s;obtain⟨u1,u2,ue,q⟩:=h;have sub:=AutoSeq1.sub_list_list;have v0:¬(xs.size !=ys.size)=true:=by simp[hz]
 wp_walk using AutoSeq1.wpAny_loadPart' u1,AutoSeq1.wpAny_loadPart' u2
 refine⟨plainId_quiet MeetsSeq3.plain_eq_loop _,codeAny_builtin MeetsSeq3.entry_eq_loop ?_⟩;rw[Around.under_plainId MeetsSeq3.plain_eq_loop _];exact ZjM l b xs ys n m d1 d2 s1 s2 e hz 3 (.inr rfl) _ 0 rfl A R _ ⟨u1,u2,ue,by simpa using q⟩
end
end L3
namespace L3
open PySem PySem.Spec PyProof.Rows L2
section
variable {P:Program} {w:World} (l b:Addr) (xs ys:Array Value) (n m:Nat) (d1 d2:Option Addr) (s1 s2:Array (Option Value)) (e:Nat->Bool)
abbrev JC(xs ys:Array Value)(e:Nat->Bool)(i:Nat):Bool:=((List.range (min xs.size ys.size)).drop i).all e&&xs.size==ys.size
theorem Znn:MeetsIn P w (Builtin.«tuple.__eq__» ⟨[.ref l,.ref b],[]⟩) (fun A R s=>s.heap.get? l=some (ZiS d1 xs n s1)/\s.heap.get? b=some (ZiS d2 ys m s2)/\
  (∀j (h1:j<xs.size) (h2:j<ys.size),EqP P w A.in1 s xs[j] ys[j] (e j))/\R (.ok (.ret (.bool (JC xs ys e 0)))) s):=
 .of_wp fun A R s h=>by
  obtain⟨hq,gs,dr,tk,oss⟩:=s;obtain⟨u1,u2,ue,q⟩:=h;have sub:=AutoSeq1.sub_tuple_tuple;have zl:(xs.toList.zip ys.toList).length=min xs.size ys.size:=by simp
  wp_walk using AutoSeq1.wpAny_loadPart' u1,AutoSeq1.wpAny_loadPart' u2,wpAny_forIn_list _ (fun rest a s'=>a.1=none/\s'=⟨hq,gs,dr,tk,oss⟩/\∃i,rest=(xs.toList.zip ys.toList).drop i/\
   R (.ok (.ret (.bool (JC xs ys e i)))) ⟨hq,gs,dr,tk,oss⟩) _
  case turn=>
   rintro⟨y,x⟩ rest a s' ⟨ha,rfl,i,zr,zq⟩;have lt:i<(xs.toList.zip ys.toList).length:=Nat.lt_of_not_le fun z=>by rw[List.drop_of_length_le z] at zr;cases zr
   have lm:i<min xs.size ys.size:=zl▸lt;have l1:i<xs.size:=by omega
   have l2:i<ys.size:=by omega
   rw[List.drop_eq_getElem_cons lt] at zr
   injection zr with zyx zrest
   obtain rfl:y=xs[i]:=by simpa using congrArg Prod.fst zyx
   obtain rfl:x=ys[i]:=by simpa using congrArg Prod.snd zyx
   have zd:(List.range (min xs.size ys.size)).drop i=i::(List.range (min xs.size ys.size)).drop (i+1):=by simp[List.drop_eq_getElem_cons,lm]
   unfold JC at zq
   rw[zd,List.all_cons] at zq
   refine wpAny_bind (ue i l1 l2 _ _ ?_);cases ei:e i with
   |true=>
    rw[ei,Bool.true_and] at zq
    wp_walk
    exact⟨rfl,rfl,i+1,zrest,zq⟩
   |false=>
    rw[ei,Bool.false_and,Bool.false_and] at zq
    wp_walk
    exact⟨_,rfl,zq⟩
  case fin=>
   rintro⟨a1,a2⟩ s' ⟨ha,rfl,i,zr,zq⟩;simp only at ha
   subst ha;have ge:min xs.size ys.size<=i:=Nat.le_of_not_lt fun z=>by rw[List.drop_eq_getElem_cons (zl▸z:i<(xs.toList.zip ys.toList).length)] at zr;cases zr
   unfold JC at zq
   rw[List.drop_of_length_le (by simpa using ge)] at zq
   wp_walk
   exact⟨_,rfl,by simpa [Builtin.Tuple.tupleCompareSizes] using zq⟩
  case h=>exact⟨rfl,rfl,0,rfl,q⟩
theorem Zno:MeetsIn P w (Builtin.«tuple.__ne__» ⟨[.ref l,.ref b],[]⟩) (fun A R s=>s.heap.get? l=some (ZiS d1 xs n s1)/\s.heap.get? b=some (ZiS d2 ys m s2)/\
  (∀j (h1:j<xs.size) (h2:j<ys.size),EqP P w A.in1 s xs[j] ys[j] (e j))/\R (.ok (.ret (.bool (!JC xs ys e 0)))) s):=
 .of_wp fun A R s h=>by
  obtain⟨hq,gs,dr,tk,oss⟩:=s;obtain⟨u1,u2,ue,q⟩:=h;have sub:=AutoSeq1.sub_tuple_tuple;have zl:(xs.toList.zip ys.toList).length=min xs.size ys.size:=by simp
  wp_walk using AutoSeq1.wpAny_loadPart' u1,AutoSeq1.wpAny_loadPart' u2,wpAny_forIn_list _ (fun rest a s'=>a.1=none/\s'=⟨hq,gs,dr,tk,oss⟩/\∃i,rest=(xs.toList.zip ys.toList).drop i/\
   R (.ok (.ret (.bool (!JC xs ys e i)))) ⟨hq,gs,dr,tk,oss⟩) _
  case turn=>
   rintro⟨y,x⟩ rest a s' ⟨ha,rfl,i,zr,zq⟩;have lt:i<(xs.toList.zip ys.toList).length:=Nat.lt_of_not_le fun z=>by rw[List.drop_of_length_le z] at zr;cases zr
   have lm:i<min xs.size ys.size:=zl▸lt;have l1:i<xs.size:=by omega
   have l2:i<ys.size:=by omega
   rw[List.drop_eq_getElem_cons lt] at zr
   injection zr with zyx zrest
   obtain rfl:y=xs[i]:=by simpa using congrArg Prod.fst zyx
   obtain rfl:x=ys[i]:=by simpa using congrArg Prod.snd zyx
   have zd:(List.range (min xs.size ys.size)).drop i=i::(List.range (min xs.size ys.size)).drop (i+1):=by simp[List.drop_eq_getElem_cons,lm]
   unfold JC at zq
   rw[zd,List.all_cons] at zq
   refine wpAny_bind (ue i l1 l2 _ _ ?_);cases ei:e i with
   |true=>
    rw[ei,Bool.true_and] at zq
    wp_walk
    exact⟨rfl,rfl,i+1,zrest,zq⟩
   |false=>
    rw[ei,Bool.false_and,Bool.false_and] at zq
    wp_walk
    exact⟨_,rfl,zq⟩
  case fin=>
   rintro⟨a1,a2⟩ s' ⟨ha,rfl,i,zr,zq⟩;simp only at ha
   subst ha;have ge:min xs.size ys.size<=i:=Nat.le_of_not_lt fun z=>by rw[List.drop_eq_getElem_cons (zl▸z:i<(xs.toList.zip ys.toList).length)] at zr;cases zr
   unfold JC at zq
   rw[List.drop_of_length_le (by simpa using ge)] at zq
   wp_walk
   exact⟨_,rfl,by simpa [Builtin.Tuple.tupleCompareSizes,bne] using zq⟩
  case h=>exact⟨rfl,rfl,0,rfl,q⟩
end
theorem JV{c:Bool}{Q E:Value->Shared->Prop}{s:Shared}(q:Q (.bool c) s):wants (fun v s'=>v≠.notImplemented/\Q v s') E (.ok (.ret (.bool c))) s:=⟨(fun z=>nomatch z),q⟩
section
variable {P:Program} {w:World} {A:Around} {s:Shared} {l b:Addr} {xs ys:Array Value} {e:Nat->Bool}
theorem ZjN(hl:s.heap.IsList l xs)(hb:s.heap.IsList b ys)(hz:xs.size=ys.size)(hu:A.units<cLine)(he:∀j (h1:j<xs.size) (h2:j<ys.size),EqP P w A.in1 s xs[j] ys[j] (e j)):RcP P w A s .Eq (.ref l) (.ref b) ((List.range xs.size).all e)/\RcP P w A s .NotEq (.ref l) (.ref b) (!(List.range xs.size).all e):=by
 obtain⟨⟨c1,d1,t1,s1⟩,o1,k1,n,e1⟩:=id hl;obtain⟨⟨c2,d2,t2,s2⟩,o2,k2,m,e2⟩:=id hb;simp only at k1 e1 k2 e2
 subst k1 e1 k2 e2;exact⟨fun E Q q=>wpAny_richCompare_same_room hl.typeIs hb.typeIs F.slot_list_eq (call_meetsIn F.slot_list_eq hl.typeIs F.entry_list_eq (F.args_list_eq_2 _ _) (Zmk l b xs ys n m d1 d2 s1 s2 e hz) ⟨o1,o2,he,JV q⟩) hu,
  fun E Q q=>wpAny_richCompare_same_room hl.typeIs hb.typeIs F.slot_list_ne (call_meetsIn F.slot_list_ne hl.typeIs F.entry_list_ne (F.args_list_ne_2 _ _) (Zml l b xs ys n m d1 d2 s1 s2 e hz) ⟨o1,o2,he,JV q⟩) hu⟩
theorem Zfa(hl:s.heap.IsList l xs)(hb:s.heap.IsList b ys)(hz:xs.size≠ys.size)(hu:A.units<cLine):RcP P w A s .Eq (.ref l) (.ref b) false/\RcP P w A s .NotEq (.ref l) (.ref b) true:=
 ⟨fun E Q q=>SeqAt.RcAt.lists_lengths hl hb (by simpa using hz) hu P w E Q q,fun E Q q=>SeqAt.RcNeAt.lists_lengths hl hb (by simpa using hz) hu P w E Q q⟩
theorem Znp(hl:s.heap.IsTuple l xs)(hb:s.heap.IsTuple b ys)(hu:A.units<cLine)(he:∀j (h1:j<xs.size) (h2:j<ys.size),EqP P w A.in1 s xs[j] ys[j] (e j)):RcP P w A s .Eq (.ref l) (.ref b) (JC xs ys e 0)/\RcP P w A s .NotEq (.ref l) (.ref b) (!JC xs ys e 0):=by
 obtain⟨⟨c1,d1,t1,s1⟩,o1,k1,n,e1⟩:=id hl;obtain⟨⟨c2,d2,t2,s2⟩,o2,k2,m,e2⟩:=id hb;simp only at k1 e1 k2 e2
 subst k1 e1 k2 e2;exact⟨fun E Q q=>wpAny_richCompare_same_room hl.typeIs hb.typeIs F.slot_tuple_eq (call_meetsIn F.slot_tuple_eq hl.typeIs F.entry_tuple_eq (F.args_tuple_eq_2 _ _) (Znn l b xs ys n m d1 d2 s1 s2 e) ⟨o1,o2,he,JV q⟩) hu,
  fun E Q q=>wpAny_richCompare_same_room hl.typeIs hb.typeIs F.slot_tuple_ne (call_meetsIn F.slot_tuple_ne hl.typeIs F.entry_tuple_ne (F.args_tuple_ne_2 _ _) (Zno l b xs ys n m d1 d2 s1 s2 e) ⟨o1,o2,he,JV q⟩) hu⟩
def dEq(a b:List (Key×V)):Bool:=a.length==b.length&&a.all fun kv=>match ZaJ b kv.1 with|some u=>eqV kv.2 u|none=>false
theorem Zie{kb:List (Key×V)}{vb:List (Key×Value)}(rb:KV kb vb)(fb:∀kv∈kb,Xi kv.2=true){ka:List (Key×V)}{va:List (Key×Value)}(ra:KV ka va)(fa:∀kv∈ka,Xi kv.2=true):
  PySem.W.KeqHits A s vb va (ka.all fun kv=>match ZaJ kb kv.1 with|some u=>eqV kv.2 u|none=>false):=by
 induction ra with
 |nil=>exact .nil
 | @cons p q ps qs h t ih=>
  obtain⟨k,v⟩:=p;obtain⟨k',u⟩:=q;obtain⟨e1,e2⟩:=h;have e1:k=k':=e1;subst e1;have e2:ZR v u:=e2;have fr:=ih fun kv hm=>fa kv (List.mem_cons_of_mem _ hm);have fv:Xi v=true:=fa (k,v) (List.mem_cons_self ..);have rv:=KV.val rb k;rw[List.all_cons];cases hv:ZaJ kb k with
  |none=>
   rw[hv] at rv
   exact .miss (Zb5.none_of rv)
  |some y=>
   rw[hv] at rv
   cases hw:valueAt vb k with
   |none=>rw[hw] at rv;exact rv.elim
   |some u'=>
    rw[hw] at rv
    have fy:Xi y=true:=by
     unfold ZaJ at hv
     cases hf:kb.find? (fun kv=>decide (kv.1=k)) with
     |none=>rw[hf] at hv;exact nomatch hv
     |some p=>rw[hf] at hv;cases hv;exact fb p (List.mem_of_find?_eq_some hf)
    exact .hit hw (Zhd e2 rv fv fy) fr
theorem Zmm{ka kb:List (Key×V)}{va vb:List (Key×Value)}(ha:(l==sysModules)=false)(hb:(b==sysModules)=false)(da:s.heap.DictOf (Yu P w) l va)(db:s.heap.DictOf (Yu P w) b vb)(ra:KV ka va)(rb:KV kb vb)
  (fa:∀kv∈ka,Xi kv.2=true)(fb:∀kv∈kb,Xi kv.2=true)(hu:A.units<cLine):RcP P w A s .Eq (.ref l) (.ref b) (dEq ka kb)/\RcP P w A s .NotEq (.ref l) (.ref b) (!dEq ka kb):=by
 have e1:ka.length=va.length:=Paired.length ra;have e2:kb.length=vb.length:=Paired.length rb;unfold dEq;rw[e1,e2];exact⟨fun E Q q=>PySem.W.keq_eq ha hb da db hu (fun _=>Zie rb fb ra fa) q,fun E Q q=>PySem.W.keq_ne ha hb da db hu (fun _=>Zie rb fb ra fa) q⟩
end
end L3
namespace L3
open PySem PySem.Spec PyProof.Rows L2
inductive Dt where
 |v (x:V)|lst (ds:List Dt)|tup (ds:List Dt)|dct (kvs:List (Key×V))
inductive Rep (K:PySem.W.Frag) (H:Hp):Dt->V->Prop where
 |flat {x:V} (f:Xi x=true):Rep K H (.v x) x
 |lst {a:Addr} {ds:List Dt} {xs:List V} (h:SqL K H a xs) (r:Paired (Rep K H) ds xs):Rep K H (.lst ds) (.ref a)
 |tup {a:Addr} {ds:List Dt} {xs:List V} (h:SqT K H a xs) (r:Paired (Rep K H) ds xs):Rep K H (.tup ds) (.ref a)
 |dct {a:Addr} {kvs:List (Key×V)} (h:Rd H a (.dK kvs)) (f:∀kv∈kvs,Xi kv.2=true):Rep K H (.dct kvs) (.ref a)
abbrev Zgu(K:PySem.W.Frag)(H:Hp)(ds:List Dt)(xs:List V):Prop:=Paired (Rep K H) ds xs
def YQ:Nat->Dt->Dt->Bool
 |_,.v x,.v y=>eqV x y
 |n+1,.lst a,.lst b=>a.length==b.length&&(a.zip b).all fun p=>YQ n p.1 p.2
 |n+1,.tup a,.tup b=>(a.zip b).all (fun p=>YQ n p.1 p.2)&&a.length==b.length
 |_+1,.dct a,.dct b=>dEq a b
 |_,_,_=>false
def Jp:Nat->Dt->Dt->Bool
 |_,.v _,.v _=>true
 |n+1,.lst a,.lst b=>(a.zip b).all fun p=>Jp n p.1 p.2
 |n+1,.tup a,.tup b=>(a.zip b).all fun p=>Jp n p.1 p.2
 |_+1,.dct _,.dct _=>true
 |_,_,_=>false
theorem Zcv{x:V}(f:Xi x=true):eqV x x=true:=by
 cases x with
 |non=>rfl
 |bl b=>exact beq_self_eq_true b
 |int i=>exact beq_self_eq_true i
 |str z=>exact beq_self_eq_true z
 |_=>exact absurd (show false=true from f) Bool.false_ne_true
theorem ZjO{kvs:List (Key×V)}(nd:(kvs.map (·.1)).Nodup)(f:∀kv∈kvs,Xi kv.2=true):dEq kvs kvs=true:=by
 unfold dEq;rw[beq_self_eq_true,Bool.true_and,List.all_eq_true];intro kv hm;have e:ZaJ kvs kv.1=some kv.2:=by
  clear f
  induction kvs with
  |nil=>cases hm
  |cons p r ih=>
   rw[List.map_cons,List.nodup_cons] at nd
   rcases List.mem_cons.mp hm with rfl|more
   ·exact Zb8 rfl
   ·rw[Zb9 (fun z=>nd.1 (by rw[z];exact List.mem_map.mpr ⟨kv,more,rfl⟩))]
    exact ih nd.2 more
 rw[e];exact Zcv (f kv hm)
theorem Zmn{H:Hp}{a:Addr}{k1 k2:List (Key×V)}(h1:Rd H a (.dK k1))(h2:Rd H a (.dK k2)):k1=k2:=by
 rcases h1 with h1|⟨o1,h1⟩<;>rcases h2 with h2|⟨o2,h2⟩<;>(rw[h1] at h2;cases h2;try rfl)
section
variable {X:Cx} {pins:List (Addr×Obj)} {σ:L2.St} {H:Hp} {s:Shared}
theorem ZjP{a:Addr}{kvs:List (Key×V)}(I:L2.Inv X pins σ H s)(h:Rd H a (.dK kvs)):(kvs.map (·.1)).Nodup:=by
 obtain⟨_,_,vs,rel,dd⟩:=Zb3 I.hok h;rw[KV.keys rel];obtain⟨ep,hat⟩:=dd.dictAt;exact hat.nodup
theorem ZjQ(I:L2.Inv X pins σ H s):∀(n:Nat) (d e:Dt) (x:V),Rep X.K H d x->Rep X.K H e x->Jp n d e=true->YQ n d e=true:=by
 have ZbS:∀n,(∀(d e:Dt) (x:V),Rep X.K H d x->Rep X.K H e x->Jp n d e=true->YQ n d e=true)->∀{ds es:List Dt} {xs:List V},Zgu X.K H ds xs->Zgu X.K H es xs->((ds.zip es).all fun p=>Jp n p.1 p.2)=true->
   ds.length=es.length/\((ds.zip es).all fun p=>YQ n p.1 p.2)=true:=by
  intro n ih ds es xs r1
  induction r1 generalizing es with
  |nil=>intro r2 _;cases r2;exact⟨rfl,rfl⟩
  |cons h1 t1 ih2=>
   intro r2 lk;cases r2 with
   |cons h2 t2=>
    rw[List.zip_cons_cons,List.all_cons,Bool.and_eq_true] at lk
    obtain⟨z1,z2⟩:=ih2 t2 lk.2;refine⟨by simp[z1], ?_⟩;rw[List.zip_cons_cons,List.all_cons,Bool.and_eq_true];exact⟨ih _ _ _ h1 h2 lk.1,z2⟩
 intro n
 induction n with
 |zero=>
  intro d e x h1 h2 lk;cases h1 with
  |flat f=>
   cases h2 with
   |flat f2=>exact Zcv f
   |_=>cases f
  |_=>cases h2<;>cases lk
 |succ n ih=>
  intro d e x h1 h2 lk;cases h1 with
  |flat f=>
   cases h2 with
   |flat f2=>exact Zcv f
   |_=>cases f
  |lst q1 r1=>
   cases h2 with
   |lst q2 r2=>
    cases I.list_inj q1 q2;obtain⟨z1,z2⟩:=ZbS n ih r1 r2 lk;show(_==_&&_)=true;rw[z1,beq_self_eq_true,Bool.true_and];exact z2
   |_=>cases lk
  |tup q1 r1=>
   cases h2 with
   |tup q2 r2=>
    cases I.tuple_inj q1 q2;obtain⟨z1,z2⟩:=ZbS n ih r1 r2 lk;show(_&&_==_)=true;rw[z1,beq_self_eq_true,Bool.and_true];exact z2
   |_=>cases lk
  |dct q1 f1=>
   cases h2 with
   |dct q2 f2=>
    cases Zmn q1 q2;exact ZjO (ZjP I q1) f1
   |_=>cases lk
theorem ZdS{n:Nat}{f:Nat->Dt->Dt->Bool}:∀(ds es:List Dt),((ds.zip es).all fun p=>f n p.1 p.2)=(List.range (min ds.length es.length)).all fun j=>f n (ds.getD j (.v .non)) (es.getD j (.v .non))
 |[],es=>by simp
 |_::_,[]=>by simp
 |d::ds,e::es=>by
  rw[List.zip_cons_cons,List.all_cons,ZdS ds es,List.length_cons,List.length_cons,Nat.succ_min_succ,List.range_succ_eq_map,List.all_cons,List.all_map]
  rfl
theorem ZdT{K:PySem.W.Frag}:∀{ds:List Dt} {xs:List V} {us:List Value} (_:Zgu K H ds xs) (_:ZW xs us) (j:Nat) (h:j<us.length),∃x,Rep K H (ds.getD j (.v .non)) x/\ZR x us[j]
 |_,_,_,.nil,.nil,j,h=>absurd h (Nat.not_lt_zero _)
 |_,_,_,.cons r _,.cons v _,0,_=>⟨_,r,v⟩
 |_,_,_,.cons _ t,.cons _ vt,j+1,h=>by
  obtain⟨x,a,b⟩:=ZdT t vt j (by simpa using h);exact⟨x,a,b⟩
theorem Zcw(I:L2.Inv X pins σ H s):∀(n:Nat) (d e:Dt) (x y:V) (u v:Value) (A:Around),Rep X.K H d x->Rep X.K H e y->ZR x u->ZR y v->Jp n d e=true->A.units+n<cLine->
  EqP X.prog X.w A s u v (YQ n d e)/\(Xi x=false->RcP X.prog X.w A s .Eq u v (YQ n d e)/\RcP X.prog X.w A s .NotEq u v (!YQ n d e)):=by
 have flatEq:∀{x y:V} {u v:Value} {A:Around},Xi x=true->Xi y=true->ZR x u->ZR y v->EqP X.prog X.w A s u v (eqV x y):=fun fx fy rx ry E Q q=>Zhd rx ry fx fy X.prog X.w E Q q;have refl:∀{n:Nat} {d e:Dt} {a b:Addr} {A:Around},Rep X.K H d (.ref a)->Rep X.K H e (.ref b)->Jp n d e=true->(RcP X.prog X.w A s .Eq (.ref a) (.ref b) (YQ n d e)/\RcP X.prog X.w A s .NotEq (.ref a) (.ref b) (!YQ n d e))->
   EqP X.prog X.w A s (.ref a) (.ref b) (YQ n d e)/\(Xi (.ref a)=false->RcP X.prog X.w A s .Eq (.ref a) (.ref b) (YQ n d e)/\RcP X.prog X.w A s .NotEq (.ref a) (.ref b) (!YQ n d e)):=fun{n d e a b A} h1 h2 lk rc=>by
  refine⟨?_,fun _=>rc⟩
  by_cases hab:a=b
  ·subst hab;rw[ZjQ I n d e _ h1 h2 lk];exact fun E Q q=>SeqAt.EqAt.same _ X.prog X.w E Q q
  ·exact EqP.refs hab rc.1
 have item:∀n,(∀(d e:Dt) (x y:V) (u v:Value) (A:Around),Rep X.K H d x->Rep X.K H e y->ZR x u->ZR y v->Jp n d e=true->A.units+n<cLine->
   EqP X.prog X.w A s u v (YQ n d e)/\(Xi x=false->RcP X.prog X.w A s .Eq u v (YQ n d e)/\RcP X.prog X.w A s .NotEq u v (!YQ n d e)))->∀{A:Around} {ds es:List Dt} {xs ys:List V} {us vs:List Value},Zgu X.K H ds xs->Zgu X.K H es ys->ZW xs us->ZW ys vs->
   ((ds.zip es).all fun p=>Jp n p.1 p.2)=true->A.units+(n+1)<cLine->∀j (h1:j<us.toArray.size) (h2:j<vs.toArray.size),EqP X.prog X.w A.in1 s us.toArray[j] vs.toArray[j] (YQ n (ds.getD j (.v .non)) (es.getD j (.v .non))):=by
  intro n ih A ds es xs ys us vs r1 r2 v1 v2 lk hu j h1 h2;have l1:j<us.length:=by simpa using h1
  have l2:j<vs.length:=by simpa using h2
  obtain⟨x,a1,b1⟩:=ZdT r1 v1 j l1;obtain⟨y,a2,b2⟩:=ZdT r2 v2 j l2;have e1:=Paired.length r1;have e2:=Paired.length r2;have e3:=v1.length;have e4:=v2.length;rw[ZdS (f:=Jp),List.all_eq_true] at lk
  have lkj:=lk j (List.mem_range.mpr (by omega));have:=(ih _ _ x y us[j] vs[j] A.in1 a1 a2 b1 b2 lkj (by show A.units+1+n<cLine;omega)).1
  simpa using this
 intro n
 induction n with
 |zero=>
  intro d e x y u v A h1 h2 rx ry lk hu;cases h1 with
  |flat f=>
   cases h2 with
   |flat f2=>exact⟨flatEq f f2 rx ry,fun z=>by rw[f] at z;cases z⟩
   |_=>cases lk
  |_=>cases h2<;>cases lk
 |succ n ih=>
  intro d e x y u v A h1 h2 rx ry lk hu;have hu0:A.units<cLine:=by omega
  cases h1 with
  |flat f=>
   cases h2 with
   |flat f2=>exact⟨flatEq f f2 rx ry,fun z=>by rw[f] at z;cases z⟩
   |_=>cases lk
  | @lst a ds xs q1 r1=>
   cases h2 with
   | @lst b es ys q2 r2=>
    cases rx;cases ry;refine refl (.lst q1 r1) (.lst q2 r2) lk ?_;obtain⟨us,v1,p1,_⟩:=I.list q1;obtain⟨vs,v2,p2,_⟩:=I.list q2;have e1:=Paired.length r1;have e2:=Paired.length r2;have e3:=v1.length;have e4:=v2.length
    by_cases hz:us.length=vs.length
    ·have rc:=ZjN (P:=X.prog) (w:=X.w) (A:=A) (e:=fun j=>YQ n (ds.getD j (.v .non)) (es.getD j (.v .non))) p1.isList p2.isList (by simpa using hz) hu0 (item n ih r1 r2 v1 v2 lk hu);have ee:YQ (n+1) (.lst ds) (.lst es)=(List.range us.toArray.size).all fun j=>YQ n (ds.getD j (.v .non)) (es.getD j (.v .non)):=by
      show(ds.length==es.length&&((ds.zip es).all fun p=>YQ n p.1 p.2))=_;have el:ds.length=es.length:=by omega
      have eu:us.toArray.size=es.length:=by rw[List.size_toArray];omega
      rw[ZdS (f:=YQ),el,beq_self_eq_true,Bool.true_and,Nat.min_self,eu]
     rw[ee];exact rc
    ·have ee:YQ (n+1) (.lst ds) (.lst es)=false:=by
      show(ds.length==es.length&&((ds.zip es).all fun p=>YQ n p.1 p.2))=false;have el:(ds.length==es.length)=false:=beq_eq_false_iff_ne.mpr (by omega);rw[el,Bool.false_and]
     rw[ee];exact Zfa p1.isList p2.isList (by simpa using hz) hu0
   |_=>cases lk
  | @tup a ds xs q1 r1=>
   cases h2 with
   | @tup b es ys q2 r2=>
    cases rx;cases ry;refine refl (.tup q1 r1) (.tup q2 r2) lk ?_;obtain⟨us,v1,p1,_⟩:=I.tuple q1;obtain⟨vs,v2,p2,_⟩:=I.tuple q2;have e1:=Paired.length r1;have e2:=Paired.length r2;have e3:=v1.length;have e4:=v2.length;have rc:=Znp (P:=X.prog) (w:=X.w) (A:=A) (e:=fun j=>YQ n (ds.getD j (.v .non)) (es.getD j (.v .non))) (show s.heap.IsTuple a us.toArray from p1) (show s.heap.IsTuple b vs.toArray from p2) hu0 (item n ih r1 r2 v1 v2 lk hu)
    have ee:YQ (n+1) (.tup ds) (.tup es)=JC us.toArray vs.toArray (fun j=>YQ n (ds.getD j (.v .non)) (es.getD j (.v .non))) 0:=by
     show(((ds.zip es).all fun p=>YQ n p.1 p.2)&&ds.length==es.length)=_;unfold JC;rw[ZdS (f:=YQ),List.drop_zero,List.size_toArray,List.size_toArray,show us.length=ds.length by omega,show vs.length=es.length by omega]
    rw[ee];exact rc
   |_=>cases lk
  | @dct a ka q1 f1=>
   cases h2 with
   | @dct b kb q2 f2=>
    cases rx;cases ry;refine refl (.dct q1 f1) (.dct q2 f2) lk ?_;obtain⟨_,z1,va,r1,dd1⟩:=Zb3 I.hok q1;obtain⟨_,z2,vb,r2,dd2⟩:=Zb3 I.hok q2;exact Zmm z1 z2 dd1 dd2 r1 r2 f1 f2 hu0
   |_=>cases lk
end
section
variable {X:Cx}
def Znq(K:PySem.W.Frag)(neg:Bool):R2:=fun x y H Q=>∃n d e,n<=30/\Xi x=false/\Rep K H d x/\Rep K H e y/\Jp n d e=true/\Q (.bl (if neg then !YQ n d e else YQ n d e)) H
theorem Zmo(hu:X.A.units+30<cLine):OpR X (compareOp .NotEq) (Znq X.K true):=by
 intro pins s σ H x y v u Q I rx ry h;obtain⟨n,d,e,hn,fx,r1,r2,lk,q⟩:=h;exact((Zcw I n d e x y v u X.A r1 r2 rx ry lk (by omega)).2 fx).2 _ _ ⟨.bl _,H,I,rfl,q⟩
theorem Zmp{A:Around}{k:Nat}(hr:Xc k A):A.units+30<cLine:=Nat.lt_of_le_of_lt (Nat.add_le_add_left (by decide:30<=64) _) hr.units
end
end L3
namespace M3
open PySem PySem.Spec PyProof.Rows L2 L3
abbrev Tb:=List (Str×Int)
def kk(c:Tb):List (Key×V):=c.map fun p=>(Sum.inr p.1,V.int p.2)
def lk(c:Tb)(k:Str):Option Int:=(c.find? fun p=>decide (p.1=k)).map (·.2)
def Zcx(c:Tb)(k:Str)(v:Int):Tb:=if(c.any fun p=>decide (p.1=k))=true then c.map (fun p=>if p.1=k then(p.1,v) else p) else c++[(k,v)]
theorem Yy(c:Tb):(kk c).length=c.length:=by unfold kk;rw[List.length_map]
theorem ZfF(c:Tb)(k:Str):ZaJ (kk c) (Sum.inr k)=(lk c k).map V.int:=by
 induction c with
 |nil=>rfl
 |cons p r ih=>
  by_cases e:p.1=k
  ·have h1:lk (p::r) k=some p.2:=by simp[lk,List.find?_cons,e]
   rw[h1];exact Zb8 (p:=(Sum.inr p.1,V.int p.2)) (by rw[e])
  ·have h1:lk (p::r) k=lk r k:=by simp[lk,List.find?_cons,e]
   rw[h1,<-ih];exact Zb9 (p:=(Sum.inr p.1,V.int p.2)) (fun h=>e (Sum.inr.inj h))
theorem Zmq(c:Tb)(k:Str):((kk c).any fun kv=>decide (kv.1=Sum.inr k))=c.any fun p=>decide (p.1=k):=by
 unfold kk;rw[List.any_map]
 congr 1
 funext p
 show decide ((Sum.inr p.1:Key)=Sum.inr k)=decide (p.1=k);exact Zjg p.1 k
theorem ZjR(c:Tb)(k:Str)(v:Int):Zb7 (kk c) (Sum.inr k) (.int v)=kk (Zcx c k v):=by
 unfold Zb7 Zcx;rw[Zmq];cases c.any fun p=>decide (p.1=k) with
 |true=>
  rw[if_pos rfl,if_pos rfl];unfold kk;rw[List.map_map,List.map_map]
  apply List.map_congr_left
  intro p _;show(if(Sum.inr p.1:Key)=Sum.inr k then((Sum.inr p.1:Key),V.int v) else(Sum.inr p.1,V.int p.2))=(Sum.inr (if p.1=k then(p.1,v) else p).1,V.int (if p.1=k then(p.1,v) else p).2)
  by_cases e:p.1=k
  ·rw[if_pos (by rw[e]),if_pos e]
  ·rw[if_neg (fun h=>e (Sum.inr.inj h)),if_neg e]
 |false=>
  rw[if_neg Bool.false_ne_true,if_neg Bool.false_ne_true];unfold kk;rw[List.map_append]
  rfl
theorem ZdU(c:Tb):∀kv∈kk c,Xi kv.2=true:=by
 intro kv h;unfold kk at h
 obtain⟨p,_,rfl⟩:=List.mem_map.mp h
 rfl
theorem Zhr(c:Tb)(k:Str)(v:Int):(Zcx c k v).length<=c.length+1:=by
 unfold Zcx
 split
 ·rw[List.length_map];omega
 ·rw[List.length_append];exact Nat.le_refl _
theorem ZaL{c:Tb}(nd:(c.map (·.1)).Nodup){p:Str×Int}(h:p∈c):lk c p.1=some p.2:=by
 induction c with
 |nil=>cases h
 |cons q r ih=>
  rw[List.map_cons,List.nodup_cons] at nd
  rcases List.mem_cons.mp h with rfl|more
  ·simp[lk,List.find?_cons]
  ·have e:¬q.1=p.1:=fun z=>nd.1 (by rw[z];exact List.mem_map.mpr ⟨p,more,rfl⟩)
   have h1:lk (q::r) p.1=lk r p.1:=by simp[lk,List.find?_cons,e]
   rw[h1];exact ih nd.2 more
def ZZ(a b:Tb):Bool:=a.all fun p=>match lk b p.1 with|some u=>decide (p.2<=u)|none=>false
theorem ZjS(ps:List Str):M1.cs (Txt.join Str.empty ps)=(ps.map M1.cs).flatten:=by
 have e:Txt.join Str.empty ps=Str.join Str.empty ps:=StrLaws.glued_eq_join _ _;rw[e];clear e
 induction ps with
 |nil=>rfl
 |cons p r ih=>
  cases r with
  |nil=>show M1.cs p=_;simp
  |cons q r=>
   show M1.cs (p++Str.empty++Str.join Str.empty (q::r))=_;rw[M1.Zhl,M1.Zhl,ih];simp[show M1.cs Str.empty=[] from rfl]
end M3
namespace M3
open PySem L2 L3
theorem ZiT{c:Tb}{k:Str}{v:Int}(nd:(c.map (·.1)).Nodup):((Zcx c k v).map (·.1)).Nodup:=by
 unfold Zcx
 split
 ·rw[List.map_map];have e:((fun p:Str×Int=>p.1)∘fun p=>if p.1=k then(p.1,v) else p)=fun p=>p.1:=by
   funext p
   show(if p.1=k then(p.1,v) else p).1=p.1
   split<;>rfl
  rw[e];exact nd
 ·rename_i h
  rw[List.map_append];refine Zi9 nd fun m=>h ?_;obtain⟨p,hp,e⟩:=List.mem_map.mp m;exact List.any_eq_true.mpr ⟨p,hp,decide_eq_true e⟩
end M3
namespace L3
open PySem PySem.Spec PyProof.Rows L2
theorem Zld{X:Cx}{K:PySem.W.Frag}{es:List PySem.Expr}{k:Nat}{t:TGs}{pos:Pos}(n:Nat)(hK:X.K=K)(hc:X.calm=true)(h:PGs X es t)(hn:(assignEach es X.env).length=n)(hst:(assignEach es X.env).findIdx? (·.1)=none):PG X (.Tuple es k pos) (Zm4 K n t):=by
 subst hK;exact Zjl hc h hn hst
end L3
namespace L3
open PySem PySem.Spec PyProof.Rows L2
structure Zhs (P:Program) (w:World) (K:PySem.W.Frag) (mg:Str->Option Value) (base:Heap) (CX:CXT) (k:Nat) (x:Str) (C:Addr) (ps:List Str) (sp:Sp):Prop where
 ex:∃(f:Addr) (fd:FuncData),mg x=some (.ref C)/\Mk K C f/\JL K fd ps []/\YD P w K mg base CX k f fd ps sp
structure Zmr (K:PySem.W.Frag) (mg:Str->Option Value) (x:Str) (C:Addr):Prop where
 at_:mg x=some (.ref C)
 makes:PySem.W.makesIn K C=true
 init:PySem.W.findIn K (.ref C) "__init__"=some (some (.builtin "object.__init__"))
 kp:PySem.W.keepIn K (.ref C)=true
theorem ZjT{P:Program}{w:World}{H:Hp}{h:Heap}{a:Addr}{o:HO}(x:Yz P w H h a o):∃ob,h.get? a=some ob:=by
 cases o with
 |lst xs=>obtain⟨_,_,_,_,e⟩:=x;exact⟨_,e⟩
 |tup xs=>obtain⟨_,_,_,ob,e,_⟩:=x;exact⟨ob,e⟩
 |dK kvs=>obtain⟨_,_,_,_,o,_,_,e,_⟩:=x;exact⟨o,e⟩
 |dT kvs=>obtain⟨_,_,_,_,o,_,_,e,_⟩:=x;exact⟨o,e⟩
 |set S n=>obtain⟨o,_,_,_,e,_⟩:=x;exact⟨o,e⟩
 |ins C dx fs=>obtain⟨_,_,_,e,_⟩:=x;exact⟨_,e⟩
 |own y=>exact x
 |xd fs=>obtain⟨_,⟨o,_,_,e,_⟩,_⟩:=x;exact⟨o,e⟩
 |rng lo hi=>obtain⟨_,_,_,e⟩:=x;exact⟨_,e⟩
 |frz ob u=>exact⟨ob,x.1⟩
 |tbl ps=>exact⟨_,x⟩
 |met f y=>exact⟨_,x⟩
 |ext φ=>exact x.2.1
section
variable {X:Cx} {pins:List (Addr×Obj)} {σ:L2.St} {H:Hp} {s:Shared} {n:Addr} {q:HO}
theorem Za0{σ₁:L2.St}{H₁:Hp}{s':Shared}(I0:L2.Inv X pins σ₁ H₁ s)(I:L2.Inv X pins σ H s')(f0:H n=none)(hn:s.heap.get? n=none)(ok:Yz X.prog X.w (upd H n q) s'.heap n q):L2.Inv X pins σ (upd H n q) s':=by
 have ns:∀b u,H b=some u->b≠n:=fun b u e z=>by subst z;rw[f0] at e;cases e
 have nh:∀b o,s.heap.get? b=some o->b≠n:=fun b o e z=>by subst z;rw[hn] at e;cases e
 have nL:X.env.locals≠n:=by
  obtain⟨m,⟨o,_,_,e,_⟩,_⟩:=I0.loc;exact nh _ o e
 refine⟨I.ok,I.os,I.bare,⟨I.base.keep,I.base.slot,fun b o e m hx=> ?_,I.base.there,fun b xs e=> ?_,fun b o u e=> ?_,fun b ps e=> ?_⟩,I.loc,I.cell, ?_,fun x c e=> ?_,fun z hz=> ?_,fun b u e=> ?_,I.len⟩
 ·refine(Zf ?_).trans (I.base.free b o e m hx);obtain⟨o',z⟩:=I0.base.there b o e hx;exact nh b o' z
 ·rw[Zf (ns b _ (I.base.tups b xs e))];exact I.base.tups b xs e
 ·rw[Zf (ns b _ (I.base.frzs b o u e))];exact I.base.frzs b o u e
 ·obtain⟨m,e2⟩:=I.base.tbls b ps e;exact⟨m,by rw[Zf (ns b _ e2)];exact e2⟩
 ·rw[Zf nL];exact I.free
 ·obtain⟨v,o,z,_⟩:=I0.cell x c e;rw[Zf (nh c o z)];exact I.freeC x c e
 ·obtain⟨z1,z2,z3⟩:=I.pin z hz;exact⟨z1,by rw[Zf (nh z.1 z.2 (I0.pin z hz).1)];exact z2,z3⟩
 ·by_cases hb:b=n
  ·subst hb;rw[Zd] at e
   cases e;exact ok
  ·rw[Zf hb] at e
   exact(I.hok b u e).stay (fun _ _ _ z=>z) (fun c z=>by rw[Zf (ns c _ z)];exact z) fun c xs z=>by rw[Zf (ns c _ z)];exact z
theorem Zht{s':Shared}(I0:L2.Inv X pins σ H s)(I:L2.Inv X pins σ H s')(hn:s.heap.get? n=none)(ok:Yz X.prog X.w (upd H n q) s'.heap n q):L2.Inv X pins σ (upd H n q) s':=by
 refine Za0 I0 I ?_ hn ok;cases e:H n with
 |none=>rfl
 |some u=>
  obtain⟨ob,z⟩:=ZjT (I0.hok n u e);rw[hn] at z
  cases z
end
section
variable {X:Cx} {CX:CXT} {k:Nat} {x m:Str} {C:Addr} {ps:List Str} {sp:Sp} {sf:Addr->Sp} {Fam:Addr->Prop} {E:XK} {e o:PySem.Expr} {es:List PySem.Expr} {ta:TE} {t:TA} {p pos apos:Pos}
theorem Zhu(c:Zhs X.prog X.w X.K X.mg X.base CX k x C ps sp)(hr:Xc (k+1) X.A)(hg:Gl X x)(hx:JZ CX X E)(ha:PA X (e::es) t)(hdb:(x==("__debug__":Str))=false:=by decide)
  (he:starEach (e::es) X.env=(false,eval e X.env)::starEach es X.env:=by rfl)(hpl:(backTo pos (starEach es X.env)).any (·.1)=false:=by rfl):PE X (.Call (.Name x p) (e::es) [] pos) (ZlL C sp [] E t):=by
 obtain⟨f,fd,hm,M,hb,F⟩:=c.ex;exact ZkZ M F hr hg hm hb .nil hx ha hdb he hpl
def Znr(C:Addr):TE:=fun _ H Q=>∀x dx,H x=none->H dx=none->dx≠x->Q (.ref x) (upd (upd H dx (.own x)) x (.ins C dx []))
theorem Zle(c:Zmr X.K X.mg x C)(hg:Gl X x)(hdb:(x==("__debug__":Str))=false:=by decide):PE X (.Call (.Name x p) [] [] pos) (Znr C):=by
 intro pins s σ H Q I h;refine wpAny_Call_Name_kw (Jk I hg c.at_ ?_ hdb);obtain⟨mm,F⟩:=I.fr;refine PySem.W.callWith_K0 I.kIn c.kp (PySem.W.call_cls0 F I.ok.mod.kin Zji c.makes c.init fun y dy g F' N' hl hlt=> ?_);have I1:L2.Inv X pins σ H {s with heap:=g,toks:=s.toks}:=Zhp (more:=[(y,PySem.W.instObj C dy),(dy,PySem.W.dictOf [] 0)]) I F.ns F' N';have gy:=N' (y,PySem.W.instObj C dy) (List.mem_cons_self ..)
 have gd:=N' (dy,PySem.W.dictOf [] 0) (List.mem_cons_of_mem _ (List.mem_cons_self ..));have fresh:∀z:Addr,dy<=z->z≠X.env.locals->X.base.get? z=none->s.heap.get? z=none:=fun z hz nl nb=>by
  cases e:s.heap.get? z with
  |none=>rfl
  |some ob=>exact absurd (hl (z,ob) (ZdC nl nb e)) (Nat.not_lt.mpr hz)
 have fd:=fresh dy (Nat.le_refl _) gd.2.1 gd.2.2;have fy:=fresh y (Nat.le_of_lt hlt) gy.2.1 gy.2.2;have I2:=Zht (q:=.own y) I I1 fd ⟨_,gd.1⟩;have nH:∀z,s.heap.get? z=none->H z=none:=fun z e=>by
  cases q:H z with
  |none=>rfl
  |some u=>obtain⟨ob,w⟩:=ZjT (I.hok z u q);rw[e] at w;cases w
 have ne:dy≠y:=Nat.ne_of_lt hlt;have I3:L2.Inv X pins σ (upd (upd H dy (.own y)) y (.ins C dy [])) {s with heap:=g,toks:=s.toks}:=by
  have e3:g.Ns dy (fun _=>none):=⟨_, #[],_,gd.1,rfl,(fun e he=>absurd he (by simp)),fun _=>rfl⟩
  have f0:upd H dy (.own y) y=none:=(Zf (Ne.symm ne)).trans (nH y fy);have ok:Yz X.prog X.w (upd (upd H dy (.own y)) y (.ins C dy [])) g y (.ins C dy []):=⟨by rw[Zf ne,Zd],Nat.zero_le _,ne,gy.1,fun _=>none,Heap.Ns1.of_empty e3,fun _=>True.intro,fun z hz=>absurd rfl hz⟩
  have ns:∀b u,upd H dy (.own y) b=some u->b≠y:=fun b u e z=>by subst z;rw[f0] at e;cases e
  have nh:∀b o,s.heap.get? b=some o->b≠y:=fun b o e z=>by subst z;rw[fy] at e;cases e
  refine⟨I2.ok,I2.os,I2.bare,⟨I2.base.keep,I2.base.slot,fun b o e m hx=> ?_,I2.base.there,fun b xs e=> ?_,fun b o u e=> ?_,fun b ps e=> ?_⟩,I2.loc,I2.cell, ?_,fun x c e=> ?_,fun z hz=> ?_,fun b u e=> ?_,I2.len⟩
  ·refine(Zf ?_).trans (I2.base.free b o e m hx);obtain⟨o',z⟩:=I.base.there b o e hx;exact nh b o' z
  ·rw[Zf (ns b _ (I2.base.tups b xs e))];exact I2.base.tups b xs e
  ·rw[Zf (ns b _ (I2.base.frzs b o u e))];exact I2.base.frzs b o u e
  ·obtain⟨m,e2⟩:=I2.base.tbls b ps e;exact⟨m,by rw[Zf (ns b _ e2)];exact e2⟩
  ·rw[Zf (Ne.symm gy.2.1)];exact I2.free
  ·obtain⟨v,o,z,_⟩:=I.cell x c e;rw[Zf (nh c o z)];exact I2.freeC x c e
  ·obtain⟨z1,z2,z3⟩:=I2.pin z hz;exact⟨z1,by rw[Zf (nh z.1 z.2 (I.pin z hz).1)];exact z2,z3⟩
  ·by_cases hb:b=y
   ·subst hb;rw[Zd] at e
    cases e;exact ok
   ·rw[Zf hb] at e
    exact(I2.hok b u e).stay (fun _ _ _ z=>z) (fun c z=>by rw[Zf (ns c _ z)];exact z) fun c xs z=>by rw[Zf (ns c _ z)];exact z
 exact⟨.ref y,_,I3,rfl,h y dy (nH y fy) (nH dy fd) ne⟩
def Zms(K:PySem.W.Frag):R2:=fun x y H Q=>∃a b xs,x=.ref a/\y=.ref b/\SqL K H a xs/\SqL K H b []/\Q (.bl (decide (xs=[]))) H
theorem ZjU(hu:X.A.units+30<cLine):OpR X (compareOp .Eq) (Zms X.K):=by
 intro pins s σ H x y v u Q I rx ry h;obtain⟨a,b,xs,rfl,rfl,h1,h2,q⟩:=h;cases rx;cases ry;obtain⟨us,v1,p1,_⟩:=I.list h1;obtain⟨vs,v2,p2,_⟩:=I.list h2;have e1:=v1.length;have e2:=v2.length;have hu0:X.A.units<cLine:=by omega
 cases xs with
 |nil=>
  have el:us.toArray.size=vs.toArray.size:=by rw[List.size_toArray,List.size_toArray,<-e1,<-e2]
  have z:us.toArray.size=0:=by rw[List.size_toArray,<-e1];rfl
  refine(ZjN (P:=X.prog) (w:=X.w) (e:=fun _=>true) p1.isList p2.isList el hu0 fun j h1 _=>absurd h1 (by omega)).1 _ _ ⟨.bl _,H,I, ?_,q⟩;rw[z]
  rfl
 |cons y r=>exact(Zfa (P:=X.prog) (w:=X.w) p1.isList p2.isList (by rw[List.size_toArray,List.size_toArray,<-e1,<-e2];exact Nat.succ_ne_zero _) hu0).1 _ _ ⟨.bl _,H,I,rfl,q⟩
end
end L3
namespace L3
open PySem PySem.Spec PyProof.Rows L2
theorem ZdV{P:Program}{w:World}{K:PySem.W.Frag}{mg:Str->Option Value}{base:Heap}{CX:CXT}{k:Nat}{f:Addr}{fd:FuncData}{ps:List Str}{sp:Sp}(h:∀vs H Q E,¬sp vs H Q E):YD P w K mg base CX k f fd ps sp:=
 ⟨fun vs H Q E z=>(h vs H Q E z).elim,fun _ _ _ H _ _ vs Q E _ _ _ _ z=>(h vs H Q E z).elim⟩
structure TyC (K:PySem.W.Frag) (C:Addr):Prop where
 cl:Cls K C
 ha:PySem.W.findIn K (.ref C) "__class__"=some (some (.builtin "object.__class__"))
 hn:PySem.W.specialIn K (.builtin "object.__class__") "__get__"=some (some (.builtin "getset_descriptor.__get__"))
 htk:PySem.W.takesIn K (.builtin "object.__class__")=some true
 hm:PySem.W.mroIn K C (.type "object")=some true
theorem TyC.of{K:PySem.W.Frag}{C a dx:Addr}{H:Hp}{fs:List (Str×V)}(t:TyC K C)(e:H a=some (.ins C dx fs)):Zcn K H (.ref a) (.ref C):=.ins e t.cl t.ha t.hn t.htk t.hm
theorem Zb4{c A B:Prop} [Decidable c](hc:¬c)(h:B):if decide c=true then A else B:=by
 rw[decide_eq_false hc];exact ZaC h
theorem Zo0{α:Type}{P:List α->Prop}(h:P []):∀us:List α,us.length=0->P us
 |[],_=>h
theorem Zcy{α:Type}{P:List α->Prop}(h:∀a,P [a]):∀us:List α,us.length=1->P us
 |[a],_=>h a
theorem ZbS{α:Type}{P:List α->Prop}(h:∀a b,P [a,b]):∀us:List α,us.length=2->P us
 |[a,b],_=>h a b
theorem Zlf{α:Type}{P:List α->Prop}(h:∀a b c,P [a,b,c]):∀us:List α,us.length=3->P us
 |[a,b,c],_=>h a b c
theorem Zo1{α:Type}{P:List α->Prop}(h:∀a b c d,P [a,b,c,d]):∀us:List α,us.length=4->P us
 |[a,b,c,d],_=>h a b c d
end L3
namespace L3
open PySem PySem.Spec PyProof.Rows L2
section
variable {prog:Program} {w:World} {A:Around} {E:Value->Shared->Prop} {s:Shared} {it l S:Addr} {items:Array Value}
end
section
variable {X:Cx} {e:PySem.Expr} {te:TE} {p p2 pos pos2:Pos}
end
end L3
namespace L3
open PySem PySem.Spec PyProof.Rows L2 PySem.W PySem.Calls
section
variable {X:Cx}
end
def ZdL(o:Obj):Option Value:=match o.data with
 | .fields vs=>vs[2]?
 |_=>none
def ChL(h:Heap):List (Addr×Obj)->Value->Prop
 |[],v=>v=.none
 |(a,o)::r,v=>v=.ref a/\h.get? a=some o/\∃x,ZdL o=some x/\ChL h r x
def Chn(H:Hp)(h:Heap)(v:Value):Prop:=∃l,ChL h l v/\∀p∈l,H p.1=none
def Kd{α:Type}:Sem α->Prop
 | .pure _=>True
 | .raise _=>True
 | .unsupported _=>True
 | .finish _=>True
 | .rule _ k=>Kd (k ())
 | .at _ k=>Kd (k ())
 | .point _ k=>Kd (k ())
 | .load _ _ k=>∀o,Kd (k o)
 | .loadIfAlive _ k=>∀o,Kd (k o)
 | .update _ _ f k=>(∀o,(f o).dict=o.dict/\ZdL (f o)=ZdL o/\(f o).isFreed=o.isFreed)/\Kd (k ())
 | .alloc _ k=>∀a,Kd (k a)
 | .fresh k=>∀t,Kd (k t)
 | .ask k=>∀t,Kd (k t)
 | .stack k=>∀l,Kd (k l)
 |_=>False
def DK(h h':Heap):Prop:=∀b o,h.get? b=some o->∃o',h'.get? b=some o'/\o'.dict=o.dict/\ZdL o'=ZdL o
theorem DK.trans{h1 h2 h3:Heap}(x:DK h1 h2)(y:DK h2 h3):DK h1 h3:=fun b o e=>
 let ⟨o1,e1,d1⟩:=x b o e
 let ⟨o2,e2,d2⟩:=y b o1 e1
 ⟨o2,e2,d2.1.trans d1.1,d2.2.trans d1.2⟩
theorem DK.upd{h:Heap}{a:Addr}{f:Obj->Obj}(hf:∀o,(f o).dict=o.dict/\ZdL (f o)=ZdL o/\(f o).isFreed=o.isFreed):DK h (h.update a f):=fun b o e=>by
 by_cases q:a=b
 ·subst q;exact⟨f o,Heap.get?_update_self f e ((hf o).2.2.trans (Heap.get?_some_iff.mp e).2),(hf o).1,(hf o).2.1⟩
 ·exact⟨o,(Heap.get?_update_other h f q).trans e,rfl,rfl⟩
theorem Kd.wp{α:Type}{M:Model}{Γ:PySem.Ctx}{Q:α->Pos->Shared->Prop}{E:Value->Pos->Shared->Prop}{h0:Heap}(t:Sem α):∀(p:Pos) (s:Shared),Kd t->DK h0 s.heap->Sem.wp M Γ t Q E p s->
  Sem.wp M Γ t (fun a p' s'=>Q a p' s'/\DK h0 s'.heap) (fun e p' s'=>E e p' s'/\DK h0 s'.heap) p s:=by
 induction t with
 |pure a=>exact fun p s _ d w=>⟨w,d⟩
 |raise e=>exact fun p s _ d w=>⟨w,d⟩
 |unsupported|finish=>exact fun p s _ _ w=>w
 |rule _ k ih|point _ k ih=>exact fun p s c d w=>ih () p s c d w
 |«at» p' k ih=>exact fun p s c d w=>ih () p' s c d w
 |load a _ k ih=>exact fun p s c d ⟨o,ho,w⟩=>⟨o,ho,ih o p s (c o) d w⟩
 |loadIfAlive a k ih=>exact fun p s c d w=>ih _ p s (c _) d w
 |update a _ f k ih=>exact fun p s c d ⟨ha,w⟩=>⟨ha,ih () p _ c.2 (d.trans (DK.upd c.1)) w⟩
 |alloc o k ih=>exact fun p s c d w=>ih _ p _ (c _) (d.trans fun b o' e=>⟨o',Heap.get?_push_of_some o e,rfl,rfl⟩) w
 |fresh k ih=>exact fun p s c d w=>ih _ p _ (c _) d w
 |ask k ih=>exact fun p s c d w=>ih _ p s (c _) d w
 |stack k ih=>exact fun p s c d w=>ih _ p s (c _) d w
 |_=>exact fun p s c=>c.elim
theorem Kd.any{α:Type}{M:Model}{A:Around}{Q:α->Shared->Prop}{E:Value->Shared->Prop}{s:Shared}{t:Sem α}(c:Kd t)(h:wpAny M A t Q E s):wpAny M A t (fun a s'=>Q a s'/\DK s.heap s'.heap) (fun e s'=>E e s'/\DK s.heap s'.heap) s:=
 fun Γ p hΓ=>Kd.wp t p s c (fun _ o e=>⟨o,e,rfl,rfl⟩) (h Γ p hΓ)
theorem Kd.bind{α β:Type}{k:α->Sem β}(t:Sem α):Kd t->(∀a,Kd (k a))->Kd (t>>=k):=by
 show Kd t->(∀a,Kd (k a))->Kd (Sem.bind t k)
 induction t with
 |pure a=>exact fun _ z=>z a
 |raise|unsupported|finish=>exact fun _ _=>trivial
 |rule _ k ih|point _ k ih|«at» _ k ih=>exact fun c z=>ih () c z
 |load _ _ k ih|loadIfAlive _ k ih|alloc _ k ih|fresh k ih|ask k ih|stack k ih=>exact fun c z o=>ih o (c o) z
 |update _ _ f k ih=>exact fun c z=>⟨c.1,ih () c.2 z⟩
 |_=>exact fun c=>c.elim
theorem ZfG{α:Type}{a:Addr}{k:Obj->Sem α}(h:∀o,Kd (k o)):Kd (load a>>=k):=Kd.bind _ (fun _=>trivial) h
theorem Zcz(v:Value)(i:Nat):Kd (field v i):=by
 unfold field fieldsOf;refine Kd.bind _ ?_ fun x=>by split<;>exact trivial
 cases v<;>first|exact trivial|(refine ZfG fun o=> ?_;split<;>exact trivial)
theorem Zmt{i:Nat}(x:Value)(hi:i≠2)(o:Obj):(Obj.mapFields (·.setIfInBounds i x) o).dict=o.dict/\ZdL (Obj.mapFields (·.setIfInBounds i x) o)=ZdL o/\(Obj.mapFields (·.setIfInBounds i x) o).isFreed=o.isFreed:=by
 obtain⟨c,d,y,l⟩:=o;cases y with
 |fields vs=>exact⟨rfl,Array.getElem?_setIfInBounds_ne hi,rfl⟩
 |_=>exact⟨rfl,rfl,rfl⟩
theorem Zhv(v:Value){i:Nat}(hi:i≠2)(x:Value):Kd (setField v i x):=by
 unfold setField updateField;cases v<;>first|exact trivial|skip
 refine ZfG fun o=> ?_
 split
 ·split
  ·exact⟨Zmt _ hi,trivial⟩
  ·exact trivial
 ·exact trivial
theorem Zd9(e:Value)(f:Option Addr):Kd (setFlight e f):=by
 unfold setFlight;refine Kd.bind _ (Zcz _ _) fun tb=> ?_
 split
 ·exact Zhv _ (by decide) _
 ·exact trivial
theorem ZjV(a b c d e:Value)(l:List Value):Kd (EntryCells.newEntry a b c d e l):=by
 unfold EntryCells.newEntry newFields newObj newObjAsIs
 dsimp only
 generalize [a,b,c,d,e]++_=vs
 split
 ·exact trivial
 ·exact fun _=>trivial
theorem ZiU(env:Env)(outer:List Env):Kd (behindIsImport env outer):=by
 unfold behindIsImport
 split
 ·exact trivial
 ·split
  ·exact trivial
  ·exact Kd.bind _ (Zcz _ _) fun _=>trivial
theorem Zlg(env:Env)(b:Bool):∀outer:List Env,Kd (keptBack env b outer)
 |[]=>by
  show Kd (if(env.scope.isGenerator||env.scope.isCoroutine)=true then pure Value.none else _)
  split
  ·exact trivial
  ·exact fun _=>trivial
 |_::_=>trivial
theorem Zgv:∀l:List Env,Kd (readyFrames l)
 |[]=>trivial
 |env::outer=>by
  unfold readyFrames
  split
  ·refine ZfG fun o=> ?_
   split
   ·exact trivial
   ·exact Kd.bind _ (ZiU _ _) fun _=>Kd.bind _ (Zlg _ _ _) fun _=>⟨fun o=>⟨rfl,rfl,by obtain⟨c,d,x,l⟩:=o;cases x<;>rfl⟩,Zgv outer⟩
  ·exact trivial
theorem ZjW(env:Env):Kd (PySem.frameOf env):=by
 unfold PySem.frameOf;refine Kd.bind _ (fun _=>trivial) fun l=> ?_;refine Kd.bind _ ?_ fun x=>by split<;>exact trivial
 cases l.dropWhile (·.frame !=env.frame) with
 |nil=>exact trivial
 |cons a r=>exact Kd.bind _ (Zgv _) fun _=>trivial
theorem ZjX(f:Addr)(b:Bool):Kd (entryPlaceOf f b):=by
 unfold entryPlaceOf;refine Kd.bind _ (fun _=>trivial) fun l=> ?_
 split<;>exact trivial
theorem Zif(e:Value)(env:Env):Kd (noteFrame e env):=by
 unfold noteFrame;have rest:∀(f:Addr) (head:Value),Kd (do let a<-PySem.frameOf env;let pl<-entryPlaceOf f (head !=.none);let b<-EntryCells.newEntry head a .none (rawInt f) .none pl;setField e 1 b):=fun f head=>
  Kd.bind _ (ZjW _) fun _=>Kd.bind _ (ZjX _ _) fun _=>Kd.bind _ (ZjV _ _ _ _ _ _) fun _=>Zhv _ (by decide) _
 split
 ·refine Kd.bind _ (Zcz _ _) fun head=> ?_
  dsimp only
  split
  ·refine Kd.bind _ (Zcz _ _) fun x=> ?_
   split
   ·exact trivial
   ·exact Kd.bind _ (Zhv _ (by decide) _) fun _=>rest _ _
  ·exact rest _ _
 ·exact trivial
theorem Zei(env:Env)(e:Value):Kd (leaving env e):=Kd.bind _ (Zif _ _) fun _=>Zd9 _ _
structure Kp (fs:List Addr) (H H':Hp) (h h' B:Heap):Prop where
 keep:∀b o,h.get? b=some o->H b=none->b∉fs->B.get? b=some o/\H' b=none
 slot:∀b o,h.get? b=some o->H b=none->b∈fs->(∃sl,h'.get? b=some {o with slots:=sl})/\H' b=none
 there:∀b o,h.get? b=some o->b∉fs->∃o',B.get? b=some o'
 tups:∀b xs,H b=some (.tup xs)->H' b=some (.tup xs)
 frzs:∀b o u,H b=some (.frz o u)->H' b=some (.frz o u)
 tbls:∀b ps,H b=some (.tbl ps)->∃more,H' b=some (.tbl (ps++more))
def CXr(P:Program)(w:World):CXT:=fun outer H s E ev s'=>∃(e D:Addr) (a0:Value) (H':Hp) (B:Heap),ev=.ref e/\s'.os=s.os/\AllBare s'.gens/\Heap.FlyingW B outer e (.ref D) a0 s'.heap/\
 Kp (frs outer) H H' s.heap s'.heap B/\HOk P w H' B/\∃d cx,(∃ob,s'.heap.get? e=some ob/\ob.dict=d/\ZdL ob=some cx)/\Chn H' B cx/\E (.ref D) d H'
section
variable {P:Program} {w:World} {K:Frag} {mg:Str->Option Value} {base:Heap} {N:List Str} {qual:Str} {scope:Scope} {f:Addr} {cdv:Value} {A:Around} {outer:List Env} {s₀:Shared} {H₀:Hp} {E:XK}
theorem ZfH{pins:List (Addr×Obj)}{σ:L2.St}{H:Hp}{s:Shared}{h':Heap}{e D:Addr}{us:List Value}(I:L2.Inv (Xg (CXr P w) P w K mg base N qual scope f cdv A outer s₀ H₀ E) pins σ H s)
  (hx:Heap.MadeExcOf s.heap h' e (.ref D) us)(q:E (.ref D) none H):(Xg (CXr P w) P w K mg base N qual scope f cdv A outer s₀ H₀ E).xe (.ref e) {s with heap:=h'}:=by
 have neL:∀b o,s₀.heap.get? b=some o->b≠s₀.heap.objs.size:=fun b o e=>Nat.ne_of_lt (Heap.lt_size e);have nst:∀b o,s₀.heap.get? b=some o->b∉frs outer->b∉frs (Xg (CXr P w) P w K mg base N qual scope f cdv A outer s₀ H₀ E).stack:=fun b o eb nb hb=>by
  rcases List.mem_cons.mp (I.stkSub b hb) with z|z
  ·exact neL b o eb z
  ·exact nb z
 have hin:∀env∈(Xg (CXr P w) P w K mg base N qual scope f cdv A outer s₀ H₀ E).stack,∀a,env.frame=some a->a∈frs (Xg (CXr P w) P w K mg base N qual scope f cdv A outer s₀ H₀ E).stack:=fun env he a ha=>List.mem_filterMap.mpr ⟨env,he,ha⟩;refine wpAny_mono (Kd.any (Zei _ _) (wpAny_leaves_madeW (Q:=fun _ s2=>∃h'' t,s2={s with heap:=h''}/\Heap.FlyingW (hideAll s.heap (frs (Xg (CXr P w) P w K mg base N qual scope f cdv A outer s₀ H₀ E).stack)) outer e (.ref D) (.ref t) h''/\Heap.UpToSlots h' h'') (base:=hideAll s.heap (frs (Xg (CXr P w) P w K mg base N qual scope f cdv A outer s₀ H₀ E).stack)) (h:=s.heap) I.ok.frames rfl (fun b o z=>of_hideAll _ z) (funFrames_hide I.stack hin) hx fun h'' t fl tup tn ups=>⟨h'',t,rfl,fl,ups⟩)) (fun _ s2 z=> ?_) fun _ _ z=>z.1
 obtain⟨⟨h'',t,rfl,fl,ups⟩,dk⟩:=z;have dn:∃ob,h''.get? e=some ob/\ob.dict=none/\ZdL ob=some .none:=by
  obtain⟨t',e1,_⟩:=hx.there;exact dk e _ e1
 refine⟨e,D,_,H,_,rfl,I.os,I.bare,fl,⟨fun b o eb nb hb=>⟨hideAll_get _ (I.base.keep b o eb nb hb (by intro z;cases z)) (nst b o eb hb),I.base.free b o eb nb (by intro z;cases z)⟩,fun b o eb nb hb=> ?_,fun b o eb hb=> ?_,I.base.tups,I.base.frzs,I.base.tbls⟩,
  fun b u eb=>(I.hok b u eb).stay (fun c v hc z=>hideAll_get _ z fun hm=> ?_) (fun _ z=>z) (fun _ _ z=>z),none,.none,dn,⟨[],rfl,fun _ z=>nomatch z⟩,q⟩
 ·obtain⟨sl,e1⟩:=I.base.slot b o eb nb hb (by intro z;cases z)
  obtain⟨_,o2,e2,hd⟩:=I.ok.funs.mem hb;have e2:s₀.heap.get? b=some o2:=e2;rw[eb] at e2
  cases e2;obtain⟨sl2,e3⟩:=ups b _ (hx.keeps b _ e1) hd;exact⟨⟨sl2,e3⟩,I.base.free b o eb nb (by intro z;cases z)⟩
 ·obtain⟨o',e1⟩:=I.base.there b o eb (by intro z;cases z)
  exact⟨o',hideAll_get _ e1 (nst b o eb hb)⟩
 ·have nn:=I.stkFree c hm;rcases hc with rfl|hc
  ·rw[nn] at eb;cases eb
  ·rw[nn] at hc;cases hc
theorem Zae:JZ (CXr P w) (Xg (CXr P w) P w K mg base N qual scope f cdv A outer s₀ H₀ E) E:=by
 intro pins σ H s ev s' I hcx;obtain⟨e,D,a0,H',B,rfl,os,bare,fl,kp,hok,d,cx,⟨ob,eb0,db0,fb0⟩,ch,q⟩:=hcx;have neL:∀b o,s₀.heap.get? b=some o->b≠s₀.heap.objs.size:=fun b o e=>Nat.ne_of_lt (Heap.lt_size e);have nst:∀b o,s₀.heap.get? b=some o->b∉frs outer->b∉frs (Xg (CXr P w) P w K mg base N qual scope f cdv A outer s₀ H₀ E).stack:=fun b o eb nb hb=>by
  rcases List.mem_cons.mp (I.stkSub b hb) with z|z
  ·exact neL b o eb z
  ·exact nb z
 have nex:∀b,b∉(Xg (CXr P w) P w K mg base N qual scope f cdv A outer s₀ H₀ E).ex:=fun b z=>by cases z
 have sub:∀b∈frs outer,b∈frs (Xg (CXr P w) P w K mg base N qual scope f cdv A outer s₀ H₀ E).stack:=fun b hb=>List.mem_cons_of_mem _ hb;refine wpAny_mono (Kd.any (Zei _ _) (wpAny_leaves_onW (Q:=fun _ s2=>∃h'',s2={s' with heap:=h''}/\Heap.FlyingW B outer e (.ref D) a0 h''/\s'.heap.UpToSlots h'') I.ok.frames rfl fl fun h'' fl2 ups=>⟨h'',rfl,fl2,ups⟩)) (fun _ s2 z=> ?_) fun _ _ z=>z.1;obtain⟨⟨h'',rfl,fl2,ups⟩,dk⟩:=z
 obtain⟨ob2,eb2,db2,fb2⟩:=dk e ob eb0;refine⟨e,D,a0,H',B,rfl,os.trans I.os,bare,fl2,⟨fun b o eb nb hb=> ?_,fun b o eb nb hb=> ?_,fun b o eb hb=> ?_,fun b xs z=>kp.tups b xs (I.base.tups b xs z),fun b o u z=>kp.frzs b o u (I.base.frzs b o u z),fun b ps z=> ?_⟩,hok,d,cx,⟨ob2,eb2,db2.trans db0,fb2.trans fb0⟩,ch,q⟩
 ·exact kp.keep b o (I.base.keep b o eb nb hb (nex b)) (I.base.free b o eb nb (nex b)) (nst b o eb hb)
 ·obtain⟨sl,e1⟩:=I.base.slot b o eb nb hb (nex b);obtain⟨⟨sl2,e2⟩,n2⟩:=kp.slot b _ e1 (I.base.free b o eb nb (nex b)) (sub b hb);obtain⟨_,o2,e3,hd⟩:=I.ok.funs.mem hb;have e3:s₀.heap.get? b=some o2:=e3;rw[eb] at e3
  cases e3;obtain⟨sl3,e4⟩:=ups b _ e2 hd;exact⟨⟨sl3,e4⟩,n2⟩
 ·obtain⟨o',e1⟩:=I.base.there b o eb (nex b);exact kp.there b o' e1 (nst b o eb hb)
 ·obtain⟨m1,e1⟩:=I.base.tbls b ps z;obtain⟨m2,e2⟩:=kp.tbls b _ e1;exact⟨m1++m2,by rw[e2,Array.append_assoc]⟩
end
theorem okX{P:Program}{w:World}{K:Frag}{mg:Str->Option Value}{base:Heap}{x qual:Str}{st:Stmt}{f:Addr}{fd:FuncData}{N ps:List Str}{k:Nat}{sp:Sp}(F:Fun K x qual st f fd)(S:ZV N ps (Zz st))(len:∀vs H Q E,sp vs H Q E->vs.length=ps.length)
  (hbody:∀(cdv:Value) (A:Around) (outer:List Env) (s:Shared) (H:Hp) (vs:List V) (Q:VK) (E:XK),Xc k (A.deeper (envOfC qual (Zz st) s.heap.objs.size f cdv))->sp vs H Q E->
   ∃t,PSs (Xg (CXr P w) P w K mg base N qual (Zz st) f cdv A outer s H E) (Zac st) t/\t {nx:=fun _ H'=>Q .non H',rt:=Q} (ZaB N vs) H):YD P w K mg base (CXr P w) (k+1) f fd ps sp:=by
 obtain⟨oc,od,kV,doc,pm,an,cdv,ct,osl,rfl,lk,hcd⟩:=F.ex;exact ZlM lk hcd S len fun A outer s H vs Q E hr hsp=>hbody cdv A outer s H vs Q E hr hsp
abbrev Zmu(x:Str)(D:Addr)(mg:Str->Option Value)(base:Heap):Prop:=OwnCls x D [.type "ValueError",.type "Exception",.type "BaseException",.type "object"] "ValueError.__new__" mg base
def ZjY(X:Cx)(E:XK):Prop:=∀(pins:List (Addr×Obj)) (σ:L2.St) (H:Hp) (s:Shared) (h':Heap) (e D:Addr) (us:List Value),L2.Inv X pins σ H s->Heap.MadeExcOf s.heap h' e (.ref D) us->E (.ref D) none H->X.xe (.ref e) {s with heap:=h'}
theorem Zhw{P:Program}{w:World}{K:Frag}{mg:Str->Option Value}{base:Heap}{N:List Str}{qual:Str}{scope:Scope}{f:Addr}{cdv:Value}{A:Around}{outer:List Env}{s₀:Shared}{H₀:Hp}{E:XK}:
  ZjY (Xg (CXr P w) P w K mg base N qual scope f cdv A outer s₀ H₀ E) E:=fun _ _ _ _ _ _ _ _ I hx q=>ZfH I hx q
def Zmv(D:Addr)(E:XK)(t:TA):TS:=fun _ σ H=>t σ H fun vs H1=>vs.length<=sizeLine/\E (.ref D) none H1
theorem ZjZ{X:Cx}{E:XK}{D:Addr}{x:Str}{np cpos pos:Pos}{e:PySem.Expr}{es:List PySem.Expr}{t:TA}(hr:ZjY X E)(O:Zmu x D X.mg X.base)(hc:X.calm=true)(hg:Gl X x)(ha:PA X (e::es) t)
  (hdb:(x==("__debug__":Str))=false:=by decide)(hs:starEach (e::es) X.env=(false,eval e X.env)::starEach es X.env:=by rfl)(hpl:(backTo cpos (starEach es X.env)).any (·.1)=false:=by rfl):PS X (.Raise (some (.Call (.Name x np) (e::es) [] cpos)) none pos) (Zmv D E t):=by
 intro pins s σ H D' I h;obtain⟨bm,_,_,_,_,_,_,_,_,_,_,_,_,_,_,_,_,at_,names,plain,above⟩:=O.obj;have pl:(backTo cpos (starEach (e::es) X.env)).any (·.1)=false:=by rw[hs];exact hpl
 have go:=ha cpos pins s σ H _ I h;rw[hs] at go
 refine' wpAny_Raise_call_subT PySem.F.excBase_ValueError (above.hasType PySem.F.excBase_ValueError.hasBase) (I.ok.hd hc) pl plain (Jk I hg O.bound ⟨rfl, ?go⟩ hdb)
 case go=>
  rw[hs];refine Calls.evalArgs_plain (thn go fun us s1 z=> ?_);obtain⟨vs,H1,I1,r1,hz,q1⟩:=z;exact⟨rfl,r1.length▸hz,I1.bk _ _ at_,names.keeps I1.bk,above.keeps I1.bk,fun h' ex mk=>hr pins σ H1 s1 h' ex D us I1 mk q1⟩
end L3
namespace L3
open PySem PySem.Spec PyProof.Rows L2 PySem.W PySem.Calls
section
variable {P:Program} {w:World} {K:Frag} {mg:Str->Option Value} {base:Heap} {N:List Str} {qual:Str} {scope:Scope} {f:Addr} {cdv:Value} {A:Around} {outer:List Env} {s₀:Shared} {H₀:Hp} {E:XK} {CX:CXT}
theorem Zhx{pins:List (Addr×Obj)}{σ:L2.St}{H H':Hp}{s s':Shared}{B h5:Heap}(I:L2.Inv (Xg CX P w K mg base N qual scope f cdv A outer s₀ H₀ E) pins σ H s)(os:s'.os=s.os)(bare:AllBare s'.gens)(kp:Kp (frs (Xg CX P w K mg base N qual scope f cdv A outer s₀ H₀ E).stack) H H' s.heap s'.heap B)(hok:HOk P w H' B)(st:B.StaysIn h5)(sm:s'.heap.UpToSlots h5){tk:Nat}:
  L2.Inv (Xg CX P w K mg base N qual scope f cdv A outer s₀ H₀ E) pins σ H' {s' with heap:=h5,toks:=tk}:=by
 have dat:∀b∈frs (Xg CX P w K mg base N qual scope f cdv A outer s₀ H₀ E).stack,∀o,s.heap.get? b=some o->∀vs,o.data≠.fields vs:=fun b hb o eb=>by
  obtain⟨_,o2,e2,hd⟩:=I.stack.mem hb;rw[eb] at e2
  cases e2;exact hd
 have slots:∀b o,s.heap.get? b=some o->H b=none->b∈frs (Xg CX P w K mg base N qual scope f cdv A outer s₀ H₀ E).stack->∃sl,h5.get? b=some {o with slots:=sl}:=fun b o eb nb hb=>by
  obtain⟨⟨sl,e1⟩,_⟩:=kp.slot b o eb nb hb;obtain⟨sl2,e2⟩:=sm b _ e1 (dat b hb o eb);exact⟨sl2,e2⟩
 refine I.call' (s':={s' with heap:=h5,toks:=tk}) (ch:=[]) os ⟨fun b o eb nb hb _=>st _ _ (kp.keep b o eb nb hb).1,fun b o eb nb hb _=>slots b o eb nb hb,fun b o eb nb _=> ?_,fun b o eb _=> ?_,kp.tups,kp.frzs,kp.tbls⟩ (hok.kept st) bare fun b hb=>nomatch hb
 ·by_cases hb:b∈frs (Xg CX P w K mg base N qual scope f cdv A outer s₀ H₀ E).stack
  ·exact(kp.slot b o eb nb hb).2
  ·exact(kp.keep b o eb nb hb).2
 ·by_cases hb:b∈frs (Xg CX P w K mg base N qual scope f cdv A outer s₀ H₀ E).stack
  ·obtain⟨sl,e1⟩:=slots b o eb (I.stkFree b hb) hb;exact⟨_,e1⟩
  ·obtain⟨o',e1⟩:=kp.there b o eb hb;exact⟨o',st _ _ e1⟩
theorem Zns{pins:List (Addr×Obj)}{σ:L2.St}{H:Hp}{s s':Shared}{ev:Value}{E':XK}{Q:Unit->Shared->Prop}{EE:Value->Shared->Prop}(I:L2.Inv (Xg CX P w K mg base N qual scope f cdv A outer s₀ H₀ E) pins σ H s)(hcx:CXr P w (Xg CX P w K mg base N qual scope f cdv A outer s₀ H₀ E).stack H s E' ev s')
  (k:∀(e D:Addr) (a0:Value) (H':Hp) (B h':Heap) (d:Option Addr),ev=.ref e->(∀(h5:Heap) (tk:Nat),B.StaysIn h5->h'.UpToSlots h5->L2.Inv (Xg CX P w K mg base N qual scope f cdv A outer s₀ H₀ E) pins σ H' {s' with heap:=h5,toks:=tk})->Heap.FlyingW B (Xg CX P w K mg base N qual scope f cdv A outer s₀ H₀ E).stack e (.ref D) a0 h'->HOk P w H' B->s.heap.get? e=none->(∃ob cx,h'.get? e=some ob/\ob.dict=d/\ZdL ob=some cx/\Chn H' B cx)->E' (.ref D) d H'->Q () {s' with heap:=h'}):
  wpAny (model P w) (Xg CX P w K mg base N qual scope f cdv A outer s₀ H₀ E).A (noteFrame ev (Xg CX P w K mg base N qual scope f cdv A outer s₀ H₀ E).env) (fun _ s2=>wpAny (model P w) (Xg CX P w K mg base N qual scope f cdv A outer s₀ H₀ E).A (setFlight ev none) Q EE s2) EE s':=by
 obtain⟨e,D,a0,H',B,rfl,os,bare,fl,kp,hok,d,cx,⟨ob,eb,db,fb⟩,ch,q⟩:=hcx;have fresh:s.heap.get? e=none:=by
  cases z:s.heap.get? e with
  |none=>rfl
  |some o=>
   by_cases hb:e∈frs (Xg CX P w K mg base N qual scope f cdv A outer s₀ H₀ E).stack
   ·obtain⟨_,o2,e2,hd⟩:=fl.2.2.1.mem hb;obtain⟨oe,vs,e3,_,e4,_⟩:=fl.first;rw[e2] at e3
    cases e3;exact absurd e4 (hd vs)
   ·obtain⟨o',e1⟩:=kp.there e o z hb;have n:=fl.2.1;rw[e1] at n
    cases n
 refine wpAny_mono (Kd.any (Zif _ _) (wpAny_looks_onW (Q:=fun _ s2=>∃h4,s2={s' with heap:=h4}/\Heap.HeldW B (Xg CX P w K mg base N qual scope f cdv A outer s₀ H₀ E).stack e (.ref D) a0 _ h4/\s'.heap.UpToSlots h4) I.ok.frames rfl fl fun h4 held sm4=>⟨h4,rfl,held,sm4⟩)) (fun _ s2 z=> ?_) fun _ _ z=>z.1;obtain⟨⟨h4,rfl,held,sm4⟩,dk4⟩:=z;refine wpAny_mono (Kd.any (Zd9 _ _) (wpAny_landsW (Q:=fun _ s3=>∃h5,s3={s' with heap:=h5}/\Heap.FlyingW B (Xg CX P w K mg base N qual scope f cdv A outer s₀ H₀ E).stack e (.ref D) a0 h5/\h4.UpToSlots h5) held fun h5 fl5 sm5=>⟨h5,rfl,fl5,sm5⟩)) (fun _ s3 z=> ?_) fun _ _ z=>z.1
 obtain⟨⟨h5,rfl,fl5,sm5⟩,dk5⟩:=z;obtain⟨ob4,eb4,db4,fb4⟩:=dk4 e ob eb;obtain⟨ob5,eb5,db5,fb5⟩:=dk5 e ob4 eb4;exact k e D a0 H' B h5 d rfl (fun h6 tk st sm6=>Zhx I os bare kp hok st ((sm4.trans sm5).trans sm6)) fl5 hok fresh ⟨ob5,cx,eb5,(db5.trans db4).trans db,(fb5.trans fb4).trans fb,ch⟩ q
end
section
variable {X:Cx} {pins:List (Addr×Obj)} {σ:L2.St} {H:Hp} {s:Shared}
abbrev Zbd(X:Cx)(e:Value)(E:Value->Shared->Prop):Cx:={X with A:=X.A.mark (some e),calm:=false,xe:=E}
theorem Zlh{e:Value}{E:Value->Shared->Prop}(o:X.Ok):(Zbd X e E).Ok:=⟨o.mod,o.kind,o.glob,o.blt,o.above,o.inj,o.has,o.cab,(fun z=>nomatch z),o.frames,o.stk,o.exf,o.bs,o.bsz,o.noex,o.exfs,o.funs,o.frf⟩
theorem Zig{e:Value}{E:Value->Shared->Prop}(I:L2.Inv X pins σ H s):L2.Inv (Zbd X e E) pins σ H s:=⟨Zlh I.ok,I.os,I.bare,I.base,I.loc,I.cell,I.free,I.freeC,I.pin,I.hok,I.len⟩
theorem ZcA{e:Value}{E:Value->Shared->Prop}(o:X.Ok)(I:L2.Inv (Zbd X e E) pins σ H s):L2.Inv X pins σ H s:=⟨o,I.os,I.bare,I.base,I.loc,I.cell,I.free,I.freeC,I.pin,I.hok,I.len⟩
theorem Zmw{M:Model}{h:Heap}{e:Addr}{c:Value}(x:∃ob,h.get? e=some ob/\ob.cls=c):Looks M h (typeOf (.ref e)) c:=by
 obtain⟨ob,e1,rfl⟩:=x;exact(Looks.ld e1).andThen .now
end
theorem ZbE{X:Cx}{pins:List (Addr×Obj)}{σ:L2.St}{H:Hp}{s:Shared}{M:Model}{A:Around}{E:Value->Shared->Prop}{i:Nat}{x:Str}{pos:Pos}{Q:Unit->Shared->Prop}(I:L2.Inv X pins σ H s)(hN:X.N.Nodup)(hi:X.N[i]? =some x)(hk:X.env.scope.names.lookup x=some .local)
  (h:∀s',L2.Inv X pins (σ.set i none) H s'->Q () s'):wpAny M A (do bindName X.env x .none;unbindBehindTheSuite X.env x pos) Q E s:=by
 obtain⟨m,hn,hl⟩:=id I.loc;refine wpAny_nameGoes_keeps hk hn (by rw[I.ok.kind];rfl) fun h' v hn' sb=>h _ ?_
 have same:∀b,b≠X.env.locals->h'.get? b=s.heap.get? b:=fun b n=>sb.2 b n;have old:∀b o,X.s₀.heap.get? b=some o->h'.get? b=s.heap.get? b:=fun b o e=>same b (Nat.ne_of_lt (Nat.lt_of_lt_of_le (Heap.lt_size e) I.ok.above));refine⟨I.ok,I.os,I.bare,⟨?k, ?sl,I.base.free, ?th,I.base.tups,I.base.frzs,I.base.tbls⟩,⟨_,hn', ?lc⟩, ?ce,I.free,I.freeC, ?pn, ?ho,by simpa using I.len⟩
 case k=>exact fun b o e n f y=>(old b o e).trans (I.base.keep b o e n f y)
 case sl=>exact fun b o e n f y=>(I.base.slot b o e n f y).elim fun z q=>⟨z,(old b o e).trans q⟩
 case th=>exact fun b o e y=>(I.base.there b o e y).elim fun z q=>⟨z,(old b o e).trans q⟩
 case pn=>exact fun p hp=>let ⟨e,n,ne,r⟩:=I.pin p hp;⟨(same p.1 ne).trans e,n,ne,r⟩
 case ce=>exact fun y c e=>(I.cell y c e).elim fun z q=>⟨z,q.sameBut sb (I.cne y c e)⟩
 case ho=>
  refine fun b o e=>(I.hok b o e).stay (fun c u hc q=>(same c fun z=> ?_).trans q) (fun _ q=>q) fun _ _ q=>q;have fr:=I.free;rcases hc with rfl|hc
  ·rw[z,fr] at e;cases e
  ·rw[z,fr] at hc;cases hc
 case lc=>
  intro j y v' e1 e2 e3;have ji:j≠i:=fun z=>by
   subst z;have lt:j<σ.length:=by rw[I.len];exact(List.getElem?_eq_some_iff.mp hi).1
   rw[List.getElem?_set_self lt] at e2
   cases e2
  rw[List.getElem?_set_ne (Ne.symm ji)] at e2
  obtain⟨u,r,q⟩:=hl j y v' e1 e2 e3;refine⟨u,r,q.imp (fun⟨k1,k2⟩=>⟨k1, ?_⟩) fun⟨k1,c,k2,k3⟩=>⟨k1,c,k2,k3.sameBut sb (I.cne y c k2)⟩⟩;have yx:y≠x:=fun z=>ji (Ze7 hN e1 (z▸hi));simp[yx,k2]
def Zhy(D:ZcZ)(i:Nat):ZcZ:={nx:=fun σ H=>D.nx (σ.set i none) H,bk:=fun σ H=>D.bk (σ.set i none) H,ct:=fun σ H=>D.ct (σ.set i none) H,rt:=D.rt}
def XO(e D:Addr)(d:Option Addr):HO:=.ext fun h=>∃ob,h.get? e=some ob/\ob.cls=.ref D/\ob.dict=d/\notCls ob=true
theorem Znt{P:Program}{w:World}{H:Hp}{B h:Heap}{l:List Env}{e D:Addr}{a0:Value}{d:Option Addr}(fl:Heap.FlyingW B l e (.ref D) a0 h)(dk:∃ob,h.get? e=some ob/\ob.dict=d):Yz P w H h e (XO e D d):=by
 obtain⟨oe,vs,e1,e2,e3,_⟩:=fl.first;obtain⟨ob,e4,e5⟩:=dk;rw[e1] at e4
 cases e4;refine⟨⟨oe,e1,e2,e5, ?_⟩,⟨oe,e1⟩,fun h1 h2 ⟨o,q1,q2⟩ z=>⟨o,z o q1,q2⟩⟩;unfold notCls;rw[e3]
theorem Zgw{X:Cx}{pins:List (Addr×Obj)}{σ σ₁:L2.St}{H H₁:Hp}{s s₁:Shared}{B h:Heap}{l:List Env}{e C D:Addr}{a0:Value}{d:Option Addr}{cn n:Str}{np hpos:Pos}{b0:Stmt}{suite:List Stmt}{rest:List ExceptHandler}{i:Nat}{ts:TS}{D':ZcZ}{EE:Value->Shared->Prop}
  (ok:X.Ok)(again:∀(h5:Heap) (tk:Nat),B.StaysIn h5->h.UpToSlots h5->L2.Inv X pins σ H {s with heap:=h5,toks:=tk})(fl:Heap.FlyingW B l e (.ref D) a0 h)(I₁:L2.Inv X pins σ₁ H₁ s₁)(new:s₁.heap.get? e=none)(free:H e=none)(dk:∃ob,h.get? e=some ob/\ob.dict=d)(hg:Gl X cn)(hm:X.mg cn=some (.ref C))(hx:exmOne X.K (.ref D) (.ref C)=some true)
  (hN:X.N.Nodup)(hi:X.N[i]? =some n)(hk:X.env.scope.names.lookup n=some .local)(hs:PSs (Zbd X (.ref e) fun _ _=>False) (b0::suite) ts)(q:ts (Zhy D' i) (σ.set i (some (.ref e))) (upd H e (XO e D d)))(hdb:(cn==("__debug__":Str))=false:=by decide):
  wpAny (model X.prog X.w) X.A (handleBy (.ref e) X.env (.ExceptHandler (some (.Name cn np)) (some n) (b0::suite) hpos::rest)) (SP X pins D') EE {s with heap:=h}:=by
 have I0:=again h s.toks fl.1 (fun _ o z _=>⟨o.slots,z⟩);refine wpAny_handleBy_cons (codeAny_handlers_test (Jk (Zig (e:=.ref e) (E:=fun _ _=>False) I0) hg hm ?_ hdb)) (fun z=>nomatch z);refine exm_one I0.kIn (Zmw fl.there) hx _ _ _ _ (fun _ _ z=>z) ?_;refine codeAny_handlers_suite_as (wpAny_mono (Kd.any (Zd9 _ _) (lands_againW (Q:=fun _ s2=>∃h6,s2={s with heap:=h6}/\Heap.FlyingW B l e (.ref D) a0 h6/\h.UpToSlots h6) fl fun h6 fl6 sm6=>⟨h6,rfl,fl6,sm6⟩)) (fun _ s2 z=> ?_) fun _ _ z=>z.1)
 obtain⟨⟨h6,rfl,fl6,sm6⟩,dk6⟩:=z;obtain⟨ob,e1,e2⟩:=dk;obtain⟨ob6,e3,e4,_⟩:=dk6 e ob e1;have I6:=Za0 (q:=XO e D d) I₁ (again h6 s.toks fl6.1 sm6) free new (Znt fl6 ⟨ob6,e3,e4.trans e2⟩);refine Zcl I6 hN hi (.inl hk) (v:=.ref e) rfl (fun s2 I2=> ?_) (.inr hk);refine wpAny_mono (hs pins s2 _ _ _ (Zig I2) q) (fun f s3 z=> ?_) fun _ _ z=>z.elim;cases f with
 |next=>obtain⟨σ2,H2,I3,q3⟩:=z;exact ZbE (ZcA ok I3) hN hi hk fun s4 I4=>⟨_,H2,I4,q3⟩
 |brk=>obtain⟨σ2,H2,I3,q3⟩:=z;exact ZbE (ZcA ok I3) hN hi hk fun s4 I4=>⟨_,H2,I4,q3⟩
 |cont=>obtain⟨σ2,H2,I3,q3⟩:=z;exact ZbE (ZcA ok I3) hN hi hk fun s4 I4=>⟨_,H2,I4,q3⟩
 |ret u=>obtain⟨v,σ2,H2,I3,r,q3⟩:=z;exact ZbE (ZcA ok I3) hN hi hk fun s4 I4=>⟨v,_,H2,I4,r,q3⟩
theorem Zfb{P:Program}{w:World}{H:Hp}{h:Heap}{a:Addr}:∀{o:HO},Yz P w H h a o->∃ob,h.get? a=some ob
 | .lst _,⟨_,_,_,_,e⟩=>⟨_,e⟩
 | .tup _,⟨_,_,_,p⟩=>p.elim fun ob q=>⟨ob,q.1⟩
 | .dK _,⟨_,_,_,_,ob,_,_,e,_⟩=>⟨ob,e⟩
 | .dT _,⟨_,_,_,_,ob,_,_,e,_⟩=>⟨ob,e⟩
 | .set _ _,⟨ob,_,_,_,e,_⟩=>⟨ob,e⟩
 | .ins _ _ _,⟨_,_,_,e,_⟩=>⟨_,e⟩
 | .own _,x=>x
 | .xd _,⟨_,⟨ob,_,_,e,_⟩,_⟩=>⟨ob,e⟩
 | .met _ _,e=>⟨_,e⟩
 | .rng _ _,⟨_,_,_,e⟩=>⟨_,e⟩
 | .frz _ _,⟨e,_⟩=>⟨_,e⟩
 | .tbl _,e=>⟨_,e⟩
 | .ext _,⟨_,e,_⟩=>e
theorem apart{P:Program}{w:World}{H:Hp}{B h:Heap}{l:List Env}{e:Addr}{c a0:Value}(hok:HOk P w H B)(fl:Heap.FlyingW B l e c a0 h):H e=none:=by
 cases q:H e with
 |none=>rfl
 |some o=>
  obtain⟨ob,z⟩:=Zfb (hok e o q);have n:=fl.2.1;rw[z] at n
  cases n
end L3
namespace L3
open PySem PySem.Spec PyProof.Rows L2 PySem.W PySem.Calls
section
variable {P:Program} {w:World} {K:Frag} {mg:Str->Option Value} {base:Heap} {N:List Str} {qual:Str} {scope:Scope} {f:Addr} {cdv:Value} {A:Around} {outer:List Env} {s₀:Shared} {H₀:Hp} {E:XK} {CX:CXT}
def Zgx(K:Frag)(C:Addr)(iy i:Nat)(sp:Sp)(t:TA)(ts:TS):TS:=fun D σ H=>t σ H fun vs H1=>sp vs H1 (fun v H2=>D.nx (σ.set iy (some v)) H2) (fun c d H2=>∀e,H2 e=none->∃B,c=.ref B/\exmOne K (.ref B) (.ref C)=some true/\ts (Zhy D i) (σ.set i (some (.ref e))) (upd H2 e (XO e B d)))
theorem Zk0{X:Cx}(eX:X=Xg CX P w K mg base N qual scope f cdv A outer s₀ H₀ E){C:Addr}{iy i k:Nat}{fn cn n y:Str}{ps:List Str}{sp:Sp}{t:TA}{ts:TS}{p py np cpos apos hpos pos:Pos}{e1:PySem.Expr}{es:List PySem.Expr}{b0:Stmt}{suite:List Stmt}{rest:List ExceptHandler}{EE:Value->Shared->Prop}
  (c:Cal P w K mg base (CXr P w) k fn ps sp)(hr:Xc k X.A)(hgf:Gl X fn)(ha:PA X.nox (e1::es) t)(hN:X.N.Nodup)(hiy:X.N[iy]? =some y)(hy:X.env.scope.names.lookup y=some .local)(hgc:Gl X cn)(hm:mg cn=some (.ref C))(hi:X.N[i]? =some n)(hk:X.env.scope.names.lookup n=some .local)
  (hs:∀e,PSs (Zbd X e fun _ _=>False) (b0::suite) ts)(hsw:swapsWith (.Call (.Name fn p) (e1::es) [] cpos) (some (.Name y py)) apos.line X.env=pure false:=by rfl)(hd1:(fn==("__debug__":Str))=false:=by decide)(hd2:(cn==("__debug__":Str))=false:=by decide)
  (he:starEach (e1::es) X.env=(false,eval e1 X.env)::starEach es X.env:=by rfl)(hpl:(backTo cpos (starEach es X.env)).any (·.1)=false:=by rfl){pins:List (Addr×Obj)}{s:Shared}{σ:L2.St}{H:Hp}{D:ZcZ}(I:L2.Inv X pins σ H s)(h:Zgx K C iy i sp t ts D σ H):
  wpAny (model X.prog X.w) X.A (exec (.Try [.Assign [.Name y py] (.Call (.Name fn p) (e1::es) [] cpos) apos] (.ExceptHandler (some (.Name cn np)) (some n) (b0::suite) hpos::rest) [] [] pos) X.env) (SP X pins D) EE s:=by
 subst eX;obtain⟨g,fd,hmg,hkp,hb,F⟩:=c.ex;refine wpAny_Try_except (wpAny_execs_cons ?_);refine wpAny_Assign_Name (wpAny_Call_Name_kw (Jk I hgf hmg ?_ hd1)) hsw;refine PySem.W.callWith_K (h₀:=base) I.ok.mod.kin hkp (wpAny_mono (ha cpos pins s σ H _ (I.wish _) h) (fun us s1 z=> ?_) fun _ _ z=>z.elim) he hpl;obtain⟨vs,H1,I1,r1,q1⟩:=z;have I1:=I1.unwish;refine⟨I1.kIn, ?_⟩;have hl:us.length=ps.length:=by rw[<-r1.length];exact F.len _ _ _ _ q1
 have bd:=hb s1 us I1.kIn (by rw[List.append_nil];exact hl)
 rw[List.append_nil] at bd
 refine wpAny_call (codeAny_mono (F.run _ _ s1 H1 ⟨us,[]⟩ us vs _ _ hr I1.env0 bd r1 q1) fun r s2 z=> ?_);cases r with
 |ok fl=>
  cases fl with
  |ret u=>
   obtain⟨v,H2,I2,r2,q2⟩:=I1.after z;exact Zcl I2 hN hiy (.inl hy) r2 (fun s3 I3=>wpAny_execs_nil (wpAny_execs_nil ⟨_,H2,I3,q2⟩)) (.inr hy)
  |next=>exact False.elim z
  |brk=>exact False.elim z
  |cont=>exact False.elim z
 |error ev=>
  dsimp only [CR] at z
  refine Zns (P:=P) (w:=w) I1 z fun e D2 a0 H2 B h2 d ee again fl hok new ⟨ob,_,k1,k2,_⟩ q2=> ?_;subst ee;obtain⟨B2,eb,mt,q3⟩:=q2 e (apart hok fl);cases eb;exact Zgw I.ok again fl I1 new (apart hok fl) ⟨ob,k1,k2⟩ hgc hm mt hN hi hk (hs _) q3 hd2
theorem Zgy{X:Cx}(eX:X=(Xg CX P w K mg base N qual scope f cdv A outer s₀ H₀ E).nox){C:Addr}{iy i k:Nat}{fn cn n y:Str}{ps:List Str}{sp:Sp}{t:TA}{ts:TS}{p py np cpos apos hpos pos:Pos}{e1:PySem.Expr}{es:List PySem.Expr}{b0:Stmt}{suite:List Stmt}{rest:List ExceptHandler}
  (c:Cal P w K mg base (CXr P w) k fn ps sp)(hr:Xc k X.A)(hgf:Gl X fn)(ha:PA X.nox (e1::es) t)(hN:X.N.Nodup)(hiy:X.N[iy]? =some y)(hy:X.env.scope.names.lookup y=some .local)(hgc:Gl X cn)(hm:mg cn=some (.ref C))(hi:X.N[i]? =some n)(hk:X.env.scope.names.lookup n=some .local)
  (hs:∀e,PSs (Zbd X e fun _ _=>False) (b0::suite) ts)(hsw:swapsWith (.Call (.Name fn p) (e1::es) [] cpos) (some (.Name y py)) apos.line X.env=pure false:=by rfl)(hd1:(fn==("__debug__":Str))=false:=by decide)(hd2:(cn==("__debug__":Str))=false:=by decide)
  (he:starEach (e1::es) X.env=(false,eval e1 X.env)::starEach es X.env:=by rfl)(hpl:(backTo cpos (starEach es X.env)).any (·.1)=false:=by rfl):
  PS X (.Try [.Assign [.Name y py] (.Call (.Name fn p) (e1::es) [] cpos) apos] (.ExceptHandler (some (.Name cn np)) (some n) (b0::suite) hpos::rest) [] [] pos) (Zgx K C iy i sp t ts):=by
 subst eX;intro pins s σ H D I h;refine wpAny_mono (Zk0 rfl c hr hgf ha hN hiy hy hgc hm hi hk hs hsw hd1 hd2 he hpl (EE:=fun _ _=>False) I.unwish h) (fun fl s2 z=> ?_) fun _ _ z=>z.elim;cases fl with
 |next=>obtain⟨σ2,H2,I3,q3⟩:=z;exact⟨σ2,H2,I3.wish _,q3⟩
 |brk=>obtain⟨σ2,H2,I3,q3⟩:=z;exact⟨σ2,H2,I3.wish _,q3⟩
 |cont=>obtain⟨σ2,H2,I3,q3⟩:=z;exact⟨σ2,H2,I3.wish _,q3⟩
 |ret u=>obtain⟨v,σ2,H2,I3,r,q3⟩:=z;exact⟨v,σ2,H2,I3.wish _,r,q3⟩
end
end L3
namespace L3
open PySem PySem.Spec PyProof.Rows L2 PySem.W PySem.Calls
structure Za1 (K:Frag) (D:Addr):Prop where
 ck:(kitCls K (.ref D) (.ref D)).isSome=true
 ga:findIn K (.ref D) "__getattribute__"=some (some (.builtin "BaseException.__getattribute__"))
 gt:findIn K (.ref D) "__getattr__"=some none
 cs:findIn K (.ref D) "__class__"=some (some (.builtin "object.__class__"))
 gg:specialIn K (.builtin "object.__class__") "__get__"=some (some (.builtin "getset_descriptor.__get__"))
 tk:takesIn K (.builtin "object.__class__")=some true
 mo:mroIn K D (.type "object")=some true
 mb:subIn K (.ref D) (.type "BaseException")=some true
theorem Za1.cl{K:Frag}{D:Addr}(Z:Za1 K D):∃c d cd sl,K.lookup D=some ⟨c,d,.cls cd,sl⟩:=by
 have z:=Z.ck;simp only [kitCls] at z
 split at z
 ·rename_i q
  have q:=(Bool.and_eq_true_iff.mp q).1;unfold clsIn at q
  split at q
  ·rename_i h
   exact⟨_,_,_,_,h⟩
  ·cases q
 ·cases z
theorem Za1.find{K:Frag}{D:Addr}(Z:Za1 K D)(od:Option Obj):findObj K D od "__class__"=some (.bind (.builtin "getset_descriptor.__get__") (.builtin "object.__class__")):=by
 obtain⟨c,d,cd,sl,h⟩:=Z.cl;have hc:clsIn K D=some cd:=by unfold clsIn;rw[h]
 simp[findObj,hc,Z.cs,Z.gg,Z.tk]
section
variable {prog:Program} {w:World} {A:Around} {E:Value->Shared->Prop} {s:Shared} {K:Frag} {x D:Addr} {ox:Obj} {od:Option Obj}
theorem ZiV{tk:Tok}{Q:Fin->Shared->Prop}(Z:Za1 K D)(X:K.In s.heap)(I:InstAt s.heap x ox D od)(hq:Q (.done (.ret (.ref D))) s):wpAny (model prog w) A (Builtin.«object.__getattribute__» ⟨[.ref x,.str "__class__" tk],[]⟩) Q E s:=by
 obtain⟨h,g,d,t,os⟩:=s;refine wpAny_bind (wpAny_pure ?_);refine wpAny_bind (wpAny_pure ?_);refine wpAny_bind (I.type.at ?_);refine wpAny_bind ((looks_find X I (Z.find od)).at ?_);exact wpAny_bind (wpAny_holding (wpAny_call (class_get X I Z.mo (wpAny_pure hq))))
theorem Zk1:builtinKind "BaseException.__getattribute__"=some .slot:=by decide+kernel
theorem ZiW:splitId "BaseException.__getattribute__"=some ("BaseException","__getattribute__"):=by decide+kernel
theorem ZiX{M:Model}{nm:Value}{Q:Unit->Shared->Prop}(Z:Za1 K D)(X:K.In s.heap)(I:InstAt s.heap x ox D od)(hq:Q () s):wpAny M A (checkBuiltinCall "BaseException.__getattribute__" ⟨[.ref x,nm],[]⟩) Q E s:=by
 have l0:Looks M s.heap (typeOf (.ref x)) (.ref D):=I.type;have l1:Looks M s.heap (isSubtype (.ref D) (.type "BaseException")) true:=looks_subIn X Z.mb;have l2:Looks M s.heap (isInstance (.ref x) (.type "BaseException")) true:=l0.andThen l1;exact @check_slot M A E s "BaseException.__getattribute__" "BaseException" "__getattribute__" (.ref x) [nm] [] Q Zk1 ZiW l2 (PySem.F.args_bexc_ga _ _) hq
theorem Zli{tk:Tok}{fill:Bool}{Q:Value->Shared->Prop}(Z:Za1 K D)(X:K.In s.heap)(I:InstAt s.heap x ox D od)(hq:Q (.ref D) s):wpAny (model prog w) A (getAttrByItsOwn (.ref x) (.str "__class__" tk) (.ref D) (.builtin "BaseException.__getattribute__") fill false) Q E s:=by
 obtain⟨h,g,d,t,os⟩:=s;have hook:Looks (model prog w) h (hookBefore (.ref D)) none:=looks_findIn X Z.gt;refine wpAny_bind (hook.at (wpAny_bind (wpAny_attempt (wpAny_holding ?_))));have called:wpAny (model prog w) A (call (.builtin "BaseException.__getattribute__") [.ref x,.str "__class__" tk]) (fun v s'=>wpAny (model prog w) A (handedOut v) Q E s') (fun _ _=>False) ⟨h,g,d,t,os⟩:=
  wpAny_call (codeAny_call_builtin PySem.F.attr_ValueError.ga.plain PySem.F.entry_bexc_ga (ZiX (s:=⟨h,g,d,t,os⟩) Z X I (ZiV (s:=⟨h,g,d,t,os⟩) Z X I (handed_on rfl hq))))
 exact wpAny_bind (wpAny_of_eq (PySem.F.attr_ValueError.ga.bind (.ref x)) (wpAny_mono called (fun _ _ z=>z) fun _ _ z=>z.elim))
theorem ZiY{Q:Option Value->Shared->Prop}(Z:Za1 K D)(X:K.In s.heap)(I:InstAt s.heap x ox D od)(hq:Q (some (.ref D)) {s with toks:=s.toks+1}):wpAny (model prog w) A (getAttr? (.ref x) "__class__") Q E s:=by
 obtain⟨h,g,d,t,os⟩:=s;have its:Looks (model prog w) h (typeLookup (.ref D) "__getattribute__") (some (.builtin "BaseException.__getattribute__")):=looks_findIn X Z.ga;have by_:wpAny (model prog w) A (getAttrBy (.ref x) (.str "__class__" t) false) (fun v s'=>v=.ref D/\s'=⟨h,g,d,t+1,os⟩) (fun _ _=>False) ⟨h,g,d,t+1,os⟩:=
  wpAny_holding (wpAny_bind (I.type.at (wpAny_bind (its.at (Zli (s:=⟨h,g,d,t+1,os⟩) Z X I ⟨rfl,rfl⟩)))))
 refine wpAny_bind (wpAny_mkText (wpAny_bind (wpAny_attempt (wpAny_mono by_ (fun v s' z=> ?_) fun _ _ z=>z.elim))));obtain⟨rfl,rfl⟩:=z;exact wpAny_pure hq
theorem Zk2(Z:Za1 K D):KitX K (.ref x) (.ref D) (fun h=>∃ox od,InstAt h x ox D od) where
 ty:=fun _ _ _ ⟨_,_,I⟩=>I.type
 it:=fun _ _ X _=>by
  obtain⟨v,e⟩:=Option.isSome_iff_exists.mp Z.ck;exact(kit_cls X e).2.1
 ne:=fun _ _ _ _ _ _ X tup=>by
  obtain⟨c,d,cd,sl,e⟩:=Z.cl;refine beq_eq_false_iff_ne.mpr fun same=> ?_;cases same;cases(X _ _ e).symm.trans tup
 ca:=fun X ⟨_,_,I⟩ k=>ZiY Z X I k
end
section
variable {X:Cx} {pins:List (Addr×Obj)} {σ:L2.St} {H:Hp} {s:Shared}
theorem Zlj{e D:Addr}(I:L2.Inv X pins σ H s)(h:H e=some (XO e D none)):∃ox od,InstAt s.heap e ox D od:=by
 obtain⟨⟨ob,e1,e2,e3,e4⟩,_⟩:=I.hok e _ h;exact⟨ob,none,⟨e1,e2,e4,by rw[e3];trivial⟩⟩
theorem Yg:JK X (.builtin "isinstance") (fun xs H Q=>∃e D y c b,xs=[.ref e,y]/\H e=some (XO e D none)/\Za1 X.K D/\ZlP y=some c/\kitOne X.K (.ref D) c=some b/\Q (.bl b) H):=by
 intro pins s σ H xs us Q I r h;obtain⟨e,D,y,c,b,rfl,he,Z,hy,hb,q⟩:=h;obtain⟨u,u2,rfl,rx,ry⟩:=Zi1 r;cases rx;have ec:u2=c:=by
  cases y with
  |ty n=>cases hy;exact ry
  |ref a=>cases hy;exact ry
  |_=>cases hy
 subst ec;exact kia_one (Zk2 Z) I.kIn (Zlj I he) hb (fun z=>nomatch z) fun tk=>⟨.bl b,H,I.tok _,rfl,q⟩
end
section
variable {X:Cx}
end
def ZfI(es:Array DictEntry):Bool:=es.toList.all fun e=>match e.key with
 | .str _ _=>true
 |_=>false
theorem ZdW{K:Frag}{N:Addr}{c:Value}{d:Option Addr}{es:Array DictEntry}{ep:Nat}{sl:Array (Option Value)}(h:K.lookup N=some ⟨c,d,.dict es ep,sl⟩)(e:ZfI es=true):nsOkIn K N=true:=by
 unfold nsOkIn;rw[h];show es.all _=true;rw[<-Array.all_toList];exact e
theorem ZeP:bootBuiltins "ValueError"=some (.type "ValueError"):=by decide+kernel
end L3
namespace M1
open PySem.Builtin PySem.Builtin.Str PySem
end M1
namespace L3
open PySem PySem.W PyProof.Rows
structure Ord (ans:Nat->Nat->Bool):Prop where
 asym:∀i j,ans i j=true->ans j i=false
 tr:∀i j k,ans j i=false->ans k j=false->ans k i=false
theorem Ord.irr{ans:Nat->Nat->Bool}(o:Ord ans)(i:Nat):ans i i=false:=by
 cases e:ans i i with
 |false=>rfl
 |true=>exact e.symm.trans (o.asym i i e)
def at_(p:Array Nat)(i:Nat):Nat:=p.getD i 0
def Zhz(ans:Nat->Nat->Bool)(p:Array Nat)(k:Nat):Prop:=∀i j,i<=j->j<k->ans (at_ p j) (at_ p i)=false
structure Pl (n:Nat) (p:Array Nat):Prop where
 size:p.size=n
 perm:p.Perm (List.toArray (List.range n))
theorem Pl.lt{n:Nat}{p:Array Nat}(h:Pl n p){i:Nat}(hi:i<n):at_ p i<n:=by
 have hi':i<p.size:=by rw[h.size];exact hi
 have e:at_ p i=p[i]:=by simp[at_,Array.getD,hi']
 have m:p[i]∈List.range n:=by
  have:=(Array.perm_iff_toList_perm.mp h.perm).mem_iff (a:=p[i])
  simpa using this.mp (by simp)
 rw[e];exact List.mem_range.mp m
theorem ZaM(x:Array Nat)(k:Nat):at_ x k=(x[k]?).getD 0:=by
 by_cases hk:k<x.size<;>simp[at_,Array.getD,hk]
theorem ZfJ{p:Array Nat}{i j:Nat}(hj:j<=p.size)(k:Nat):at_ (kas_rev p i j) k=if i<=k/\k<j then at_ p (i+j-1-k) else at_ p k:=by
 rw[ZaM,kas_rev,getElem?_mirror_all hj k,ZaM,ZaM]
 split<;>rfl
theorem ZhA{p:Array Nat}{src d:Nat}(hs:src<p.size)(hd:d<=src)(k:Nat):at_ (bubble p src d) k=if k=src-d then at_ p src else if src-d<k/\k<=src then at_ p (k-1) else at_ p k:=by
 rw[ZaM,getElem?_bubble hs d hd k,ZaM,ZaM,ZaM]
 split
 ·rfl
 ·split<;>rfl
theorem Pl.rev{n:Nat}{p:Array Nat}(h:Pl n p)(i j:Nat):Pl n (kas_rev p i j):=⟨(mirror_size _ _ _ _).trans h.size,(mirror_perm _ _ _ _).trans h.perm⟩
theorem Pl.bub{n:Nat}{p:Array Nat}(h:Pl n p)(i j:Nat):Pl n (bubble p i j):=⟨(bubble_size _ _ _).trans h.size,(bubble_perm _ _ _).trans h.perm⟩
section
variable {n:Nat} {ans:Nat->Nat->Bool} {s:Shared}
end
end L3
namespace L3
open PySem
structure STO {α:Type} (lt:α->α->Bool):Prop where
 irr:∀a,lt a a=false
 tr:∀a b c,lt a b=true->lt b c=true->lt a c=true
 tri:∀a b,lt a b=true\/a=b\/lt b a=true
theorem STO.asym{α:Type}{lt:α->α->Bool}(o:STO lt){a b:α}(h:lt a b=true):lt b a=false:=by
 cases e:lt b a with
 |false=>rfl
 |true=>exact(o.tr a b a h e).symm.trans (o.irr a)
theorem STO.ord{α:Type}{lt:α->α->Bool}(o:STO lt)(f:Nat->α):Ord fun i j=>lt (f i) (f j) where
 asym:=fun i j h=>o.asym h
 tr:=fun i j k h1 h2=>by
  cases e:lt (f k) (f i) with
  |false=>rfl
  |true=>
   rcases o.tri (f i) (f j) with z|z|z
   ·exact(o.tr _ _ _ e z).symm.trans h2
   ·rw[z] at e;exact e.symm.trans h2
   ·exact z.symm.trans h1
def Za2(a b:Int):Bool:=decide (a<b)
theorem ZbF:STO Za2:=⟨fun a=>decide_eq_false (by omega),fun a b c h1 h2=>decide_eq_true (by have:=of_decide_eq_true h1;have:=of_decide_eq_true h2;omega),fun a b=>by
 rcases Int.lt_trichotomy a b with h|h|h
 ·exact .inl (decide_eq_true h)
 ·exact .inr (.inl h)
 ·exact .inr (.inr (decide_eq_true h))⟩
def Zbe{α:Type} [DecidableEq α](lt:α->α->Bool):List α->List α->Bool
 |[],[]=>false
 |[],_::_=>true
 |_::_,[]=>false
 |a::r,b::t=>if a=b then Zbe lt r t else lt a b
theorem Zgz{α:Type} [DecidableEq α]{lt:α->α->Bool}(o:STO lt):STO (Zbe lt) where
 irr:=fun l=>by
  induction l with
  |nil=>rfl
  |cons a r ih=>unfold Zbe;rw[if_pos rfl];exact ih
 tr:=fun x=>by
  induction x with
  |nil=>intro y z h1 h2;cases y with
   |nil=>exact h2
   |cons b t=>cases z with
    |nil=>exact absurd h2 (by simp[Zbe])
    |cons c u=>rfl
  |cons a r ih=>intro y z h1 h2;cases y with
   |nil=>exact absurd h1 (by simp[Zbe])
   |cons b t=>cases z with
    |nil=>exact absurd h2 (by simp[Zbe])
    |cons c u=>
     unfold Zbe at h1 h2⊢
     by_cases e1:a=b
     ·subst e1;rw[if_pos rfl] at h1
      by_cases e2:a=c
      ·rw[if_pos e2] at h2⊢;exact ih t u h1 h2
      ·rw[if_neg e2] at h2⊢;exact h2
     ·rw[if_neg e1] at h1
      by_cases e2:b=c
      ·subst e2;rw[if_neg e1];exact h1
      ·rw[if_neg e2] at h2
       have h3:=o.tr _ _ _ h1 h2
       by_cases e3:a=c
       ·subst e3;rw[o.irr] at h3;cases h3
       ·rw[if_neg e3];exact h3
 tri:=fun x=>by
  induction x with
  |nil=>intro y;cases y with
   |nil=>exact .inr (.inl rfl)
   |cons b t=>exact .inl rfl
  |cons a r ih=>intro y;cases y with
   |nil=>exact .inr (.inr rfl)
   |cons b t=>
    unfold Zbe
    by_cases e:a=b
    ·subst e;rw[if_pos rfl,if_pos rfl];rcases ih t with h|h|h
     ·exact .inl h
     ·exact .inr (.inl (by rw[h]))
     ·exact .inr (.inr h)
    ·rw[if_neg e,if_neg (Ne.symm e)];rcases o.tri a b with h|h|h
     ·exact .inl h
     ·exact absurd h e
     ·exact .inr (.inr h)
def ZiZ{α β:Type} [DecidableEq α](la:α->α->Bool)(lb:β->β->Bool)(x y:α×β):Bool:=if x.1=y.1 then lb x.2 y.2 else la x.1 y.1
theorem ZgA{α β:Type} [DecidableEq α]{la:α->α->Bool}{lb:β->β->Bool}(oa:STO la)(ob:STO lb):STO (ZiZ la lb) where
 irr:=fun x=>by unfold ZiZ;rw[if_pos rfl];exact ob.irr _
 tr:=fun⟨a,x⟩ ⟨b,y⟩ ⟨c,z⟩ h1 h2=>by
  unfold ZiZ at h1 h2⊢
  dsimp only at h1 h2⊢
  by_cases e1:a=b
  ·subst e1;rw[if_pos rfl] at h1
   by_cases e2:a=c
   ·rw[if_pos e2] at h2⊢;exact ob.tr _ _ _ h1 h2
   ·rw[if_neg e2] at h2⊢;exact h2
  ·rw[if_neg e1] at h1
   by_cases e2:b=c
   ·subst e2;rw[if_neg e1];exact h1
   ·rw[if_neg e2] at h2
    have h3:=oa.tr _ _ _ h1 h2
    by_cases e3:a=c
    ·subst e3;rw[oa.irr] at h3;cases h3
    ·rw[if_neg e3];exact h3
 tri:=fun⟨a,x⟩ ⟨b,y⟩=>by
  unfold ZiZ
  dsimp only
  by_cases e:a=b
  ·subst e;rw[if_pos rfl,if_pos rfl];rcases ob.tri x y with h|h|h
   ·exact .inl h
   ·exact .inr (.inl (by rw[h]))
   ·exact .inr (.inr h)
  ·rw[if_neg e,if_neg (Ne.symm e)];rcases oa.tri a b with h|h|h
   ·exact .inl h
   ·exact absurd h e
   ·exact .inr (.inr h)
def ZhB(a b:List Nat):Bool:=decide (a<b)
theorem Zej:∀a b:List Nat,ZhB a b=Zbe (fun x y=>decide (x<y)) a b
 |[],[]=>rfl
 |[],_::_=>rfl
 |_::_,[]=>rfl
 |a::r,b::t=>by
  unfold Zbe;have e:ZhB (a::r) (b::t)=(decide (a<b)||(a==b&&ZhB r t)):=StrLaws.lt_cons_cons a b r t;rw[e,Zej r t]
  by_cases q:a=b
  ·subst q;rw[if_pos rfl];simp
  ·rw[if_neg q];simp[q]
def Zbf(a b:Str):Bool:=decide (a.cps.toList<b.cps.toList)
theorem Zfc:STO Zbf:=by
 have o:STO fun x y:Nat=>decide (x<y):=⟨fun a=>decide_eq_false (by omega),fun a b c h1 h2=>decide_eq_true (by have:=of_decide_eq_true h1;have:=of_decide_eq_true h2;omega),fun a b=>by
  rcases Nat.lt_trichotomy a b with h|h|h
  ·exact .inl (decide_eq_true h)
  ·exact .inr (.inl h)
  ·exact .inr (.inr (decide_eq_true h))⟩
 have L:=Zgz o;have e:∀a b:Str,Zbf a b=Zbe (fun x y=>decide (x<y)) a.cps.toList b.cps.toList:=fun a b=>Zej _ _;refine⟨fun a=>(e a a).trans (L.irr _),fun a b c h1 h2=> ?_,fun a b=> ?_⟩
 ·rw[e] at h1 h2⊢;exact L.tr _ _ _ h1 h2
 ·rw[e,e];rcases L.tri a.cps.toList b.cps.toList with h|h|h
  ·exact .inl h
  ·refine .inr (.inl ?_);obtain⟨⟨x⟩⟩:=a;obtain⟨⟨y⟩⟩:=b;have h:x=y:=h;rw[h]
  ·exact .inr (.inr h)
abbrev Lf:=Str×Int
def Zbg:Lf->Lf->Bool:=ZiZ Zbf Za2
def ZbV:List Lf->List Lf->Bool:=Zbe Zbg
abbrev Ky:=Int×List Lf
def ZcB:Ky->Ky->Bool:=ZiZ Za2 ZbV
theorem Za3:STO Zbg:=ZgA Zfc ZbF
theorem Zda:STO ZbV:=Zgz Za3
theorem ZcC:STO ZcB:=ZgA ZbF Zda
end L3
set_option maxHeartbeats 5000000
namespace L3
open PySem PySem.W PyProof.Rows
def ZcD:Bool->Keyed->Array Keyed->Nat->Nat->Nat->StateT SortSt Sem (Option Nat):=sortPriv%PySem.Builtin.gallop
def ZgB:Array Keyed->Array Keyed->StateT SortSt Sem (Array Keyed):=sortPriv%PySem.Builtin.mergeLo
def ZgC:Array Keyed->Array Keyed->StateT SortSt Sem (Array Keyed):=sortPriv%PySem.Builtin.mergeHi
def Zlk:Nat->StateT SortSt Sem Unit:=sortPriv%PySem.Builtin.setMinGallop
def Rn(M:Model)(A:Around)(I:Shared->Prop){α:Type}(m:StateT SortSt Sem α)(st:SortSt)(P:α->SortSt->Prop):Prop:=
 ∀(E:Value->Shared->Prop) (Q:α->SortSt->Shared->Prop) (s:Shared),I s->(∀a st' s',P a st'->I s'->Q a st' s')->kasC M A E m Q st s
section
variable {M:Model} {A:Around} {I:Shared->Prop} {α β:Type} {st:SortSt}
theorem Zo{a:α}{P:α->SortSt->Prop}(h:P a st):Rn M A I (pure a) st P:=fun E Q s i q=>kasC_pure (q _ _ _ h i)
theorem Zi{m:StateT SortSt Sem α}{f:α->StateT SortSt Sem β}{P:β->SortSt->Prop}(h:Rn M A I m st fun a st'=>Rn M A I (f a) st' P):Rn M A I (m>>=f) st P:=fun E Q s i q=>kasC_bind (h E _ s i fun a st' s' z i'=>z E Q s' i' q)
theorem Yq{m:StateT SortSt Sem α}{P P':α->SortSt->Prop}(h:Rn M A I m st P)(k:∀a st',P a st'->P' a st'):Rn M A I m st P':=fun E Q s i q=>h E Q s i fun a st' s' z i'=>q a st' s' (k a st' z) i'
theorem Je{P:SortSt->SortSt->Prop}(h:P st st):Rn M A I get st P:=fun E Q s i q=>kasC_get (q _ _ _ h i)
theorem Za4{f:SortSt->SortSt}{P:PUnit->SortSt->Prop}(h:P ⟨⟩ (f st)):Rn M A I (modify f) st P:=fun E Q s i q=>kasC_modify (q _ _ _ h i)
theorem ZaN{r:String}{P:Unit->SortSt->Prop}(h:P () st):Rn M A I (liftM (rule r:Sem Unit)) st P:=fun E Q s i q=>kasC_lift (wpAny_rule (q _ _ _ h i))
theorem Yr{arr:Array Keyed}{i:Nat}{x:Keyed}{P:Keyed->SortSt->Prop}(e:arr[i]? =some x)(h:P x st):Rn M A I (elem' arr i) st P:=by
 rw[elem'_eq,e];exact Zo h
theorem Zih{f:Nat->β->StateT SortSt Sem (ForInStep β)}{P:β->SortSt->Prop}{b:Nat}(J:Nat->β->SortSt->Prop)
  (step:∀k x c st,x+(k+1)=b->J (k+1) c st->Rn M A I (f x c) st fun r st'=>match r with| .done c'=>P c' st'| .yield c'=>J k c' st') (fin:∀c st,J 0 c st->P c st):
  ∀(k a:Nat) (c:β) (st:SortSt),a+k=b->J k c st->Rn M A I (forIn (List.range' a k) c f) st P
 |0,a,c,st,e,h=>fun E Q s i q=>kasC_nil (q _ _ _ (fin _ _ h) i)
 |k+1,a,c,st,e,h=>fun E Q s i q=>by
  show kasC M A E (forIn (a::List.range' (a+1) k) c f) Q st s;refine kasC_cons (step k a c st e h E _ s i fun r st' s' z i'=> ?_);cases r with
  |done c'=>exact q _ _ _ z i'
  |yield c'=>exact Zih J step fin k (a+1) c' st' (by omega) z E Q s' i' q
theorem YK{f:Nat->β->StateT SortSt Sem (ForInStep β)}{P:β->SortSt->Prop}{a b:Nat}{c:β}(J:Nat->β->SortSt->Prop)(h0:J (b-a) c st)(ab:a<=b)
  (step:∀k x c st,x+(k+1)=b->J (k+1) c st->Rn M A I (f x c) st fun r st'=>match r with| .done c'=>P c' st'| .yield c'=>J k c' st') (fin:∀c st,J 0 c st->P c st):
  Rn M A I (forIn [a:b] c f) st P:=fun E Q s i q=>kasC_range (Zih J step fin (b-a) a c st (by omega) h0 E Q s i q)
end
section
variable {prog:Program} {w:World} {A:Around} {I:Shared->Prop} {κ:SortKind} {it:Array Keyed} {n:Nat} {ans:Nat->Nat->Bool}
def Zdb(prog:Program)(w:World)(A:Around)(I:Shared->Prop)(κ:SortKind)(it:Array Keyed)(n:Nat)(ans:Nat->Nat->Bool):Prop:=
 ∀i j (C:Bool->Shared->Prop) s,i<n->j<n->I s->(∀s',I s'->C (ans i j) s')->kas_cmp prog w A κ it i j C s
theorem ZgD(k:Zdb prog w A I κ it n ans){st:SortSt}(hk:kindOf st=κ){i j:Nat}(hi:i<n)(hj:j<n){P:Option Bool->SortSt->Prop}(h:P (some (ans i j)) st):Rn (model prog w) A I (lt' (kas_item it i) (kas_item it j)) st P:=fun E Q s is q=>by
 rw[lt'_eq];refine kasC_bind (kasC_get ?_);rw[hk];refine kasC_bind (kasC_lift (wpAny_attempt (wpAny_mono (k i j _ s hi hj is fun s' i'=> ?_) (fun c s' z=>z) fun _ _ z=>z.elim)));exact kasC_pure (q _ _ _ h i')
theorem ZfK{q:Array Nat}{i:Nat}(h:i<q.size):(q.map (kas_item it))[i]? =some (kas_item it (at_ q i)):=by
 rw[ZaM];simp[h]
theorem gal(k:Zdb prog w A I κ it n ans){st:SortSt}(hk:kindOf st=κ){left:Bool}{q:Array Nat}{x base m hint:Nat}{bey:Nat->Bool}(hb:∀i,i<m->base+i<q.size/\at_ q (base+i)<n/\bey i=if left=true then ans (at_ q (base+i)) x else !(ans x (at_ q (base+i))))(hx:x<n)
  (mo:∀i j,i<=j->j<m->bey j=true->bey i=true)(hh:hint<m){P:Option Nat->SortSt->Prop}(q1:∀y,y<=m->(∀i,i<y->bey i=true)->(∀i,y<=i->i<m->bey i=false)->P (some y) st):
  Rn (model prog w) A I (ZcD left (kas_item it x) (q.map (kas_item it)) base m hint) st P:=by
 have B:∀i,i<m->∀{R:Option Bool->SortSt->Prop},R (some (bey i)) st->Rn (model prog w) A I (do
   let y<-elem' (q.map (kas_item it)) (base+i)
   if left=true then lt' y (kas_item it x) else do
    let r<-lt' (kas_item it x) y
    pure (r.map (!·))) st R:=fun i hi R r=>by
  obtain⟨b1,b2,b3⟩:=hb i hi;refine Zi (Yr (ZfK b1) ?_);rw[b3] at r
  cases left with
  |true=>exact ZgD k hk b2 hx r
  |false=>exact Zi (ZgD k hk hx b2 (Zo r))
 have mf:∀i j,i<=j->j<m->bey i=false->bey j=false:=fun i j ij hj e=>by
  cases z:bey j with
  |false=>rfl
  |true=>rw[mo i j ij hj z] at e;cases e
 let J2:Nat->Option (Option Nat)×Nat×Nat->SortSt->Prop:=fun u c s2=>s2=st/\c.1=none/\c.2.1<=c.2.2/\c.2.2<=m/\c.2.2-c.2.1<=u/\(∀i,i<c.2.1->bey i=true)/\∀i,c.2.2<=i->i<m->bey i=false
 refine Zi (B hint hh ?_);cases bh:bey hint with
 |true=>
  refine Zi (Yq (YK (P:=fun c s2=>s2=st/\c.1=none/\c.2.1<c.2.2/\c.2.1<m-hint/\bey (hint+c.2.1)=true/\(m-hint<=c.2.2\/bey (hint+c.2.2)=false)) (fun u c s2=>s2=st/\c.1=none/\c.2.1<c.2.2/\c.2.1<m-hint/\m+1<=c.2.2+u/\bey (hint+c.2.1)=true) ⟨rfl,rfl,by show 0<1;omega,by show 0<m-hint;omega,by show m+1<=1+(m-0);omega,bh⟩ (Nat.zero_le _) ?_ ?_) ?_)
  ·rintro u y ⟨c1,c2,c3⟩ s2 _ ⟨e1,e2,e3,e4,e5,e6⟩
   dsimp only at e2 e3 e4 e5 e6⊢
   subst e1 e2
   by_cases g:c3≥m-hint
   ·rw[if_pos g];exact Zo ⟨rfl,rfl,e3,e4,e6,.inl g⟩
   ·rw[if_neg g];refine Zi (B _ (by omega) ?_);cases z:bey (hint+c3) with
    |true=>exact Zo ⟨rfl,rfl,by show c3<2*c3+1;omega,by show c3<m-hint;omega,by show m+1<=2*c3+1+u;omega,z⟩
    |false=>exact Zo ⟨rfl,rfl,e3,e4,e6,.inr z⟩
  ·rintro⟨c1,c2,c3⟩ s2 ⟨e1,e2,e3,e4,e5,e6⟩
   dsimp only at e5
   exact⟨e1,e2,e3,e4,e6,.inl (by show m-hint<=c3;omega)⟩
  ·rintro⟨c1,c2,c3⟩ s2 ⟨e1,e2,e3,e4,e6,e7⟩
   dsimp only at e2 e3 e4 e6 e7⊢
   subst e1 e2;refine Zi (Yq (YK (P:=J2 0) J2 ⟨rfl,rfl,by show hint+c2+1<=hint+min c3 (m-hint);omega,by show hint+min c3 (m-hint)<=m;omega,by show hint+min c3 (m-hint)-(hint+c2+1)<=m-0;omega,fun i hi=> ?_,fun i hi hm=> ?_⟩ (Nat.zero_le _) ?_ ?_) ?_)
   ·exact mo i _ (by dsimp only at hi;omega) (by omega) e6
   ·rcases e7 with e7|e7
    ·dsimp only at hi;omega
    ·by_cases g:c3<m-hint
     ·exact mf (hint+c3) i (by dsimp only at hi;omega) hm e7
     ·dsimp only at hi;omega
   ·rintro u y ⟨c1,lo,hi⟩ s2 _ ⟨e1,e2,e3,e4,e5,e6,e7⟩
    dsimp only at e2 e3 e4 e5 e6 e7⊢
    subst e1 e2
    by_cases g:lo≥hi
    ·rw[if_pos g];exact Zo ⟨rfl,rfl,e3,e4,by show hi-lo<=0;omega,e6,e7⟩
    ·rw[if_neg g];refine Zi (B _ (by omega) ?_);cases z:bey (lo+(hi-lo)/2) with
     |true=>exact Zo ⟨rfl,rfl,by show lo+(hi-lo)/2+1<=hi;omega,e4,by show hi-(lo+(hi-lo)/2+1)<=u;omega,fun i hi2=>mo i _ (by dsimp only at hi2;omega) (by omega) z,e7⟩
     |false=>exact Zo ⟨rfl,rfl,by show lo<=lo+(hi-lo)/2;omega,by show lo+(hi-lo)/2<=m;omega,by show lo+(hi-lo)/2-lo<=u;omega,e6,fun i a b=>mf _ i a b z⟩
   ·exact fun c s2 z=>z
   ·rintro⟨c1,lo,hi⟩ s2 ⟨e1,e2,e3,e4,e5,e6,e7⟩
    dsimp only at e2 e3 e4 e5 e6 e7⊢
    subst e1 e2;exact Zo (q1 _ e4 (fun i hi=>e6 i (by omega)) e7)
 |false=>
  refine Zi (Yq (YK (P:=fun c s2=>s2=st/\c.1=none/\c.2.1<c.2.2/\c.2.1<hint+1/\bey (hint-c.2.1)=false/\(hint+1<=c.2.2\/bey (hint-c.2.2)=true)) (fun u c s2=>s2=st/\c.1=none/\c.2.1<c.2.2/\c.2.1<hint+1/\m+1<=c.2.2+u/\bey (hint-c.2.1)=false) ⟨rfl,rfl,by show 0<1;omega,by show 0<hint+1;omega,by show m+1<=1+(m-0);omega,bh⟩ (Nat.zero_le _) ?_ ?_) ?_)
  ·rintro u y ⟨c1,c2,c3⟩ s2 _ ⟨e1,e2,e3,e4,e5,e6⟩
   dsimp only at e2 e3 e4 e5 e6⊢
   subst e1 e2
   by_cases g:c3≥hint+1
   ·rw[if_pos g];exact Zo ⟨rfl,rfl,e3,e4,e6,.inl g⟩
   ·rw[if_neg g];refine Zi (B _ (by omega) ?_);cases z:bey (hint-c3) with
    |false=>exact Zo ⟨rfl,rfl,by show c3<2*c3+1;omega,by show c3<hint+1;omega,by show m+1<=2*c3+1+u;omega,z⟩
    |true=>exact Zo ⟨rfl,rfl,e3,e4,e6,.inr z⟩
  ·rintro⟨c1,c2,c3⟩ s2 ⟨e1,e2,e3,e4,e5,e6⟩
   dsimp only at e5
   exact⟨e1,e2,e3,e4,e6,.inl (by show hint+1<=c3;omega)⟩
  ·rintro⟨c1,c2,c3⟩ s2 ⟨e1,e2,e3,e4,e6,e7⟩
   dsimp only at e2 e3 e4 e6 e7⊢
   subst e1 e2;refine Zi (Yq (YK (P:=J2 0) J2 ⟨rfl,rfl,by show hint+1-min c3 (hint+1)<=hint-c2;omega,by show hint-c2<=m;omega,by show hint-c2-(hint+1-min c3 (hint+1))<=m-0;omega,fun i hi=> ?_,fun i hi hm=> ?_⟩ (Nat.zero_le _) ?_ ?_) ?_)
   ·rcases e7 with e7|e7
    ·dsimp only at hi;omega
    ·by_cases g:c3<hint+1
     ·exact mo i (hint-c3) (by dsimp only at hi;omega) (by omega) e7
     ·dsimp only at hi;omega
   ·exact mf _ i hi hm e6
   ·rintro u y ⟨c1,lo,hi⟩ s2 _ ⟨e1,e2,e3,e4,e5,e6,e7⟩
    dsimp only at e2 e3 e4 e5 e6 e7⊢
    subst e1 e2
    by_cases g:lo≥hi
    ·rw[if_pos g];exact Zo ⟨rfl,rfl,e3,e4,by show hi-lo<=0;omega,e6,e7⟩
    ·rw[if_neg g];refine Zi (B _ (by omega) ?_);cases z:bey (lo+(hi-lo)/2) with
     |true=>exact Zo ⟨rfl,rfl,by show lo+(hi-lo)/2+1<=hi;omega,e4,by show hi-(lo+(hi-lo)/2+1)<=u;omega,fun i hi2=>mo i _ (by dsimp only at hi2;omega) (by omega) z,e7⟩
     |false=>exact Zo ⟨rfl,rfl,by show lo<=lo+(hi-lo)/2;omega,by show lo+(hi-lo)/2<=m;omega,by show lo+(hi-lo)/2-lo<=u;omega,e6,fun i a b=>mf _ i a b z⟩
   ·exact fun c s2 z=>z
   ·rintro⟨c1,lo,hi⟩ s2 ⟨e1,e2,e3,e4,e5,e6,e7⟩
    dsimp only at e2 e3 e4 e5 e6 e7⊢
    subst e1 e2;exact Zo (q1 _ e4 (fun i hi=>e6 i (by omega)) e7)
end
section
variable {ans:Nat->Nat->Bool} {la lb r:List Nat} {ia ib:Nat} {it:Array Keyed}
def Le(ans:Nat->Nat->Bool)(x y:Nat):Prop:=ans y x=false
theorem Le.trans(o:Ord ans){x y z:Nat}(a:Le ans x y)(b:Le ans y z):Le ans x z:=o.tr x y z a b
theorem Ord.le(o:Ord ans){x y:Nat}(h:ans x y=true):Le ans x y:=o.asym x y h
theorem Ord.lt(o:Ord ans){x y z:Nat}(a:Le ans x y)(h:ans y z=true):ans x z=true:=by
 cases e:ans x z with
 |true=>rfl
 |false=>
  have c:Le ans z y:=Le.trans o (show Le ans z x from e) a;rw[show ans y z=false from c] at h
  cases h
def ar(it:Array Keyed)(l:List Nat):Array Keyed:=l.toArray.map (kas_item it)
theorem Zaj(x y:List Nat):ar it x++ar it y=ar it (x++y):=by simp[ar]
theorem JQ(x:List Nat)(y:Nat):(ar it x).push (kas_item it y)=ar it (x++[y]):=by simp[ar]
theorem Yk(x:List Nat):(ar it x).size=x.length:=by simp[ar]
theorem JD(x:List Nat)(i j:Nat):(ar it x).extract i j=ar it ((x.take j).drop i):=by
 apply Array.ext'
 simp[ar,List.extract,List.map_take,List.map_drop,List.take_drop]
 by_cases h:i<=j
 ·rw[show i+(j-i)=j by omega]
 ·rw[List.drop_eq_nil_of_le (by simp;omega),List.drop_eq_nil_of_le (by simp;omega)]
theorem ZhC(x:List Nat):(ar it x).reverse=ar it x.reverse:=by simp[ar]
theorem XC(x:List Nat)(i:Nat):at_ x.toArray i=x.getD i 0:=by rw[ZaM];simp
theorem ZcE{x:List Nat}{k i:Nat}(h:k<=i)(hi:i<x.length):at_ x.toArray i∈x.drop k:=by
 rw[XC,List.mem_drop_iff_getElem];exact⟨i-k,by omega,by simp[show k+(i-k)=i by omega,hi]⟩
theorem ZbG{x:List Nat}{k y:Nat}(h:y∈x.drop k):∃i,k<=i/\i<x.length/\y=at_ x.toArray i:=by
 obtain⟨i,hi,e⟩:=List.mem_drop_iff_getElem.mp h;exact⟨k+i,by omega,by omega,by rw[XC,<-e];simp[show k+i<x.length by omega]⟩
theorem ZcF{x:List Nat}{i:Nat}(h:i<x.length):x.drop i=at_ x.toArray i::x.drop (i+1):=by
 rw[XC,List.drop_eq_getElem_cons h];simp[h]
theorem ZbH{x:List Nat}(o:Ord ans)(h:x.Pairwise (Le ans)){i j:Nat}(ij:i<=j)(hj:j<x.length):Le ans (at_ x.toArray i) (at_ x.toArray j):=by
 by_cases e:i=j
 ·rw[e];exact o.irr _
 ·have:=List.pairwise_iff_getElem.mp h i j (by omega) hj (by omega);rw[XC,XC]
  simpa [hj,show i<x.length by omega] using this
structure Mg (ans:Nat->Nat->Bool) (la lb r:List Nat) (ia ib:Nat):Prop where
 pa:(r++la.drop ia).Pairwise (Le ans)
 pb:(r++lb.drop ib).Pairwise (Le ans)
 pm:(r++(la.drop ia++lb.drop ib)).Perm (la++lb)
def ZaD(ans:Nat->Nat->Bool)(it:Array Keyed)(la lb:List Nat)(R:Array Keyed):Prop:=∃r,R=ar it r/\r.Pairwise (Le ans)/\r.Perm (la++lb)
theorem Mg.takeA{k:Nat}(h:Mg ans la lb r ia ib)(c:∀x∈(la.drop ia).take k,∀y∈lb.drop ib,Le ans x y):Mg ans la lb (r++(la.drop ia).take k) (ia+k) ib:=by
 have e:(la.drop ia).take k++la.drop (ia+k)=la.drop ia:=by rw[<-List.drop_drop,List.take_append_drop]
 refine⟨?_, ?_, ?_⟩
 ·rw[List.append_assoc,e];exact h.pa
 ·rw[List.append_assoc,List.pairwise_append];obtain⟨a1,a2,a3⟩:=List.pairwise_append.mp h.pa;obtain⟨b1,b2,b3⟩:=List.pairwise_append.mp h.pb;refine⟨a1,List.pairwise_append.mpr ⟨a2.sublist (List.take_sublist _ _),b2,c⟩,fun x hx y hy=> ?_⟩;rcases List.mem_append.mp hy with hy|hy
  ·exact a3 x hx y (List.mem_of_mem_take hy)
  ·exact b3 x hx y hy
 ·have z:=h.pm;rw[<-e] at z
  simpa [List.append_assoc] using z
theorem Mg.takeB{k:Nat}(h:Mg ans la lb r ia ib)(c:∀x∈(lb.drop ib).take k,∀y∈la.drop ia,Le ans x y):Mg ans la lb (r++(lb.drop ib).take k) ia (ib+k):=by
 have e:(lb.drop ib).take k++lb.drop (ib+k)=lb.drop ib:=by rw[<-List.drop_drop,List.take_append_drop]
 refine⟨?_, ?_, ?_⟩
 ·rw[List.append_assoc,List.pairwise_append];obtain⟨a1,a2,a3⟩:=List.pairwise_append.mp h.pa;obtain⟨b1,b2,b3⟩:=List.pairwise_append.mp h.pb;refine⟨a1,List.pairwise_append.mpr ⟨b2.sublist (List.take_sublist _ _),a2,c⟩,fun x hx y hy=> ?_⟩;rcases List.mem_append.mp hy with hy|hy
  ·exact b3 x hx y (List.mem_of_mem_take hy)
  ·exact a3 x hx y hy
 ·rw[List.append_assoc,e];exact h.pb
 ·have z:=h.pm;rw[<-e] at z
  refine List.Perm.trans ?_ z;rw[List.append_assoc];refine List.Perm.append_left _ ?_;rw[<-List.append_assoc,<-List.append_assoc];exact List.Perm.append_right _ List.perm_append_comm
theorem Mg.pushA(h:Mg ans la lb r ia ib)(hi:ia<la.length)(c:∀y∈lb.drop ib,Le ans (at_ la.toArray ia) y):Mg ans la lb (r++[at_ la.toArray ia]) (ia+1) ib:=by
 have e:(la.drop ia).take 1=[at_ la.toArray ia]:=by rw[ZcF hi];rfl
 have z:=h.takeA (k:=1) (by rw[e];intro x hx;rw[List.mem_singleton.mp hx];exact c)
 rwa [e] at z
theorem Mg.pushB(h:Mg ans la lb r ia ib)(hi:ib<lb.length)(c:∀y∈la.drop ia,Le ans (at_ lb.toArray ib) y):Mg ans la lb (r++[at_ lb.toArray ib]) ia (ib+1):=by
 have e:(lb.drop ib).take 1=[at_ lb.toArray ib]:=by rw[ZcF hi];rfl
 have z:=h.takeB (k:=1) (by rw[e];intro x hx;rw[List.mem_singleton.mp hx];exact c)
 rwa [e] at z
theorem Mg.end_(h:Mg ans la lb r ia ib)(e:ib=lb.length\/ia=la.length):ZaD ans it la lb (ar it r++(ar it la).extract ia++(ar it lb).extract ib):=by
 refine⟨r++(la.drop ia++lb.drop ib), ?_, ?_,h.pm⟩
 ·rw[JD,JD,Zaj,Zaj,Yk,Yk,List.take_length,List.take_length,List.append_assoc]
 ·rcases e with e|e
  ·rw[e,List.drop_length,List.append_nil];exact h.pa
  ·rw[e,List.drop_length,List.nil_append];exact h.pb
theorem Mg.last(h:Mg ans la lb r ia ib)(e:ia+1=la.length)(c:∀y∈lb,Le ans y (at_ la.toArray (la.length-1))):ZaD ans it la lb (ar it r++(ar it lb).extract ib++(ar it la).extract ia):=by
 have ed:la.drop ia=[at_ la.toArray (la.length-1)]:=by
  rw[ZcF (by omega),show ia+1=la.length from e,List.drop_length,show la.length-1=ia by omega]
 have pm:=h.pm;have pa:=h.pa;rw[ed] at pm pa
 refine⟨r++(lb.drop ib++la.drop ia), ?_, ?_, ?_⟩
 ·rw[JD,JD,Zaj,Zaj,Yk,Yk,List.take_length,List.take_length,List.append_assoc]
 ·rw[ed,<-List.append_assoc,List.pairwise_append];refine⟨h.pb,List.pairwise_singleton _ _,fun x hx y hy=> ?_⟩;rcases List.mem_append.mp hx with hx|hx
  ·exact(List.pairwise_append.mp pa).2.2 x hx y hy
  ·rw[List.mem_singleton.mp hy];exact c x (List.mem_of_mem_drop hx)
 ·rw[ed];exact(List.Perm.append_left _ List.perm_append_comm).trans pm
theorem Mg.leB(o:Ord ans)(sb:lb.Pairwise (Le ans)){x:Nat}(hi:ib<lb.length)(c:Le ans x (at_ lb.toArray ib)):∀y∈lb.drop ib,Le ans x y:=fun y hy=>by
 obtain⟨i,a,b,rfl⟩:=ZbG hy;exact Le.trans o c (ZbH o sb a b)
end
section
variable {prog:Program} {w:World} {A:Around} {I:Shared->Prop} {κ:SortKind} {it:Array Keyed} {n:Nat} {ans:Nat->Nat->Bool}
theorem Yn{α:Type}{M:Model}{c:Prop} [Decidable c]{x y:StateT SortSt Sem α}{st:SortSt}{P:α->SortSt->Prop}(h1:c->Rn M A I x st P)(h2:¬c->Rn M A I y st P):Rn M A I (if c then x else y) st P:=by
 by_cases h:c
 ·rw[if_pos h];exact h1 h
 ·rw[if_neg h];exact h2 h
theorem XQ{α:Type}{M:Model}{c:Prop} [Decidable c]{x y:StateT SortSt Sem α}{st:SortSt}{P:α->SortSt->Prop}(h:c)(h1:Rn M A I x st P):Rn M A I (if c then x else y) st P:=by rw[if_pos h];exact h1
theorem Xx{α:Type}{M:Model}{c:Prop} [Decidable c]{x y:StateT SortSt Sem α}{st:SortSt}{P:α->SortSt->Prop}(h:¬c)(h1:Rn M A I y st P):Rn M A I (if c then x else y) st P:=by rw[if_neg h];exact h1
theorem XF{l:List Nat}{i:Nat}(h:i<l.length):(ar it l)[i]? =some (kas_item it (at_ l.toArray i)):=ZfK (by simpa using h)
theorem ZcG{l:List Nat}{i:Nat}(h:(i==(ar it l).size)=true):i=l.length:=by have:=eq_of_beq h;rwa [Yk] at this
theorem ZaO{l:List Nat}{i:Nat}(h:¬(i==(ar it l).size)=true):i≠l.length:=fun e=>h (by rw[Yk,e];exact beq_self_eq_true _)
def stt(κ:SortKind)(arr:Array Keyed)(pend:Array (Nat×Nat×Nat))(g:Nat):SortSt:=SortSt.mk' κ arr pend g none
structure Gd (ans:Nat->Nat->Bool) (it:Array Keyed) (la lb:List Nat) (out:Array Keyed) (ia ib u:Nat):Prop where
 row:∃r,out=ar it r/\Mg ans la lb r ia ib
 roomA:ia+1<la.length
 roomB:ib<lb.length
 left:la.length-ia+(lb.length-ib)<=u
theorem Zk3{arr:Array Keyed}{pend:Array (Nat×Nat×Nat)}{g g2:Nat}{P:Unit->SortSt->Prop}(h:P () (stt κ arr pend g2)):Rn (model prog w) A I (Zlk g2) (stt κ arr pend g) P:=Za4 h
theorem ZlR(k:Zdb prog w A I κ it n ans)(o:Ord ans){st:SortSt}(hk:kindOf st=κ){l:List Nat}{x base m hint:Nat}(nl:∀i,i<l.length->at_ l.toArray i<n)(sl:∀i j,base<=i->i<=j->j<base+m->Le ans (at_ l.toArray i) (at_ l.toArray j))(hx:x<n)(hm:base+m<=l.length)(hh:hint<m){P:Option Nat->SortSt->Prop}
  (q:∀y,y<=m->(∀i,base<=i->i<base+y->Le ans (at_ l.toArray i) x)->(∀i,base+y<=i->i<base+m->ans x (at_ l.toArray i)=true)->P (some y) st):Rn (model prog w) A I (ZcD false (kas_item it x) (ar it l) base m hint) st P:=by
 refine gal k hk (bey:=fun i=> !(ans x (at_ l.toArray (base+i)))) (fun i hi=>⟨by simp;omega,nl _ (by omega),rfl⟩) hx (fun i j ij hj e=> ?_) hh fun y hy a b=>q y hy (fun i h1 h2=> ?_) fun i h1 h2=> ?_
 ·have e:ans x (at_ l.toArray (base+j))=false:=by simpa using e
  have z:=Le.trans o (sl (base+i) (base+j) (by omega) (by omega) (by omega)) e;show(!(ans x (at_ l.toArray (base+i))))=true;rw[show ans x (at_ l.toArray (base+i))=false from z]
  rfl
 ·have z:=a (i-base) (by omega);rw[show base+(i-base)=i by omega] at z
  exact(by simpa using z:ans x (at_ l.toArray i)=false)
 ·have z:=b (i-base) (by omega) (by omega);rw[show base+(i-base)=i by omega] at z
  simpa using z
theorem ZlS(k:Zdb prog w A I κ it n ans)(o:Ord ans){st:SortSt}(hk:kindOf st=κ){l:List Nat}{x base m hint:Nat}(nl:∀i,i<l.length->at_ l.toArray i<n)(sl:∀i j,base<=i->i<=j->j<base+m->Le ans (at_ l.toArray i) (at_ l.toArray j))(hx:x<n)(hm:base+m<=l.length)(hh:hint<m){P:Option Nat->SortSt->Prop}
  (q:∀y,y<=m->(∀i,base<=i->i<base+y->ans (at_ l.toArray i) x=true)->(∀i,base+y<=i->i<base+m->Le ans x (at_ l.toArray i))->P (some y) st):Rn (model prog w) A I (ZcD true (kas_item it x) (ar it l) base m hint) st P:=by
 refine gal k hk (bey:=fun i=>ans (at_ l.toArray (base+i)) x) (fun i hi=>⟨by simp;omega,nl _ (by omega),rfl⟩) hx (fun i j ij hj e=>o.lt (sl (base+i) (base+j) (by omega) (by omega) (by omega)) e) hh fun y hy a b=>q y hy (fun i h1 h2=> ?_) fun i h1 h2=> ?_
 ·have z:=a (i-base) (by omega)
  rwa [show base+(i-base)=i by omega] at z
 ·have z:=b (i-base) (by omega) (by omega)
  rwa [show base+(i-base)=i by omega] at z
theorem Znu(k:Zdb prog w A I κ it n ans)(o:Ord ans){st:SortSt}(hk:kindOf st=κ){l:List Nat}(nl:∀i,i<l.length->at_ l.toArray i<n)(sl:l.Pairwise (Le ans)){x base m hint:Nat}(hx:x<n)(hm:base+m<=l.length)(hh:hint<m){P:Option Nat->SortSt->Prop}
  (q:∀y,y<=m->(∀i,base<=i->i<base+y->Le ans (at_ l.toArray i) x)->(∀i,base+y<=i->i<base+m->ans x (at_ l.toArray i)=true)->P (some y) st):Rn (model prog w) A I (ZcD false (kas_item it x) (ar it l) base m hint) st P:=ZlR k o hk nl (fun i j _ ij hj=>ZbH o sl ij (by omega)) hx hm hh q
theorem Znv(k:Zdb prog w A I κ it n ans)(o:Ord ans){st:SortSt}(hk:kindOf st=κ){l:List Nat}(nl:∀i,i<l.length->at_ l.toArray i<n)(sl:l.Pairwise (Le ans)){x base m hint:Nat}(hx:x<n)(hm:base+m<=l.length)(hh:hint<m){P:Option Nat->SortSt->Prop}
  (q:∀y,y<=m->(∀i,base<=i->i<base+y->ans (at_ l.toArray i) x=true)->(∀i,base+y<=i->i<base+m->Le ans x (at_ l.toArray i))->P (some y) st):Rn (model prog w) A I (ZcD true (kas_item it x) (ar it l) base m hint) st P:=ZlS k o hk nl (fun i j _ ij hj=>ZbH o sl ij (by omega)) hx hm hh q
theorem ZgE{l:List Nat}{i y x:Nat}(h:x∈(l.drop i).take y)(hy:i+y<=l.length):∃j,i<=j/\j<i+y/\x=at_ l.toArray j:=by
 obtain⟨j,hj,e⟩:=List.mem_take_iff_getElem.mp h;have hj2:j<y/\j<(l.drop i).length:=by simpa [Nat.lt_min] using hj
 rw[List.length_drop] at hj2
 refine⟨i+j,by omega,by omega, ?_⟩;rw[XC,<-e];simp[show i+j<l.length by omega]
theorem Zbh(l r:List Nat)(i y:Nat):ar it r++(ar it l).extract i (i+y)=ar it (r++(l.drop i).take y):=by
 rw[JD,Zaj,List.drop_take,Nat.add_sub_cancel_left]
theorem mlo(k:Zdb prog w A I κ it n ans)(o:Ord ans){arr:Array Keyed}{pend:Array (Nat×Nat×Nat)}{g:Nat}{la lb:List Nat}(na:∀x∈la,x<n)(nb:∀x∈lb,x<n)(sa:la.Pairwise (Le ans))(sb:lb.Pairwise (Le ans))(ha:0<la.length)(hb:0<lb.length)
  (hf:ans (at_ lb.toArray 0) (at_ la.toArray 0)=true)(hl:∀y∈lb,Le ans y (at_ la.toArray (la.length-1))){P:Array Keyed->SortSt->Prop}(q:∀R g,ZaD ans it la lb R->P R (stt κ arr pend g)):Rn (model prog w) A I (ZgB (ar it la) (ar it lb)) (stt κ arr pend g) P:=by
 have m0:Mg ans la lb [] 0 0:=⟨sa,sb,.refl _⟩
 have A0:∀i,i<la.length->at_ la.toArray i<n:=fun i hi=>na _ (List.mem_of_mem_drop (ZcE (k:=0) (Nat.zero_le _) hi));have B0:∀i,i<lb.length->at_ lb.toArray i<n:=fun i hi=>nb _ (List.mem_of_mem_drop (ZcE (k:=0) (Nat.zero_le _) hi));have m1:=m0.pushB hb (Mg.leB o sa ha (o.le hf));refine Zi (ZaN ?_);refine Zi (Yr (XF hb) ?_);have m1:Mg ans la lb [at_ lb.toArray 0] 0 1:=m1;have e1: #[kas_item it (at_ lb.toArray 0)]=ar it [at_ lb.toArray 0]:=by simp[ar]
 refine Yn (fun c=> ?_) (fun c=> ?_)
 ·have c1:1=lb.length:=ZcG c;refine Zo (q _ _ ?_);rw[e1];exact m1.end_ (.inl c1)
 have c1:1≠lb.length:=ZaO c;refine Yn (fun c=> ?_) (fun c=> ?_)
 ·have c2:0+1=la.length:=ZcG c;refine Zo (q _ _ ?_);rw[e1];exact m1.last c2 hl
 have c2:0+1≠la.length:=ZaO c;refine Zi (Je ?_);rw[e1];refine Zi (Yq (YK (P:=fun c s2=>(∃g,s2=stt κ arr pend g)/\∃R,c.1=some R/\ZaD ans it la lb R) (fun u c s2=>(∃g,s2=stt κ arr pend g)/\c.1=none/\Gd ans it la lb c.2.1 c.2.2.1 c.2.2.2.1 u) ⟨⟨_,rfl⟩,rfl,⟨_,rfl,m1⟩,by show 0+1<la.length;omega,by show 1<lb.length;omega,by show la.length-0+(lb.length-1)<=(ar it la).size+(ar it lb).size-0;rw[Yk,Yk];omega⟩ (Nat.zero_le _) ?_ ?_) ?_)
 ·rintro u y ⟨c1,out,ia,ib,mg⟩ s2 _ ⟨⟨g2,rfl⟩,e2,gd0⟩;have e2:c1=none:=e2;have gd:Gd ans it la lb out ia ib (u+1):=gd0;clear gd0;subst e2;refine Zi (Yq (YK (P:=fun c s2=>s2=stt κ arr pend g2/\((∃R,c.1=some R/\ZaD ans it la lb R)\/(c.1=none/\Gd ans it la lb c.2.1 c.2.2.1 c.2.2.2.1 u))) (fun v c s2=>s2=stt κ arr pend g2/\c.1=none/\Gd ans it la lb c.2.1 c.2.2.1 c.2.2.2.1 (u+1)/\la.length-c.2.2.1+(lb.length-c.2.2.2.1)+(la.length+lb.length)<=u+1+v) ⟨rfl,rfl,gd, ?_⟩ (Nat.zero_le _) ?_ ?_) ?_)
  ·show la.length-ia+(lb.length-ib)+(la.length+lb.length)<=u+1+((ar it la).size+(ar it lb).size-0);have:=gd.left;rw[Yk,Yk];omega
  ·rintro v y ⟨c1,out,ia,ib,ac,bc⟩ s2 _ ⟨rfl,e2,gd0,me0⟩;have e2:c1=none:=e2;have gd:Gd ans it la lb out ia ib (u+1):=gd0;clear gd0;have me:la.length-ia+(lb.length-ib)+(la.length+lb.length)<=u+1+(v+1):=me0;clear me0;subst e2;obtain⟨⟨r,rfl,mm⟩,ra,rb,lf⟩:=gd;refine Zi (Yr (XF rb) ?_);refine Zi (Yr (XF (show ia<la.length by omega)) ?_);refine Zi (ZgD k rfl (B0 ib rb) (A0 ia (by omega)) ?_);cases z:ans (at_ lb.toArray ib) (at_ la.toArray ia) with
   |true=>
    have m2:=mm.pushB rb (Mg.leB o sa (by omega) (o.le z));refine Zi (Yr (XF rb) ?_);refine Yn (fun c=> ?_) (fun c=> ?_)
    ·have c3:ib+1=lb.length:=ZcG c;refine Zo ⟨rfl,.inl ⟨_,rfl, ?_⟩⟩;rw[JQ];exact m2.end_ (.inl c3)
    have c3:ib+1≠lb.length:=ZaO c;refine Yn (fun c=> ?_) (fun c=> ?_)
    ·exact Zo ⟨rfl,.inr ⟨rfl,⟨_,JQ _ _,m2⟩,ra,by show ib+1<lb.length;omega,by show la.length-ia+(lb.length-(ib+1))<=u;omega⟩⟩
    ·exact Zo ⟨rfl,rfl,⟨⟨_,JQ _ _,m2⟩,ra,by show ib+1<lb.length;omega,by show la.length-ia+(lb.length-(ib+1))<=u+1;omega⟩,by show la.length-ia+(lb.length-(ib+1))+(la.length+lb.length)<=u+1+v;omega⟩
   |false=>
    have m2:=mm.pushA (by omega) (Mg.leB o sb rb z);refine Zi (Yr (XF (show ia<la.length by omega)) ?_);refine Yn (fun c=> ?_) (fun c=> ?_)
    ·have c3:ia+1+1=la.length:=ZcG c;refine Zo ⟨rfl,.inl ⟨_,rfl, ?_⟩⟩;rw[JQ];exact m2.last c3 hl
    have c3:ia+1+1≠la.length:=ZaO c;refine Yn (fun c=> ?_) (fun c=> ?_)
    ·exact Zo ⟨rfl,.inr ⟨rfl,⟨_,JQ _ _,m2⟩,by show ia+1+1<la.length;omega,rb,by show la.length-(ia+1)+(lb.length-ib)<=u;omega⟩⟩
    ·exact Zo ⟨rfl,rfl,⟨⟨_,JQ _ _,m2⟩,by show ia+1+1<la.length;omega,rb,by show la.length-(ia+1)+(lb.length-ib)<=u+1;omega⟩,by show la.length-(ia+1)+(lb.length-ib)+(la.length+lb.length)<=u+1+v;omega⟩
  ·rintro⟨c1,out,ia,ib,ac,bc⟩ s2 ⟨rfl,e2,gd0,me0⟩;have me:la.length-ia+(lb.length-ib)+(la.length+lb.length)<=u+1+0:=me0;clear me0;exact⟨rfl,.inr ⟨e2,gd0.row,gd0.roomA,gd0.roomB,by show la.length-ia+(lb.length-ib)<=u;omega⟩⟩
  ·rintro⟨c1,out,ia,ib,ac,bc⟩ s2 ⟨rfl,⟨R,e2,wh⟩|⟨e2,gd0⟩⟩
   ·have e2:c1=some R:=e2;subst e2;exact Zo ⟨⟨_,rfl⟩,R,rfl,wh⟩
   ·have e2:c1=none:=e2;have gd:Gd ans it la lb out ia ib u:=gd0;clear gd0;subst e2;refine Zi (ZaN ?_);refine Zi (Yq (YK (P:=fun c s2=>(∃g,s2=stt κ arr pend g)/\((∃R,c.1=some R/\ZaD ans it la lb R)\/(c.1=none/\Gd ans it la lb c.2.1 c.2.2.1 c.2.2.2.1 u))) (fun v c s2=>(∃g,s2=stt κ arr pend g)/\c.1=none/\Gd ans it la lb c.2.1 c.2.2.1 c.2.2.2.1 u) ⟨⟨_,rfl⟩,rfl,gd⟩ (Nat.zero_le _) ?_ ?_) ?_)
    ·rintro v y ⟨c1,out,ia,ib,mg,ac,bc⟩ s2 _ ⟨⟨g3,rfl⟩,e2,gd0⟩;have e2:c1=none:=e2;have gd:Gd ans it la lb out ia ib u:=gd0;clear gd0;subst e2;obtain⟨⟨r,rfl,mm⟩,ra,rb,lf⟩:=gd;refine Yn (fun c=> ?_) (fun c=> ?_)
     all_goals
      refine Zi (Zk3 ?_);refine Zi (Yr (XF rb) ?_);refine Zi (Znu k o rfl A0 sa (B0 ib rb) (show ia+((ar it la).size-ia)<=la.length by rw[Yk];omega) (show 0<(ar it la).size-ia by rw[Yk];omega) fun j hj f1 f2=> ?_)
      rw[Yk] at hj f2
      by_cases c3:j>0
      case' pos=>
       refine XQ c3 ?_;have m2:=mm.takeA (k:=j) fun x hx y hy=>by
        obtain⟨p,p1,p2,rfl⟩:=ZgE hx (by omega);exact Mg.leB o sb rb (f1 p p1 p2) y hy
       refine Yn (fun c4=> ?_) (fun c4=> ?_)
       ·have c4:ia+j+1=la.length:=ZcG c4;refine Zo ⟨⟨_,rfl⟩,.inl ⟨_,rfl, ?_⟩⟩
        try dsimp only
        rw[Zbh];exact m2.last c4 hl
       have c4:ia+j+1≠la.length:=ZaO c4;refine Yn (fun c5=> ?_) (fun c5=> ?_)
       ·have c5:ia+j=la.length:=ZcG c5;refine Zo ⟨⟨_,rfl⟩,.inl ⟨_,rfl, ?_⟩⟩
        try dsimp only
        rw[Zbh];exact m2.end_ (.inr c5)
       have c5:ia+j≠la.length:=ZaO c5
       try dsimp only
       rw[Zbh];have ra1:ia+j+1<la.length:=by omega
       have f3:∀i,ia+j<=i->i<la.length->ans (at_ lb.toArray ib) (at_ la.toArray i)=true:=fun i a b=>f2 i a (by omega);have lf1:la.length-(ia+j)+(lb.length-ib)<=u:=by omega
       generalize r++(la.drop ia).take j=r1 at m2⊢
       generalize ia+j=ia1 at m2 ra1 f3 lf1⊢
      case' neg=>
       refine Xx c3 ?_;have m2:=mm;have ra1:=ra;have f3:∀i,ia<=i->i<la.length->ans (at_ lb.toArray ib) (at_ la.toArray i)=true:=fun i a b=>f2 i (by omega) (by omega);have lf1:=lf
       try dsimp only
       generalize r=r1 at m2⊢
       generalize ia=ia1 at m2 ra1 f3 lf1⊢
      all_goals
       have m3:=m2.pushB rb fun y hy=>by
        obtain⟨p,p1,p2,rfl⟩:=ZbG hy;exact o.le (f3 p p1 p2)
       refine Zi (Yr (XF rb) ?_);rw[JQ];generalize r1++[at_ lb.toArray ib]=r2 at m3⊢
       refine Yn (fun c6=> ?_) (fun c6=> ?_)
       ·exact Zo ⟨⟨_,rfl⟩,.inl ⟨_,rfl,m3.end_ (.inl (ZcG c6))⟩⟩
       have c6:ib+1≠lb.length:=ZaO c6;refine Zi (Yr (XF (show ia1<la.length by omega)) ?_);refine Zi (Znv k o rfl B0 sb (A0 ia1 (by omega)) (show ib+1+((ar it lb).size-(ib+1))<=lb.length by rw[Yk];omega) (show 0<(ar it lb).size-(ib+1) by rw[Yk];omega) fun j2 hj2 f4 f5=> ?_)
       rw[Yk] at hj2 f5
       by_cases c7:j2>0
       case' pos=>
        refine XQ c7 ?_;have m4:=m3.takeB (k:=j2) fun x hx y hy=>by
         obtain⟨p,p1,p2,rfl⟩:=ZgE hx (by omega);exact Mg.leB o sa (by omega) (o.le (f4 p p1 p2)) y hy
        refine Yn (fun c8=> ?_) (fun c8=> ?_)
        ·have c8:ib+1+j2=lb.length:=ZcG c8;refine Zo ⟨⟨_,rfl⟩,.inl ⟨_,rfl, ?_⟩⟩
         try dsimp only
         rw[Zbh];exact m4.end_ (.inl c8)
        have c8:ib+1+j2≠lb.length:=ZaO c8
        try dsimp only
        rw[Zbh];have rb1:ib+1+j2<lb.length:=by omega
        have f6:∀i,ib+1+j2<=i->i<lb.length->Le ans (at_ la.toArray ia1) (at_ lb.toArray i):=fun i a b=>f5 i a (by omega);have lf2:la.length-ia1+(lb.length-(ib+1+j2))<=u:=by omega
        generalize r2++(lb.drop (ib+1)).take j2=r3 at m4⊢
        generalize ib+1+j2=ib1 at m4 rb1 f6 lf2⊢
       case' neg=>
        refine Xx c7 ?_;have m4:=m3;have rb1:ib+1<lb.length:=by omega
        have f6:∀i,ib+1<=i->i<lb.length->Le ans (at_ la.toArray ia1) (at_ lb.toArray i):=fun i a b=>f5 i (by omega) (by omega);have lf2:la.length-ia1+(lb.length-(ib+1))<=u:=by omega
        try dsimp only
        generalize r2=r3 at m4⊢
        generalize ib+1=ib1 at m4 rb1 f6 lf2⊢
       all_goals
        have m5:=m4.pushA (show ia1<la.length by omega) fun y hy=>by
         obtain⟨p,p1,p2,rfl⟩:=ZbG hy;exact f6 p p1 p2
        refine Zi (Yr (XF (show ia1<la.length by omega)) ?_);rw[JQ];refine Yn (fun c9=> ?_) (fun c9=> ?_)
        ·exact Zo ⟨⟨_,rfl⟩,.inl ⟨_,rfl,m5.last (ZcG c9) hl⟩⟩
        have c9:ia1+1+1≠la.length:=ZaO c9;have gd2:Gd ans it la lb _ (ia1+1) ib1 u:=⟨⟨_,rfl,m5⟩,by omega,rb1,by omega⟩
        refine Yn (fun c10=> ?_) (fun c10=> ?_)
        ·exact Zo ⟨⟨_,rfl⟩,.inr ⟨rfl,gd2⟩⟩
        ·exact Zo ⟨⟨_,rfl⟩,rfl,gd2⟩
    ·exact fun c s2 ⟨e1,e2,gd⟩=>⟨e1,.inr ⟨e2,gd⟩⟩
    ·rintro⟨c1,out,ia,ib,mg,ac,bc⟩ s2 ⟨⟨g3,rfl⟩,⟨R,e2,wh⟩|⟨e2,gd0⟩⟩
     ·have e2:c1=some R:=e2;subst e2;exact Zo ⟨⟨_,rfl⟩,R,rfl,wh⟩
     ·have e2:c1=none:=e2;subst e2;exact Zi (Za4 (Zo ⟨⟨_,rfl⟩,rfl,gd0⟩))
 ·rintro c s2 ⟨_,_,gd⟩;have:=gd.left;have:=gd.roomA;have:=gd.roomB;omega
 ·rintro⟨c1,out,ia,ib,mg⟩ s2 ⟨⟨g3,rfl⟩,R,e2,wh⟩;have e2:c1=some R:=e2;subst e2;exact Zo (q _ _ wh)
structure Mh (ans:Nat->Nat->Bool) (la lb r:List Nat) (na nb:Nat):Prop where
 pa:(la.take na++r).Pairwise (Le ans)
 pb:(lb.take nb++r).Pairwise (Le ans)
 pm:(la.take na++(lb.take nb++r)).Perm (la++lb)
theorem ZcH{l:List Nat}{i m:Nat}(h:i<=m):l.take i++(l.take m).drop i=l.take m:=by
 have:=List.take_append_drop i (l.take m)
 rwa [List.take_take,Nat.min_eq_left h] at this
section
variable {la lb r:List Nat} {na nb:Nat}
theorem Mh.takeA{i:Nat}(h:Mh ans la lb r na nb)(hi:i<=na)(c:∀x∈(la.take na).drop i,∀y∈lb.take nb,Le ans y x):Mh ans la lb ((la.take na).drop i++r) i nb:=by
 have e:=ZcH (l:=la) hi;obtain⟨a1,a2,a3⟩:=List.pairwise_append.mp h.pa;obtain⟨b1,b2,b3⟩:=List.pairwise_append.mp h.pb;refine⟨?_, ?_, ?_⟩
 ·rw[<-List.append_assoc,e];exact h.pa
 ·refine List.pairwise_append.mpr ⟨b1,List.pairwise_append.mpr ⟨a1.sublist (List.drop_sublist _ _),a2,fun x hx y hy=>a3 x (List.mem_of_mem_drop hx) y hy⟩,fun y hy x hx=> ?_⟩;rcases List.mem_append.mp hx with hx|hx
  ·exact c x hx y hy
  ·exact b3 y hy x hx
 ·refine List.Perm.trans ?_ h.pm
  conv=>rhs;rw[<-e,List.append_assoc]
  refine List.Perm.append_left _ ?_;rw[<-List.append_assoc,<-List.append_assoc];exact List.Perm.append_right _ (List.perm_append_comm)
theorem Mh.takeB{i:Nat}(h:Mh ans la lb r na nb)(hi:i<=nb)(c:∀x∈(lb.take nb).drop i,∀y∈la.take na,Le ans y x):Mh ans la lb ((lb.take nb).drop i++r) na i:=by
 have e:=ZcH (l:=lb) hi;obtain⟨a1,a2,a3⟩:=List.pairwise_append.mp h.pa;obtain⟨b1,b2,b3⟩:=List.pairwise_append.mp h.pb;refine⟨?_, ?_, ?_⟩
 ·refine List.pairwise_append.mpr ⟨a1,List.pairwise_append.mpr ⟨b1.sublist (List.drop_sublist _ _),b2,fun x hx y hy=>b3 x (List.mem_of_mem_drop hx) y hy⟩,fun y hy x hx=> ?_⟩;rcases List.mem_append.mp hx with hx|hx
  ·exact c x hx y hy
  ·exact a3 y hy x hx
 ·rw[<-List.append_assoc,e];exact h.pb
 ·have z:=h.pm;rw[<-e] at z
  rwa [List.append_assoc] at z
theorem ZdX{x:List Nat}{m y:Nat}(h:y∈x.take m)(hm:m<=x.length):∃i,i<m/\y=at_ x.toArray i:=by
 obtain⟨i,hi,e⟩:=List.mem_take_iff_getElem.mp h;have hi2:i<m/\i<x.length:=by simpa [Nat.lt_min] using hi
 exact⟨i,hi2.1,by rw[XC,<-e];simp[hi2.2]⟩
theorem Zc1{x:List Nat}{m j y:Nat}(h:y∈(x.take m).drop j)(hm:m<=x.length):∃i,j<=i/\i<m/\y=at_ x.toArray i:=by
 obtain⟨i,hi,e⟩:=List.mem_drop_iff_getElem.mp h;rw[List.length_take,Nat.min_eq_left hm] at hi
 refine⟨j+i,by omega,by omega, ?_⟩;rw[XC,<-e];simp[show j+i<x.length by omega]
theorem ZcI{x:List Nat}{m:Nat}(hm:m<x.length):(x.take (m+1)).drop m=[at_ x.toArray m]:=by
 rw[List.drop_take,Nat.add_sub_cancel_left,ZcF hm]
 rfl
theorem Mh.pushA{m:Nat}(h:Mh ans la lb r (m+1) nb)(hm:m<la.length)(c:∀y∈lb.take nb,Le ans y (at_ la.toArray m)):Mh ans la lb (at_ la.toArray m::r) m nb:=by
 have z:=h.takeA (i:=m) (by omega) (by rw[ZcI hm];intro x hx;rw[List.mem_singleton.mp hx];exact c)
 rwa [ZcI hm] at z
theorem Mh.pushB{m:Nat}(h:Mh ans la lb r na (m+1))(hm:m<lb.length)(c:∀y∈la.take na,Le ans y (at_ lb.toArray m)):Mh ans la lb (at_ lb.toArray m::r) na m:=by
 have z:=h.takeB (i:=m) (by omega) (by rw[ZcI hm];intro x hx;rw[List.mem_singleton.mp hx];exact c)
 rwa [ZcI hm] at z
theorem Mh.end_(h:Mh ans la lb r na nb)(e:na=0\/nb=0):ZaD ans it la lb ((ar it la).extract 0 na++(ar it lb).extract 0 nb++(ar it r.reverse).reverse):=by
 refine⟨la.take na++(lb.take nb++r), ?_, ?_,h.pm⟩
 ·rw[ZhC,List.reverse_reverse,JD,JD,Zaj,Zaj,List.drop_zero,List.drop_zero,List.append_assoc]
 ·rcases e with e|e
  ·rw[e,List.take_zero,List.nil_append];exact h.pb
  ·rw[e,List.take_zero,List.nil_append];exact h.pa
theorem Mh.first(h:Mh ans la lb r na nb)(e:nb=1)(hb:0<lb.length)(c:∀y∈la,Le ans (at_ lb.toArray 0) y):ZaD ans it la lb ((ar it lb).extract 0 nb++(ar it la).extract 0 na++(ar it r.reverse).reverse):=by
 have ed:lb.take nb=[at_ lb.toArray 0]:=by
  have:=ZcI hb
  rwa [List.drop_zero,Nat.zero_add,<-e] at this
 refine⟨lb.take nb++(la.take na++r), ?_, ?_, ?_⟩
 ·rw[ZhC,List.reverse_reverse,JD,JD,Zaj,Zaj,List.drop_zero,List.drop_zero,List.append_assoc]
 ·rw[ed];refine List.pairwise_append.mpr ⟨List.pairwise_singleton _ _,h.pa,fun x hx y hy=> ?_⟩;rw[List.mem_singleton.mp hx];rcases List.mem_append.mp hy with hy|hy
  ·exact c y (List.mem_of_mem_take hy)
  ·exact(List.pairwise_append.mp h.pb).2.2 _ (by rw[ed];exact List.mem_singleton.mpr rfl) y hy
 ·refine List.Perm.trans ?_ h.pm;rw[<-List.append_assoc,<-List.append_assoc];exact List.Perm.append_right _ List.perm_append_comm
theorem Mh.leB(o:Ord ans){l:List Nat}{m:Nat}(sl:l.Pairwise (Le ans)){x:Nat}(hm:m+1<=l.length)(c:Le ans (at_ l.toArray m) x):∀y∈l.take (m+1),Le ans y x:=fun y hy=>by
 obtain⟨i,a,rfl⟩:=ZdX hy hm;exact Le.trans o (ZbH o sl (by omega) (by omega)) c
theorem Jq(x:Nat)(r:List Nat):(ar it r.reverse).push (kas_item it x)=ar it (x::r).reverse:=by rw[JQ,List.reverse_cons]
theorem ZcJ(l r:List Nat)(i m:Nat):ar it r.reverse++((ar it l).extract i m).reverse=ar it ((l.take m).drop i++r).reverse:=by rw[JD,ZhC,Zaj,List.reverse_append]
end
structure Gh (ans:Nat->Nat->Bool) (it:Array Keyed) (la lb:List Nat) (out:Array Keyed) (na nb u:Nat):Prop where
 row:∃r,out=ar it r.reverse/\Mh ans la lb r na nb
 roomA:0<na/\na<=la.length
 roomB:1<nb/\nb<=lb.length
 left:na+nb<=u
theorem mhi(k:Zdb prog w A I κ it n ans)(o:Ord ans){arr:Array Keyed}{pend:Array (Nat×Nat×Nat)}{g:Nat}{la lb:List Nat}(na:∀x∈la,x<n)(nb:∀x∈lb,x<n)(sa:la.Pairwise (Le ans))(sb:lb.Pairwise (Le ans))(ha:0<la.length)(hb:0<lb.length)
  (hf:ans (at_ lb.toArray 0) (at_ la.toArray 0)=true)(hl:∀y∈lb,Le ans y (at_ la.toArray (la.length-1))){P:Array Keyed->SortSt->Prop}(q:∀R g,ZaD ans it la lb R->P R (stt κ arr pend g)):Rn (model prog w) A I (ZgC (ar it la) (ar it lb)) (stt κ arr pend g) P:=by
 have A0:∀i,i<la.length->at_ la.toArray i<n:=fun i hi=>na _ (List.mem_of_mem_drop (ZcE (k:=0) (Nat.zero_le _) hi));have B0:∀i,i<lb.length->at_ lb.toArray i<n:=fun i hi=>nb _ (List.mem_of_mem_drop (ZcE (k:=0) (Nat.zero_le _) hi));have low:∀y∈la,Le ans (at_ lb.toArray 0) y:=fun y hy=>by
  obtain⟨i,_,b,rfl⟩:=ZbG (k:=0) hy;exact Le.trans o (o.le hf) (ZbH o sa (Nat.zero_le _) b)
 obtain⟨z,ez⟩:∃z,la.length=z+1:=⟨la.length-1,by omega⟩
 have m0:Mh ans la lb [] (z+1) lb.length:=⟨by rw[<-ez,List.take_length,List.append_nil];exact sa,by rw[List.take_length,List.append_nil];exact sb,by rw[<-ez,List.take_length,List.take_length,List.append_nil]⟩
 have m1:=m0.pushA (by omega) (by rw[List.take_length,show z=la.length-1 by omega];exact hl)
 refine Zi (ZaN ?_);refine Zi (Yr (i:=(ar it la).size-1) (by rw[Yk,ez,Nat.add_sub_cancel];exact XF (by omega)) ?_)
 have e1: #[kas_item it (at_ la.toArray z)]=ar it [at_ la.toArray z].reverse:=by simp[ar]
 have es:(ar it la).size-1=z:=by rw[Yk];omega
 rw[e1,es];refine Yn (fun c=> ?_) (fun c=> ?_)
 ·have c1:z=0:=eq_of_beq c;refine Zo (q _ _ ?_);rw[Yk];exact m1.end_ (.inl c1)
 have c1:z≠0:=fun y=>c (by rw[y];rfl)
 refine Yn (fun c=> ?_) (fun c=> ?_)
 ·have c2:(ar it lb).size=1:=eq_of_beq c;refine Zo (q _ _ ?_);rw[Yk] at c2⊢
  exact m1.first c2 hb low
 have c2:(ar it lb).size≠1:=fun y=>c (by rw[y];rfl)
 rw[Yk] at c2
 refine Zi (Je ?_);refine Zi (Yq (YK (P:=fun c s2=>(∃g,s2=stt κ arr pend g)/\∃R,c.1=some R/\ZaD ans it la lb R) (fun u c s2=>(∃g,s2=stt κ arr pend g)/\c.1=none/\Gh ans it la lb c.2.2.2.1 c.2.1 c.2.2.1 u) ⟨⟨_,rfl⟩,rfl,⟨_,rfl,by show Mh ans la lb _ z (ar it lb).size;rw[Yk];exact m1⟩,by show 0<z/\z<=la.length;omega,by show 1<(ar it lb).size/\(ar it lb).size<=lb.length;rw[Yk];omega,by show z+(ar it lb).size<=(ar it la).size+(ar it lb).size-0;rw[Yk,Yk];omega⟩ (Nat.zero_le _) ?_ ?_) ?_)
 ·rintro u y ⟨c1,na,nb,out,mg⟩ s2 _ ⟨⟨g2,rfl⟩,e2,gd0⟩;have e2:c1=none:=e2;have gd:Gh ans it la lb out na nb (u+1):=gd0;clear gd0;subst e2;refine Zi (Yq (YK (P:=fun c s2=>s2=stt κ arr pend g2/\((∃R,c.1=some R/\ZaD ans it la lb R)\/(c.1=none/\Gh ans it la lb c.2.2.2.1 c.2.1 c.2.2.1 u))) (fun v c s2=>s2=stt κ arr pend g2/\c.1=none/\Gh ans it la lb c.2.2.2.1 c.2.1 c.2.2.1 (u+1)/\c.2.1+c.2.2.1+(la.length+lb.length)<=u+1+v) ⟨rfl,rfl,gd, ?_⟩ (Nat.zero_le _) ?_ ?_) ?_)
  ·show na+nb+(la.length+lb.length)<=u+1+((ar it la).size+(ar it lb).size-0);have:=gd.left;rw[Yk,Yk];omega
  ·rintro v y ⟨c1,na,nb,out,ac,bc⟩ s2 _ ⟨rfl,e2,gd0,me0⟩;have e2:c1=none:=e2;have gd:Gh ans it la lb out na nb (u+1):=gd0;clear gd0;have me:na+nb+(la.length+lb.length)<=u+1+(v+1):=me0;clear me0;subst e2;obtain⟨⟨r,rfl,mm⟩,ra,rb,lf⟩:=gd;obtain⟨na,rfl⟩:∃x,na=x+1:=⟨na-1,by omega⟩
   obtain⟨nb,rfl⟩:∃x,nb=x+1:=⟨nb-1,by omega⟩
   refine Zi (Yr (XF (i:=nb) (by omega)) ?_);refine Zi (Yr (XF (i:=na) (by omega)) ?_);refine Zi (ZgD k rfl (B0 nb (by omega)) (A0 na (by omega)) ?_);cases z:ans (at_ lb.toArray nb) (at_ la.toArray na) with
   |true=>
    have m2:=mm.pushA (by omega) (Mh.leB o sb (by omega) (o.le z));refine Zi (Yr (XF (i:=na) (by omega)) ?_);refine Yn (fun c=> ?_) (fun c=> ?_)
    ·have c3:na=0:=eq_of_beq c;refine Zo ⟨rfl,.inl ⟨_,rfl, ?_⟩⟩;rw[Jq];exact m2.end_ (.inl c3)
    have c3:na≠0:=fun e=>c (by show(na==0)=true;rw[e];rfl)
    refine Yn (fun c=> ?_) (fun c=> ?_)
    ·exact Zo ⟨rfl,.inr ⟨rfl,⟨_,Jq _ _,m2⟩,by show 0<na/\na<=la.length;omega,rb,by show na+(nb+1)<=u;omega⟩⟩
    ·exact Zo ⟨rfl,rfl,⟨⟨_,Jq _ _,m2⟩,by show 0<na/\na<=la.length;omega,rb,by show na+(nb+1)<=u+1;omega⟩,by show na+(nb+1)+(la.length+lb.length)<=u+1+v;omega⟩
   |false=>
    have m2:=mm.pushB (by omega) (Mh.leB o sa (by omega) z);refine Zi (Yr (XF (i:=nb) (by omega)) ?_);refine Yn (fun c=> ?_) (fun c=> ?_)
    ·have c3:nb=1:=eq_of_beq c;refine Zo ⟨rfl,.inl ⟨_,rfl, ?_⟩⟩;rw[Jq];exact m2.first c3 hb low
    have c3:nb≠1:=fun e=>c (by show(nb==1)=true;rw[e];rfl)
    refine Yn (fun c=> ?_) (fun c=> ?_)
    ·exact Zo ⟨rfl,.inr ⟨rfl,⟨_,Jq _ _,m2⟩,ra,by show 1<nb/\nb<=lb.length;omega,by show na+1+nb<=u;omega⟩⟩
    ·exact Zo ⟨rfl,rfl,⟨⟨_,Jq _ _,m2⟩,ra,by show 1<nb/\nb<=lb.length;omega,by show na+1+nb<=u+1;omega⟩,by show na+1+nb+(la.length+lb.length)<=u+1+v;omega⟩
  ·rintro⟨c1,na,nb,out,ac,bc⟩ s2 ⟨rfl,e2,gd0,me0⟩;have me:na+nb+(la.length+lb.length)<=u+1+0:=me0;exact⟨rfl,.inr ⟨e2,gd0.row,gd0.roomA,gd0.roomB,by show na+nb<=u;omega⟩⟩
  ·rintro⟨c1,na,nb,out,ac,bc⟩ s2 ⟨rfl,⟨R,e2,wh⟩|⟨e2,gd0⟩⟩
   ·have e2:c1=some R:=e2;subst e2;exact Zo ⟨⟨_,rfl⟩,R,rfl,wh⟩
   ·have e2:c1=none:=e2;have gd:Gh ans it la lb out na nb u:=gd0;clear gd0;subst e2;refine Zi (ZaN ?_);refine Zi (Yq (YK (P:=fun c s2=>(∃g,s2=stt κ arr pend g)/\((∃R,c.1=some R/\ZaD ans it la lb R)\/(c.1=none/\Gh ans it la lb c.2.2.2.1 c.2.1 c.2.2.1 u))) (fun v c s2=>(∃g,s2=stt κ arr pend g)/\c.1=none/\Gh ans it la lb c.2.2.2.1 c.2.1 c.2.2.1 u) ⟨⟨_,rfl⟩,rfl,gd⟩ (Nat.zero_le _) ?_ ?_) ?_)
    ·rintro v y ⟨c1,na,nb,out,mg,ac,bc⟩ s2 _ ⟨⟨g3,rfl⟩,e2,gd0⟩;have e2:c1=none:=e2;have gd:Gh ans it la lb out na nb u:=gd0;clear gd0;subst e2;obtain⟨⟨r,rfl,mm⟩,ra,rb,lf⟩:=gd;obtain⟨nb,rfl⟩:∃x,nb=x+1:=⟨nb-1,by omega⟩
     refine Yn (fun c=> ?_) (fun c=> ?_)
     all_goals
      refine Zi (Zk3 ?_);refine Zi (Yr (XF (i:=nb) (by omega)) ?_);refine Zi (Znu k o rfl A0 sa (B0 nb (by omega)) (show 0+na<=la.length by omega) (show na-1<na by omega) fun j hj f1 f2=> ?_)
      by_cases c3:na-j>0
      case' pos=>
       refine XQ c3 ?_;have m2:=mm.takeA (i:=j) (by omega) fun x hx y hy=>by
        obtain⟨p,p1,p2,rfl⟩:=Zc1 hx (by omega);exact Mh.leB o sb (by omega) (o.le (f2 p (by omega) (by omega))) y hy
       refine Yn (fun c4=> ?_) (fun c4=> ?_)
       ·have c4:j=0:=eq_of_beq c4;refine Zo ⟨⟨_,rfl⟩,.inl ⟨_,rfl, ?_⟩⟩
        try dsimp only
        rw[ZcJ];exact m2.end_ (.inl c4)
       have c4:j≠0:=fun e=>c4 (by show(j==0)=true;rw[e];rfl)
       try dsimp only
       rw[ZcJ];have ra1:0<j/\j<=la.length:=by omega
       have f3:∀i,i<j->Le ans (at_ la.toArray i) (at_ lb.toArray nb):=fun i a=>f1 i (by omega) (by omega);have lf1:j+(nb+1)<=u:=by omega
       generalize (la.take na).drop j++r=r1 at m2⊢
       generalize ej:na-j=d;generalize j=na1 at m2 ra1 f3 lf1⊢
      case' neg=>
       refine Xx c3 ?_;have m2:=mm;have ra1:=ra;have f3:∀i,i<na->Le ans (at_ la.toArray i) (at_ lb.toArray nb):=fun i a=>f1 i (by omega) (by omega);have lf1:=lf
       try dsimp only
       generalize r=r1 at m2⊢
       generalize ej:na-j=d;generalize na=na1 at m2 ra1 f3 lf1⊢
      all_goals
       rw[Nat.add_sub_cancel];have m3:=m2.pushB (by omega) fun y hy=>by
        obtain⟨p,p1,rfl⟩:=ZdX hy (by omega);exact f3 p p1
       refine Zi (Yr (XF (i:=nb) (by omega)) ?_);rw[Jq];generalize at_ lb.toArray nb::r1=r2 at m3⊢
       refine Yn (fun c6=> ?_) (fun c6=> ?_)
       ·exact Zo ⟨⟨_,rfl⟩,.inl ⟨_,rfl,m3.first (eq_of_beq c6) hb low⟩⟩
       have c6:nb≠1:=fun e=>c6 (by show(nb==1)=true;rw[e];rfl)
       obtain⟨na2,rfl⟩:∃x,na1=x+1:=⟨na1-1,by omega⟩
       rw[Nat.add_sub_cancel];refine Zi (Yr (XF (i:=na2) (by omega)) ?_);refine Zi (Znv k o rfl B0 sb (A0 na2 (by omega)) (show 0+nb<=lb.length by omega) (show nb-1<nb by omega) fun j2 hj2 f4 f5=> ?_)
       by_cases c7:nb-j2>0
       case' pos=>
        refine XQ c7 ?_;have m4:=m3.takeB (i:=j2) (by omega) fun x hx y hy=>by
         obtain⟨p,p1,p2,rfl⟩:=Zc1 hx (by omega);exact Mh.leB o sa (by omega) (f5 p (by omega) (by omega)) y hy
        refine Yn (fun c8=> ?_) (fun c8=> ?_)
        ·have c8:j2=1:=eq_of_beq c8;refine Zo ⟨⟨_,rfl⟩,.inl ⟨_,rfl, ?_⟩⟩
         try dsimp only
         rw[ZcJ];exact m4.first c8 hb low
        have c8:j2≠1:=fun e=>c8 (by show(j2==1)=true;rw[e];rfl)
        refine Yn (fun c9=> ?_) (fun c9=> ?_)
        ·have c9:j2=0:=eq_of_beq c9;refine Zo ⟨⟨_,rfl⟩,.inl ⟨_,rfl, ?_⟩⟩
         try dsimp only
         rw[ZcJ];exact m4.end_ (.inr c9)
        have c9:j2≠0:=fun e=>c9 (by show(j2==0)=true;rw[e];rfl)
        try dsimp only
        rw[ZcJ];have rb1:1<j2/\j2<=lb.length:=by omega
        have f6:∀i,i<j2->Le ans (at_ lb.toArray i) (at_ la.toArray na2):=fun i a=>o.le (f4 i (by omega) (by omega));have lf2:na2+j2<=u:=by omega
        generalize (lb.take nb).drop j2++r2=r3 at m4⊢
        generalize ej2:nb-j2=d2;generalize j2=nb1 at m4 rb1 f6 lf2⊢
       case' neg=>
        refine Xx c7 ?_;have m4:=m3;have rb1:1<nb/\nb<=lb.length:=by omega
        have f6:∀i,i<nb->Le ans (at_ lb.toArray i) (at_ la.toArray na2):=fun i a=>o.le (f4 i (by omega) (by omega));have lf2:na2+nb<=u:=by omega
        try dsimp only
        generalize r2=r3 at m4⊢
        generalize ej2:nb-j2=d2;generalize nb=nb1 at m4 rb1 f6 lf2⊢
       all_goals
        have m5:=m4.pushA (by omega) fun y hy=>by
         obtain⟨p,p1,rfl⟩:=ZdX hy (by omega);exact f6 p p1
        refine Zi (Yr (XF (i:=na2) (by omega)) ?_);rw[Jq];refine Yn (fun c10=> ?_) (fun c10=> ?_)
        ·exact Zo ⟨⟨_,rfl⟩,.inl ⟨_,rfl,m5.end_ (.inl (eq_of_beq c10))⟩⟩
        have c10:na2≠0:=fun e=>c10 (by show(na2==0)=true;rw[e];rfl)
        have gd2:Gh ans it la lb _ na2 nb1 u:=⟨⟨_,rfl,m5⟩,by omega,rb1,lf2⟩
        refine Yn (fun c11=> ?_) (fun c11=> ?_)
        ·exact Zo ⟨⟨_,rfl⟩,.inr ⟨rfl,gd2⟩⟩
        ·exact Zo ⟨⟨_,rfl⟩,rfl,gd2⟩
    ·exact fun c s2 ⟨e1,e2,gd⟩=>⟨e1,.inr ⟨e2,gd⟩⟩
    ·rintro⟨c1,na,nb,out,mg,ac,bc⟩ s2 ⟨⟨g3,rfl⟩,⟨R,e2,wh⟩|⟨e2,gd0⟩⟩
     ·have e2:c1=some R:=e2;subst e2;exact Zo ⟨⟨_,rfl⟩,R,rfl,wh⟩
     ·have e2:c1=none:=e2;subst e2;exact Zi (Za4 (Zo ⟨⟨_,rfl⟩,rfl,gd0⟩))
 ·rintro c s2 ⟨_,_,gd⟩;have:=gd.left;have:=gd.roomA;have:=gd.roomB;omega
 ·rintro⟨c1,na,nb,out,mg⟩ s2 ⟨⟨g3,rfl⟩,R,e2,wh⟩;have e2:c1=some R:=e2;subst e2;exact Zo (q _ _ wh)
end
end L3
set_option maxHeartbeats 5000000
namespace L3
open PySem PySem.W PyProof.Rows
section
variable {ans:Nat->Nat->Bool} {p:Array Nat} {n lo hi:Nat}
def Yb(ans:Nat->Nat->Bool)(p:Array Nat)(lo hi:Nat):Prop:=∀i j,lo<=i->i<=j->j<hi->Le ans (at_ p i) (at_ p j)
def Xk(ans:Nat->Nat->Bool)(p:Array Nat)(lo hi:Nat):Prop:=∀i j,lo<=i->i<=j->j<hi->Le ans (at_ p j) (at_ p i)
theorem Le.refl(o:Ord ans)(x:Nat):Le ans x x:=o.irr x
theorem Yb.one(o:Ord ans):Yb ans p lo (lo+1):=fun i j a b c=>by rw[show i=j by omega];exact Le.refl o _
theorem Xk.one(o:Ord ans):Xk ans p lo (lo+1):=fun i j a b c=>by rw[show i=j by omega];exact Le.refl o _
theorem Yb.more(o:Ord ans)(h:Yb ans p lo hi)(l:lo<hi)(c:Le ans (at_ p (hi-1)) (at_ p hi)):Yb ans p lo (hi+1):=fun i j a b d=>by
 by_cases e:j<hi
 ·exact h i j a b e
 ·obtain rfl:j=hi:=by omega
  by_cases e2:i=j
  ·rw[e2];exact Le.refl o _
  ·exact Le.trans o (h i (j-1) a (by omega) (by omega)) c
theorem Xk.more(o:Ord ans)(h:Xk ans p lo hi)(l:lo<hi)(c:Le ans (at_ p hi) (at_ p (hi-1))):Xk ans p lo (hi+1):=fun i j a b d=>by
 by_cases e:j<hi
 ·exact h i j a b e
 ·obtain rfl:j=hi:=by omega
  by_cases e2:i=j
  ·rw[e2];exact Le.refl o _
  ·exact Le.trans o c (h i (j-1) a (by omega) (by omega))
theorem Xk.turn(h:Xk ans p lo hi)(hz:hi<=p.size):Yb ans (kas_rev p lo hi) lo hi:=fun i j a b c=>by
 rw[ZfJ hz,ZfJ hz,if_pos ⟨a,by omega⟩,if_pos ⟨by omega,c⟩];exact h _ _ (by omega) (by omega) (by omega)
theorem ZdY(o:Ord ans){i j:Nat}(hj:j<=p.size)(c:∀x y,i<=x->x<j->i<=y->y<j->Le ans (at_ p x) (at_ p y))(x:Nat):Le ans (at_ p x) (at_ (kas_rev p i j) x)/\Le ans (at_ (kas_rev p i j) x) (at_ p x):=by
 rw[ZfJ hj]
 split
 ·rename_i e
  exact⟨c _ _ (by omega) (by omega) (by omega) (by omega),c _ _ (by omega) (by omega) (by omega) (by omega)⟩
 ·exact⟨Le.refl o _,Le.refl o _⟩
theorem Xk.same(o:Ord ans)(h:Xk ans p lo hi){i j:Nat}(hj:j<=p.size)(c:∀x y,i<=x->x<j->i<=y->y<j->Le ans (at_ p x) (at_ p y)):Xk ans (kas_rev p i j) lo hi:=fun x y a b d=>Le.trans o (ZdY o hj c y).2 (Le.trans o (h x y a b d) (ZdY o hj c x).1)
theorem JW{i j k:Nat}(hj:j<=p.size)(h:k<i\/j<=k):at_ (kas_rev p i j) k=at_ p k:=by rw[ZfJ hj,if_neg (by omega)]
end
section
variable {prog:Program} {w:World} {A:Around} {I:Shared->Prop} {κ:SortKind} {it:Array Keyed} {n:Nat} {ans:Nat->Nat->Bool} {pend:Array (Nat×Nat×Nat)} {g:Nat}
def stp(κ:SortKind)(it:Array Keyed)(pend:Array (Nat×Nat×Nat))(g:Nat)(p:Array Nat):SortSt:=stt κ (p.map (kas_item it)) pend g
theorem ZbI(k:Zdb prog w A I κ it n ans){p:Array Nat}(hp:Pl n p){i j:Nat}(hi:i<n)(hj:j<n){P:Option Bool->SortSt->Prop}(h:P (some (ans (at_ p i) (at_ p j))) (stp κ it pend g p)):Rn (model prog w) A I (ltAt' i j) (stp κ it pend g p) P:=by
 rw[ltAt'_eq];exact Zi (Je (Zi (Yr (ZfK (by rw[hp.size];exact hi)) (Zi (Yr (ZfK (by rw[hp.size];exact hj)) (ZgD k rfl (hp.lt hi) (hp.lt hj) h))))))
theorem ZfL{p:Array Nat}{i j:Nat}{P:Unit->SortSt->Prop}(h:P () (stp κ it pend g (kas_rev p i j))):Rn (model prog w) A I (reverseSlice' i j) (stp κ it pend g p) P:=by
 rw[reverseSlice'_eq];refine Za4 ?_;have e:mirror (p.map (kas_item it)) i j ((j-i)/2)=(kas_rev p i j).map (kas_item it):=kas_swaps_map (kas_item it) (fun k=>i+k) (fun k=>j-1-k) _ p;show P () (stt κ (mirror (p.map (kas_item it)) i j ((j-i)/2)) pend g);rw[e];exact h
theorem Zll{p:Array Nat}{i j:Nat}{P:Unit->SortSt->Prop}(h:P () (stp κ it pend g (bubble p i (i-j)))):Rn (model prog w) A I (moveDown' i j) (stp κ it pend g p) P:=by
 rw[moveDown'_eq];refine Za4 ?_;have e:bubble (p.map (kas_item it)) i (i-j)=(bubble p i (i-j)).map (kas_item it):=kas_swaps_map (kas_item it) (fun k=>i-k) (fun k=>i-k-1) _ p;show P () (stt κ (bubble (p.map (kas_item it)) i (i-j)) pend g);rw[e];exact h
def Run(κ:SortKind)(it:Array Keyed)(pend:Array (Nat×Nat×Nat))(g n:Nat)(ans:Nat->Nat->Bool)(p:Array Nat)(lo nrem:Nat)(r:Option Nat)(st:SortSt):Prop:=∃m p',r=some m/\st=stp κ it pend g p'/\Pl n p'/\1<=m/\m<=nrem/\(∀k,k<lo->at_ p' k=at_ p k)/\Yb ans p' lo (lo+m)
def Fb(κ:SortKind)(it:Array Keyed)(pend:Array (Nat×Nat×Nat))(g n:Nat)(ans:Nat->Nat->Bool)(p:Array Nat)(lo nrem m neq:Nat)(st:SortSt):Prop:=∃p',st=stp κ it pend g p'/\Pl n p'/\(∀k,k<lo->at_ p' k=at_ p k)/\neq+1<=m/\m<=nrem/\Xk ans p' lo (lo+m)/\∀x y,lo+m-(neq+1)<=x->x<lo+m->lo+m-(neq+1)<=y->y<lo+m->Le ans (at_ p' x) (at_ p' y)
theorem Zfd(k:Zdb prog w A I κ it n ans)(o:Ord ans){p:Array Nat}(hp:Pl n p){lo nrem:Nat}(h1:1<=nrem)(hn:lo+nrem=n):Rn (model prog w) A I (countRun' lo nrem) (stp κ it pend g p) (Run κ it pend g n ans p lo nrem):=by
 refine Zi (Yq (YK (P:=fun c s2=>s2=stp κ it pend g p/\c.1=none/\1<=c.2/\c.2<=nrem/\Yb ans p lo (lo+c.2)/\(c.2<nrem->ans (at_ p (lo+c.2)) (at_ p (lo+c.2-1))=true)) (fun u c s2=>s2=stp κ it pend g p/\c.1=none/\1<=c.2/\c.2+u=nrem/\Yb ans p lo (lo+c.2)) ⟨rfl,rfl,Nat.le_refl 1,by show 1+(nrem-1)=nrem;omega,Yb.one o⟩ h1 ?_ ?_) ?_)
 ·rintro u y ⟨c1,m⟩ s2 _ ⟨rfl,e2,e3,e4,e5⟩;have e2:c1=none:=e2;subst e2
  dsimp only at e3 e4 e5
  refine Zi (ZbI k hp (show lo+m<n by omega) (show lo+m-1<n by omega) ?_);cases z:ans (at_ p (lo+m)) (at_ p (lo+m-1)) with
  |true=>exact Zo ⟨rfl,rfl,e3,by show m<=nrem;omega,e5,fun _=>z⟩
  |false=>exact Zo ⟨rfl,rfl,by show 1<=m+1;omega,by show m+1+u=nrem;omega,Yb.more (hi:=lo+m) o e5 (by omega) z⟩
 ·rintro⟨c1,m⟩ s2 ⟨rfl,e2,e3,e4,e5⟩
  dsimp only at e4
  exact⟨rfl,e2,e3,by show m<=nrem;omega,e5,fun z=>by dsimp only at z;omega⟩
 ·rintro⟨c1,m⟩ s2 ⟨rfl,e2,e3,e4,e5,e6⟩;have e2:c1=none:=e2;subst e2
  dsimp only at e3 e4 e5 e6
  refine Yn (fun c=> ?_) (fun c=> ?_)
  ·exact Zo ⟨m,p,rfl,rfl,hp,e3,e4,fun _ _=>rfl,e5⟩
  have c:m≠nrem:=fun e=>c (by show(m==nrem)=true;rw[e];exact beq_self_eq_true _)
  have sm:=e6 (by omega)
  by_cases c2:m>1
  case' pos=>
   refine XQ c2 ?_;refine Zi (ZbI k hp (show lo<n by omega) (show lo+m-1<n by omega) ?_);cases z:ans (at_ p lo) (at_ p (lo+m-1)) with
   |true=>exact Zo ⟨m,p,rfl,rfl,hp,e3,e4,fun _ _=>rfl,e5⟩
   |false=> ?_
   have eq:∀x y,lo<=x->x<lo+m->lo<=y->y<lo+m->Le ans (at_ p x) (at_ p y):=fun x y a b c d=>Le.trans o (e5 x (lo+m-1) a (by omega) (by omega)) (Le.trans o z (e5 lo y (Nat.le_refl _) c d));refine Zi (ZfL ?_);have hz:lo+m<=p.size:=by rw[hp.size];omega
   have hp2:=hp.rev lo (lo+m);have ol:∀k,k<lo->at_ (kas_rev p lo (lo+m)) k=at_ p k:=fun k hk=>JW hz (.inl hk);have fa:Xk ans (kas_rev p lo (lo+m)) lo (lo+m+1):=(Xk.same o (fun x y a b c=>eq y x (by omega) c a (by omega)) hz eq).more o (by omega) (by
    rw[JW hz (.inr (Nat.le_refl _))];exact Le.trans o (o.le sm) (ZdY o hz eq _).1)
   generalize kas_rev p lo (lo+m)=p2 at hp2 ol fa⊢
  case' neg=>
   refine Xx c2 ?_;have hp2:=hp;have ol:∀k,k<lo->at_ p k=at_ p k:=fun k _=>rfl;have fa:Xk ans p lo (lo+m+1):=by
    obtain rfl:m=1:=by omega
    exact(Xk.one o).more o (by omega) (o.le sm)
  all_goals
   refine Zi (ZaN ?_);refine Zi (Yq (YK (P:=fun c s2=>c.1=none/\Fb κ it pend g n ans p lo nrem c.2.1 c.2.2 s2) (fun u c s2=>c.1=none/\c.2.1+u=nrem/\Fb κ it pend g n ans p lo nrem c.2.1 c.2.2 s2) ⟨rfl,by show m+1+(nrem-(m+1))=nrem;omega,_,rfl,hp2,ol,by show 0+1<=m+1;omega,by show m+1<=nrem;omega,fa,fun x y a b c d=> ?_⟩ (by show m+1<=nrem;omega) ?_ ?_) ?_)
   ·dsimp only at a b c d
    rw[show x=y by omega];exact Le.refl o _
   ·rintro u y ⟨c1,m,q⟩ s2 _ ⟨e2,e3,p3,rfl,hp3,ol3,f1,f2,fa3,eq3⟩;have e2:c1=none:=e2;subst e2
    dsimp only at e3 f1 f2 fa3 eq3
    have hz:lo+m<=p3.size:=by rw[hp3.size];omega
    refine Zi (ZbI k hp3 (show lo+m<n by omega) (show lo+m-1<n by omega) ?_);cases z:ans (at_ p3 (lo+m)) (at_ p3 (lo+m-1)) with
    |true=>
     have E1:∀p':Array Nat,∀x y,lo+(m+1)-(0+1)<=x->x<lo+(m+1)->lo+(m+1)-(0+1)<=y->y<lo+(m+1)->Le ans (at_ p' x) (at_ p' y):=fun p' x y a b c d=>by
      rw[show x=y by omega];exact Le.refl o _
     by_cases c3:q>0
     ·have O1:∀x,x<lo->at_ (kas_rev p3 (lo+m-(q+1)) (lo+m)) x=at_ p x:=fun x hx=>(JW hz (.inl (by omega))).trans (ol3 x hx);have F1:Xk ans (kas_rev p3 (lo+m-(q+1)) (lo+m)) lo (lo+m+1):=(fa3.same o hz eq3).more o (by omega) (by
       rw[JW hz (.inr (Nat.le_refl _))];exact Le.trans o (o.le z) (ZdY o hz eq3 _).1)
      exact XQ (rfl:true=true) (XQ c3 (Zi (ZfL (Zo ⟨rfl,by show m+1+u=nrem;omega,_,rfl,hp3.rev _ _,O1,by show 0+1<=m+1;omega,by show m+1<=nrem;omega,F1,E1 _⟩))))
     ·have F1:Xk ans p3 lo (lo+m+1):=fa3.more o (by omega) (o.le z);exact XQ (rfl:true=true) (Xx c3 (Zo ⟨rfl,by show m+1+u=nrem;omega,_,rfl,hp3,ol3,by show 0+1<=m+1;omega,by show m+1<=nrem;omega,F1,E1 _⟩))
    |false=>
     refine Xx (by intro e;cases e) (Zi (ZbI k hp3 (show lo+m-1<n by omega) (show lo+m<n by omega) ?_))
     cases z2:ans (at_ p3 (lo+m-1)) (at_ p3 (lo+m)) with
     |true=>exact Zo ⟨rfl,p3,rfl,hp3,ol3,f1,f2,fa3,eq3⟩
     |false=>
      have F1:Xk ans p3 lo (lo+m+1):=fa3.more o (by omega) z2;refine Zo ⟨rfl,by show m+1+u=nrem;omega,p3,rfl,hp3,ol3,by show q+1+1<=m+1;omega,by show m+1<=nrem;omega,F1,fun x y a b c d=> ?_⟩
      dsimp only at a b c d
      have lst:∀x,lo+m-(q+1)<=x->x<lo+m+1->Le ans (at_ p3 x) (at_ p3 (lo+m))/\Le ans (at_ p3 (lo+m)) (at_ p3 x):=fun x a b=>by
       by_cases e:x=lo+m
       ·rw[e];exact⟨Le.refl o _,Le.refl o _⟩
       ·exact⟨Le.trans o (eq3 x (lo+m-1) a (by omega) (by omega) (by omega)) z,Le.trans o z2 (eq3 (lo+m-1) x (by omega) (by omega) a (by omega))⟩
      exact Le.trans o (lst x (by omega) (by omega)).1 (lst y (by omega) (by omega)).2
   ·exact fun c s2 ⟨e1,e2,e3⟩=>⟨e1,e3⟩
   ·rintro⟨c1,m,q⟩ s2 ⟨e2,p3,rfl,hp3,ol3,f1,f2,fa3,eq3⟩;have e2:c1=none:=e2;subst e2
    dsimp only at f1 f2 fa3 eq3
    have hz:lo+m<=p3.size:=by rw[hp3.size];omega
    by_cases c3:q>0
    case' pos=>
     refine XQ c3 (Zi (ZfL ?_));have hp4:=hp3.rev (lo+m-(q+1)) (lo+m);have ol4:∀x,x<lo->at_ (kas_rev p3 (lo+m-(q+1)) (lo+m)) x=at_ p x:=fun x hx=>(JW hz (.inl (by omega))).trans (ol3 x hx);have fa4:=fa3.same o hz eq3
    case' neg=>
     refine Xx c3 ?_;have hp4:=hp3;have ol4:=ol3;have fa4:=fa3
    all_goals
     refine Zi (ZfL ?_);have hz4:=hp4.size▸(show lo+m<=n by omega);refine Zi (Yq (YK (P:=fun c s2=>c.1=none/\Run κ it pend g n ans p lo nrem (some c.2) s2) (fun u c s2=>c.1=none/\c.2+u=nrem/\Run κ it pend g n ans p lo nrem (some c.2) s2) ⟨rfl,by show m+(nrem-m)=nrem;omega,_,_,rfl,rfl,hp4.rev _ _,by show 1<=m;omega,f2,fun x hx=>(JW hz4 (.inl hx)).trans (ol4 x hx),fa4.turn hz4⟩ f2 ?_ ?_) ?_)
     ·rintro u y ⟨c1,m⟩ s2 _ ⟨e2,e3,m',p5,em,rfl,hp5,f3,f4,ol5,sa5⟩;have e2:c1=none:=e2;subst e2
      injection em with em
      dsimp only at em e3
      subst em;refine Zi (ZbI k hp5 (show lo+m<n by omega) (show lo+m-1<n by omega) ?_);cases z:ans (at_ p5 (lo+m)) (at_ p5 (lo+m-1)) with
      |true=>exact Zo ⟨rfl,_,_,rfl,rfl,hp5,f3,f4,ol5,sa5⟩
      |false=>exact Zo ⟨rfl,by show m+1+u=nrem;omega,_,_,rfl,rfl,hp5,by show 1<=m+1;omega,by show m+1<=nrem;omega,ol5,Yb.more (hi:=lo+m) o sa5 (by omega) z⟩
     ·exact fun c s2 ⟨e1,e2,e3⟩=>⟨e1,e3⟩
     ·rintro⟨c1,m⟩ s2 ⟨e2,e3⟩;have e2:c1=none:=e2;subst e2;exact Zo e3
theorem Yb.bub(o:Ord ans){p:Array Nat}{lo k l:Nat}(hs:lo+k<p.size)(hl:l<=k)(h:Yb ans p lo (lo+k))(low:∀i,i<l->Le ans (at_ p (lo+i)) (at_ p (lo+k)))(high:∀i,l<=i->i<k->Le ans (at_ p (lo+k)) (at_ p (lo+i))):Yb ans (bubble p (lo+k) (lo+k-(lo+l))) lo (lo+(k+1)):=fun i j a b c=>by
 have lw:∀x,lo<=x->x<lo+l->Le ans (at_ p x) (at_ p (lo+k)):=fun x a b=>by
  have:=low (x-lo) (by omega)
  rwa [show lo+(x-lo)=x by omega] at this
 have hg:∀x,lo+l<=x->x<lo+k->Le ans (at_ p (lo+k)) (at_ p x):=fun x a b=>by
  have:=high (x-lo) (by omega) (by omega)
  rwa [show lo+(x-lo)=x by omega] at this
 rw[ZhA hs (by omega),ZhA hs (by omega),show lo+k-(lo+k-(lo+l))=lo+l by omega]
 by_cases e1:i=lo+l
 ·rw[if_pos e1]
  by_cases e2:j=lo+l
  ·rw[if_pos e2];exact Le.refl o _
  ·rw[if_neg e2,if_pos (by omega)];exact hg _ (by omega) (by omega)
 ·rw[if_neg e1]
  by_cases e3:lo+l<i
  ·rw[if_pos (by omega),if_neg (by omega),if_pos (by omega)];exact h _ _ (by omega) (by omega) (by omega)
  ·rw[if_neg (by omega)]
   by_cases e2:j=lo+l
   ·rw[if_pos e2];exact lw _ a (by omega)
   ·rw[if_neg e2]
    by_cases e4:lo+l<j
    ·rw[if_pos (by omega)];exact Le.trans o (lw _ a (by omega)) (hg _ (by omega) (by omega))
    ·rw[if_neg (by omega)];exact h _ _ a b (by omega)
theorem ZgF(k:Zdb prog w A I κ it n ans)(o:Ord ans){p:Array Nat}(hp:Pl n p){lo m ok:Nat}(hm:lo+m<=n)(hk:max ok 1<=m)(hs:Yb ans p lo (lo+max ok 1)):
  Rn (model prog w) A I (binarySort' lo m ok) (stp κ it pend g p) fun r st=>r=true/\∃p',st=stp κ it pend g p'/\Pl n p'/\(∀x,x<lo->at_ p' x=at_ p x)/\Yb ans p' lo (lo+m):=by
 refine Zi (Yq (YK (P:=fun c s2=>c.1=none/\∃p',s2=stp κ it pend g p'/\Pl n p'/\(∀x,x<lo->at_ p' x=at_ p x)/\Yb ans p' lo (lo+m)) (fun u c s2=>c.1=none/\u<=m-max ok 1/\∃p',s2=stp κ it pend g p'/\Pl n p'/\(∀x,x<lo->at_ p' x=at_ p x)/\Yb ans p' lo (lo+(m-u))) ⟨rfl,Nat.le_refl _,p,rfl,hp,fun _ _=>rfl,by rw[show m-(m-max ok 1)=max ok 1 by omega];exact hs⟩ hk ?_ ?_) ?_)
 ·rintro u x ⟨c1,c2⟩ s2 ex ⟨e2,e3,p2,rfl,hp2,ol2,sa2⟩;have mx:1<=max ok 1:=Nat.le_max_right _ _;rw[show m-(u+1)=x by omega] at sa2
  have hx:lo+x<p2.size:=by rw[hp2.size];omega
  have J0:(∀i,i<0->Le ans (at_ p2 (lo+i)) (at_ p2 (lo+x)))/\∀i,x<=i->i<x->Le ans (at_ p2 (lo+x)) (at_ p2 (lo+i)):=⟨fun i hi=>by omega,fun i a b=>by omega⟩
  refine Zi (Yq (YK (P:=fun c s2=>s2=stp κ it pend g p2/\c.1=none/\c.2.1<=x/\(∀i,i<c.2.1->Le ans (at_ p2 (lo+i)) (at_ p2 (lo+x)))/\∀i,c.2.1<=i->i<x->Le ans (at_ p2 (lo+x)) (at_ p2 (lo+i))) (fun v c s2=>s2=stp κ it pend g p2/\c.1=none/\c.2.1<=c.2.2/\c.2.2<=x/\c.2.2-c.2.1<=v/\(∀i,i<c.2.1->Le ans (at_ p2 (lo+i)) (at_ p2 (lo+x)))/\∀i,c.2.2<=i->i<x->Le ans (at_ p2 (lo+x)) (at_ p2 (lo+i))) ⟨rfl,rfl,Nat.zero_le _,Nat.le_refl _,Nat.le_refl _,J0.1,J0.2⟩ (Nat.zero_le _) ?_ ?_) ?_)
  ·rintro v y ⟨d1,l,r⟩ s2 _ ⟨rfl,f2,f3,f4,f5,f6,f7⟩;have f2:d1=none:=f2;subst f2
   dsimp only at f3 f4 f5 f6 f7
   refine Yn (fun c=> ?_) (fun c=> ?_)
   ·have c:l≥r:=c;exact Zo ⟨rfl,rfl,by show l<=x;omega,f6,fun i a b=>f7 i (by dsimp only at a;omega) b⟩
   have c:¬l≥r:=c;refine Zi (ZbI k hp2 (show lo+x<n by omega) (show lo+(l+r)/2<n by omega) ?_);cases z:ans (at_ p2 (lo+x)) (at_ p2 (lo+(l+r)/2)) with
   |true=>exact Zo ⟨rfl,rfl,by show l<=(l+r)/2;omega,by show(l+r)/2<=x;omega,by show(l+r)/2-l<=v;omega,f6,fun i a b=>Le.trans o (o.le z) (sa2 _ _ (by omega) (by dsimp only at a;omega) (by omega))⟩
   |false=>exact Zo ⟨rfl,rfl,by show(l+r)/2+1<=r;omega,f4,by show r-((l+r)/2+1)<=v;omega,fun i a=>Le.trans o (sa2 _ _ (by omega) (by dsimp only at a;omega) (by omega)) z,f7⟩
  ·rintro⟨d1,l,r⟩ s2 ⟨rfl,f2,f3,f4,f5,f6,f7⟩
   dsimp only at f3 f4 f5 f6 f7
   exact⟨rfl,f2,by show l<=x;omega,f6,fun i a b=>f7 i (by dsimp only at a;omega) b⟩
  ·rintro⟨d1,l,r⟩ s2 ⟨rfl,f2,f3,f6,f7⟩;have f2:d1=none:=f2;subst f2
   dsimp only at f3 f6 f7
   have S1:=Yb.bub o hx f3 sa2 f6 f7;rw[show x+1=m-u by omega] at S1
   exact Zi (Zll (Zo ⟨rfl,by omega,_,rfl,hp2.bub _ _,fun y hy=>by rw[ZhA hx (by omega),if_neg (by omega),if_neg (by omega)];exact ol2 y hy,S1⟩))
 ·exact fun c s2 ⟨e1,e2,e3⟩=>⟨e1,e3⟩
 ·rintro⟨c1,c2⟩ s2 ⟨e2,e3⟩;have e2:c1=none:=e2;subst e2;exact Zo ⟨rfl,e3⟩
theorem Zmx{M:Model}{st st2:SortSt}{P:PUnit->SortSt->Prop}(h:P ⟨⟩ st2):Rn M A I (set st2) st P:=fun E Q s i q=>by
 unfold kasC;rw[StateT.run_set];exact wpAny_pure (q _ _ _ h i)
theorem laid{α:Type}(b:Nat):∀(xs:List α) (k:Nat) (a:Array α),b+k+xs.length<=a.size->((xs.zipIdx k).foldl (fun a q=>a.setIfInBounds (b+q.2) q.1) a).toList=a.toList.take (b+k)++(xs++a.toList.drop (b+k+xs.length))
 |[],k,a,h=>by simp
 |x::xs,k,a,h=>by
  have h:b+k+(xs.length+1)<=a.size:=h;rw[List.zipIdx_cons,List.foldl_cons,laid b xs (k+1) _ (by rw[Array.size_setIfInBounds];omega),Array.toList_setIfInBounds]
  have hl:b+k<a.toList.length:=by rw[Array.length_toList];omega
  rw[show b+(k+1)=b+k+1 by omega,List.take_succ_eq_append_getElem (by rw[List.length_set];exact hl),List.getElem_set_self,List.take_set_of_le (Nat.le_refl _),List.drop_set_of_lt (by omega),List.append_assoc]
  rw[show b+k+1+xs.length=b+k+(x::xs).length by simp;omega]
  rfl
theorem ZfM{l:List Nat}{j m:Nat}(h:m<=l.length):((l.take m).drop j).length=m-j:=by rw[List.length_drop,List.length_take,Nat.min_eq_left h]
theorem ZhD{l:List Nat}{i j m:Nat}(h:m<=l.length)(hi:j+i<m):at_ ((l.take m).drop j).toArray i=at_ l.toArray (j+i):=by
 rw[XC,XC];simp[List.getElem?_drop,List.getElem?_take,hi]
theorem Zbi(o:Ord ans){l:List Nat}{lo hi j m:Nat}(h:Yb ans l.toArray lo hi)(a:lo<=j)(b:m<=hi)(c:m<=l.length):((l.take m).drop j).Pairwise (Le ans):=by
 rw[List.pairwise_iff_getElem];intro x y hx hy xy;rw[ZfM c] at hx hy
 have:=h (j+x) (j+y) (by omega) (by omega) (by omega);rw[XC,XC] at this
 simpa [show j+x<l.length by omega,show j+y<l.length by omega] using this
theorem ZgG(o:Ord ans){l:List Nat}(h:Yb ans l.toArray 0 l.length):l.Pairwise (Le ans):=by
 have:=Zbi o (j:=0) (m:=l.length) h (Nat.le_refl _) (Nat.le_refl _) (Nat.le_refl _)
 rwa [List.take_length,List.drop_zero] at this
theorem Zj0(k:Zdb prog w A I κ it n ans)(o:Ord ans){l:List Nat}(pl:l.Perm (List.range n)){n1 n2 pw z:Nat}(h1:0<n1)(h2:0<n2)(hn:n1+n2=n)(s1:Yb ans l.toArray 0 n1)(s2:Yb ans l.toArray n1 n):
  Rn (model prog w) A I (mergeAt' 0) (stt κ (ar it l) #[(0,n1,pw),(n1,n2,z)] g) fun r st=>r=true/\∃l' g',st=stt κ (ar it l') #[(0,n1+n2,pw)] g'/\l'.Perm (List.range n)/\l'.Pairwise (Le ans):=by
 refine Zi (Je ?_);refine Zi (Zmx ?_);have ep:((#[(0,n1,pw),(n1,n2,z)]:Array (Nat×Nat×Nat)).setIfInBounds 0 (0,n1+n2,pw)).eraseIdxIfInBounds (0+1)= #[(0,n1+n2,pw)]:=by simp[Array.eraseIdxIfInBounds]
 show Rn _ _ _ _ (stt κ (ar it l) (((#[(0,n1,pw),(n1,n2,z)]:Array (Nat×Nat×Nat)).setIfInBounds 0 (0,n1+n2,pw)).eraseIdxIfInBounds (0+1)) g) _;rw[ep];have ll:l.length=n:=by rw[pl.length_eq,List.length_range]
 have N0:∀i,i<l.length->at_ l.toArray i<n:=fun i hi=>List.mem_range.mp (pl.mem_iff.mp (List.mem_of_mem_drop (ZcE (k:=0) (Nat.zero_le _) hi)));refine Zi (Yr (XF (i:=n1) (by omega)) ?_);refine Zi (ZlR k o rfl N0 (base:=0) (m:=n1) (fun i j a b c=>s1 i j a b (by omega)) (N0 n1 (by omega)) (by omega) h1 fun y hy f1 f2=> ?_);refine Yn (fun c=> ?_) (fun c=> ?_)
 ·have c:n1-y=0:=eq_of_beq c;refine Zo ⟨rfl,l,_,rfl,pl,ZgG o fun i j a b d=> ?_⟩
  by_cases e1:j<n1
  ·exact s1 i j a b e1
  ·by_cases e2:i<n1
   ·exact Le.trans o (f1 i (by omega) (by omega)) (s2 n1 j (Nat.le_refl _) (by omega) (by omega))
   ·exact s2 i j (by omega) b (by omega)
 have c:¬n1-y=0:=fun e=>c (by show(n1-y==0)=true;rw[e];rfl)
 refine Zi (Yr (i:=0+y+(n1-y)-1) (by rw[show 0+y+(n1-y)-1=n1-1 by omega];exact XF (by omega)) ?_)
 refine Zi (ZlS k o rfl N0 (base:=n1) (m:=n2) (fun i j a b c=>s2 i j a b (by omega)) (N0 (n1-1) (by omega)) (by omega) (show n2-1<n2 by omega) fun y2 hy2 f3 f4=> ?_);refine Yn (fun c2=> ?_) (fun c2=> ?_)
 ·have c2:y2=0:=eq_of_beq c2;refine Zo ⟨rfl,l,_,rfl,pl,ZgG o fun i j a b d=> ?_⟩
  by_cases e1:j<n1
  ·exact s1 i j a b e1
  ·by_cases e2:i<n1
   ·exact Le.trans o (s1 i (n1-1) a (by omega) (by omega)) (f4 j (by omega) (by omega))
   ·exact s2 i j (by omega) b (by omega)
 have c2:y2≠0:=fun e=>c2 (by show(y2==0)=true;rw[e];rfl)
 have la0:=ZfM (l:=l) (j:=y) (m:=n1) (by omega);have lb0:=ZfM (l:=l) (j:=n1) (m:=n1+y2) (by omega);have ha:=Zbi o (j:=y) (m:=n1) s1 (Nat.zero_le _) (Nat.le_refl _) (by omega);have hb:=Zbi o (j:=n1) (m:=n1+y2) s2 (Nat.le_refl _) (by omega) (by omega);have na:∀x∈(l.take n1).drop y,x<n:=fun x hx=>by
  obtain⟨i,a,b,rfl⟩:=Zc1 hx (by omega);exact N0 i (by omega)
 have nb:∀x∈(l.take (n1+y2)).drop n1,x<n:=fun x hx=>by
  obtain⟨i,a,b,rfl⟩:=Zc1 hx (by omega);exact N0 i (by omega)
 have hf:ans (at_ ((l.take (n1+y2)).drop n1).toArray 0) (at_ ((l.take n1).drop y).toArray 0)=true:=by
  rw[ZhD (by omega) (by omega),ZhD (by omega) (by omega)];exact f2 y (by omega) (by omega)
 have hl:∀x∈(l.take (n1+y2)).drop n1,Le ans x (at_ ((l.take n1).drop y).toArray (((l.take n1).drop y).length-1)):=fun x hx=>by
  obtain⟨i,a,b,rfl⟩:=Zc1 hx (by omega);rw[la0,ZhD (by omega) (by omega),show y+(n1-y-1)=n1-1 by omega];exact o.le (f3 i a b)
 have fin:∀(R:Array Keyed) (g2:Nat),ZaD ans it ((l.take n1).drop y) ((l.take (n1+y2)).drop n1) R->∃l' g',stt κ (R.toList.zipIdx.foldl (fun a q=>a.setIfInBounds (0+y+q.2) q.1) (ar it l)) #[(0,n1+n2,pw)] g2=stt κ (ar it l') #[(0,n1+n2,pw)] g'/\l'.Perm (List.range n)/\l'.Pairwise (Le ans):=fun R g2 ⟨r,er,rs,rp⟩=>by
  have rl:r.length=n1-y+y2:=by rw[rp.length_eq,List.length_append,la0,lb0];omega
  refine⟨l.take y++(r++l.drop (n1+y2)),g2, ?_, ?_, ?_⟩
  ·congr 1
   apply Array.ext'
   rw[er,laid (0+y) _ 0 _ (by simp[ar];omega)]
   simp[ar,List.map_take,List.map_drop,rl,show y+(n1-y+y2)=n1+y2 by omega]
  ·refine List.Perm.trans ?_ pl;have e1:=ZcH (l:=l) (i:=y) (m:=n1) (by omega);have e2:=ZcH (l:=l) (i:=n1) (m:=n1+y2) (by omega);have e3:=List.take_append_drop (n1+y2) l
   conv=>rhs;rw[<-e3,<-e2,<-e1]
   rw[List.append_assoc,List.append_assoc];refine List.Perm.append_left (l.take y) ?_;rw[<-List.append_assoc];exact List.Perm.append_right (l.drop (n1+y2)) rp
  ·have rm:∀x∈r,∃i,y<=i/\i<n1+y2/\x=at_ l.toArray i:=fun x hx=>by
    rcases List.mem_append.mp (rp.mem_iff.mp hx) with m|m
    ·obtain⟨i,a,b,e⟩:=Zc1 m (by omega);exact⟨i,a,by omega,e⟩
    ·obtain⟨i,a,b,e⟩:=Zc1 m (by omega);exact⟨i,by omega,b,e⟩
   have lw:∀i,i<y->∀j,y<=j->j<n->Le ans (at_ l.toArray i) (at_ l.toArray j):=fun i hi j a b=>by
    by_cases e:j<n1
    ·exact s1 i j (by omega) (by omega) e
    ·exact Le.trans o (f1 i (by omega) (by omega)) (s2 n1 j (Nat.le_refl _) (by omega) b)
   have hg:∀j,n1+y2<=j->j<n->∀i,y<=i->i<n1+y2->Le ans (at_ l.toArray i) (at_ l.toArray j):=fun j a b i c d=>by
    by_cases e:i<n1
    ·exact Le.trans o (s1 i (n1-1) (by omega) (by omega) (by omega)) (f4 j a (by omega))
    ·exact s2 i j (by omega) (by omega) b
   refine List.pairwise_append.mpr ⟨?_,List.pairwise_append.mpr ⟨rs, ?_,fun x hx x2 hx2=> ?_⟩,fun x hx x2 hx2=> ?_⟩
   ·have:=Zbi o (j:=0) (m:=y) s1 (Nat.le_refl _) (by omega) (by omega)
    rwa [List.drop_zero] at this
   ·have:=Zbi o (j:=n1+y2) (m:=n) s2 (by omega) (by omega) (by omega)
    rwa [<-ll,List.take_length] at this
   ·obtain⟨i,a,b,rfl⟩:=rm x hx;obtain⟨j,c,d,rfl⟩:=ZbG hx2;exact hg j c (by omega) i a b
   ·obtain⟨i,a,rfl⟩:=ZdX hx (by omega);rcases List.mem_append.mp hx2 with m|m
    ·obtain⟨j,c,d,rfl⟩:=rm x2 m;exact lw i a j c (by omega)
    ·obtain⟨j,c,d,rfl⟩:=ZbG m;exact lw i a j (by omega) (by omega)
 have ex:(ar it l).extract (0+y) n1=ar it ((l.take n1).drop y):=by rw[JD,Nat.zero_add]
 have ey:(ar it l).extract n1 (n1+y2)=ar it ((l.take (n1+y2)).drop n1):=JD _ _ _;have ez:kindOf (stt κ (ar it l) #[(0,n1,pw),(n1,n2,z)] g)=κ:=rfl;refine Yn (fun c3=> ?_) (fun c3=> ?_)
 ·refine Zi ?_;show Rn _ _ _ (ZgB ((ar it l).extract (0+y) n1) ((ar it l).extract n1 (n1+y2))) _ _;rw[ex,ey];exact mlo k o na nb ha hb (by omega) (by omega) hf hl fun R g2 wh=>Zi (Za4 (Zi (Je (Zo ⟨rfl,fin R g2 wh⟩))))
 ·refine Zi ?_;show Rn _ _ _ (ZgC ((ar it l).extract (0+y) n1) ((ar it l).extract n1 (n1+y2))) _ _;rw[ex,ey];exact mhi k o na nb ha hb (by omega) (by omega) hf hl fun R g2 wh=>Zi (Za4 (Zi (Je (Zo ⟨rfl,fin R g2 wh⟩))))
def One(κ:SortKind)(it:Array Keyed)(n:Nat)(ans:Nat->Nat->Bool)(st:SortSt):Prop:=∃p z g,st=stp κ it #[z] g p/\Pl n p/\Yb ans p 0 n
def Two(κ:SortKind)(it:Array Keyed)(n:Nat)(ans:Nat->Nat->Bool)(st:SortSt):Prop:=∃p n1 pw g,st=stp κ it #[(0,n1,pw),(n1,n-n1,0)] g p/\Pl n p/\0<n1/\n1<n/\Yb ans p 0 n1/\Yb ans p n1 n
theorem Zlm{n:Nat}(h:2<=n)(h2:n<128):n<=2*minRun' n n 0/\minRun' n n 0<=n/\1<=minRun' n n 0:=by
 obtain⟨r,rfl⟩:∃r,n=r+2:=⟨n-2,by omega⟩
 have e:minRun' (r+1+1) (r+2) 0=if r+2<64 then r+2+0 else minRun' (r+1) ((r+2)/2) (max 0 ((r+2)%2)):=minRun'_succ _ _ _;have e2:minRun' (r+1) ((r+2)/2) (max 0 ((r+2)%2))=if(r+2)/2<64 then(r+2)/2+max 0 ((r+2)%2) else minRun' r ((r+2)/2/2) (max (max 0 ((r+2)%2)) ((r+2)/2%2)):=minRun'_succ _ _ _;rw[if_pos (by omega)] at e2
 rw[e2] at e
 rw[show minRun' (r+2) (r+2) 0=_ from e]
 split
 ·omega
 ·omega
theorem Zj1(k:Zdb prog w A I κ it n ans)(o:Ord ans)(h2:2<=n)(h128:n<128){p:Array Nat}(hp:Pl n p):Rn (model prog w) A I sortRuns' (stp κ it #[] 7 p) fun _ st=>One κ it n ans st:=by
 obtain⟨q1,q2,q3⟩:=Zlm h2 h128;refine Zi (Je ?_);have hsz:(arrOf (stp κ it #[] 7 p)).size=n:=by
  show(p.map (kas_item it)).size=n;rw[Array.size_map,hp.size]
 have hm2:(sortPriv%PySem.Builtin.minRun) n n 0=minRun' n n 0:=rfl;simp only [hsz,hm2];generalize minRun' n n 0=mr at q1 q2 q3
 refine Zi (Yq (YK (P:=fun c s2=>c.1=none/\(One κ it n ans s2\/Two κ it n ans s2)) (fun u c s2=>c.1=none/\((c.2=0/\u=n/\s2=stp κ it #[] 7 p)\/(∃p1,s2=stp κ it #[(0,c.2,0)] 7 p1/\Pl n p1/\mr<=c.2/\c.2<=n/\Yb ans p1 0 c.2/\u+1=n)\/(c.2=n/\Two κ it n ans s2))) ⟨rfl,.inl ⟨rfl,rfl,rfl⟩⟩ (Nat.zero_le _) ?_ ?_) ?_)
 ·rintro u x ⟨c1,lo⟩ s2 ex ⟨e2,hj⟩;have e2:c1=none:=e2;subst e2;rcases hj with ⟨f1,f2,rfl⟩|⟨p1,rfl,hp1,f1,f2,sa1,f3⟩|⟨f1,tw⟩
  ·have f1:lo=0:=f1;subst f1;refine Xx (show¬0≥n by omega) ?_;refine Zi (Yq (Zfd k o hp (show 1<=n-0 by omega) (by omega)) ?_);rintro _ _ ⟨m,p1,rfl,rfl,hp1,g1,g2,_,sa⟩;have g2:m<=n:=g2;have sa:Yb ans p1 0 (0+m):=sa;have nxt:∀(p2:Array Nat) (n1:Nat),Pl n p2->mr<=n1->n1<=n->Yb ans p2 0 (0+n1)->(∃p3,stp κ it ((#[]:Array (Nat×Nat×Nat)).push (0,n1,0)) 7 p2=stp κ it #[(0,0+n1,0)] 7 p3/\Pl n p3/\mr<=0+n1/\0+n1<=n/\Yb ans p3 0 (0+n1)/\u+1=n):=fun p2 n1 a b c d=>by
    rw[Nat.zero_add] at d⊢
    exact⟨p2,rfl,a,b,c,d,f2⟩
   by_cases c:m<mr
   ·refine XQ c (Zi (ZaN (Zi (Yq (ZgF k o hp1 (lo:=0) (m:=min (n-0) mr) (ok:=m) (by omega) (by omega) (by rw[show max m 1=m by omega];exact sa)) ?_))))
    rintro _ _ ⟨rfl,p2,rfl,hp2,_,sa2⟩;refine Xx (by intro e;cases e) ?_
    exact Zi (Je (Zi (Za4 (Zo ⟨rfl,.inr (.inl (nxt p2 (min (n-0) mr) hp2 (by omega) (by omega) sa2))⟩))))
   ·exact Xx c (Zi (Je (Zi (Za4 (Zo ⟨rfl,.inr (.inl (nxt p1 m hp1 (by omega) g2 sa))⟩)))))
  ·dsimp only at f1 f2 sa1
   by_cases z:lo≥n
   ·refine XQ z (Zo ⟨rfl,.inl ⟨p1,_,_,rfl,hp1, ?_⟩⟩);rw[show n=lo by omega];exact sa1
   refine Xx z ?_;refine Zi (Yq (Zfd k o hp1 (show 1<=n-lo by omega) (by omega)) ?_);rintro _ _ ⟨m,p2,rfl,rfl,hp2,g1,g2,ol,sa⟩;have nxt:∀(p3:Array Nat) (n2 pw:Nat),Pl n p3->n2=n-lo->(∀x,x<lo->at_ p3 x=at_ p1 x)->Yb ans p3 lo n->lo+n2=n/\Two κ it n ans (stp κ it (((#[(0,lo,0)]:Array (Nat×Nat×Nat)).modify ((#[(0,lo,0)]:Array (Nat×Nat×Nat)).size-1) fun x=>(x.1,x.2.1,pw)).push (lo,n2,0)) 7 p3):=fun p3 n2 pw a b c d=>by
    subst b;refine⟨by omega,p3,lo,pw,7, ?_,a,by omega,by omega,fun i j x y z=> ?_,d⟩
    ·congr 1
    ·rw[c i (by omega),c j z];exact sa1 i j x y z
   by_cases c:m<mr
   case' pos=>
    refine XQ c (Zi (ZaN (Zi (Yq (ZgF k o hp2 (lo:=lo) (m:=min (n-lo) mr) (ok:=m) (by omega) (by omega) (by rw[show max m 1=m by omega];exact sa)) ?_))))
    rintro _ _ ⟨rfl,p3,rfl,hp3,ol3,sa3⟩;refine Xx (by intro e;cases e) ?_
    have ol4:∀x,x<lo->at_ p3 x=at_ p1 x:=fun x hx=>(ol3 x hx).trans (ol x hx);have nx:min (n-lo) mr=n-lo:=by omega
    have sa4:Yb ans p3 lo n:=by rw[nx,show lo+(n-lo)=n by omega] at sa3;exact sa3
   case' neg=>
    refine Xx c ?_;have hp3:=hp2;have g2:m<=n-lo:=g2;have ol4:∀x,x<lo->at_ p2 x=at_ p1 x:=ol;have nx:m=n-lo:=by omega
    have sa4:Yb ans p2 lo n:=by
     have sa:Yb ans p2 lo (lo+m):=sa;rw[nx,show lo+(n-lo)=n by omega] at sa
     exact sa
   all_goals
    refine Zi (Je (Zi (Yq (YK (P:=fun c s2=>c.1=none/\∃p3,s2=stp κ it #[(0,lo,0)] 7 p3/\Pl n p3/\(∀x,x<lo->at_ p3 x=at_ p1 x)/\Yb ans p3 lo n) (fun u c s2=>c.1=none/\∃p3,s2=stp κ it #[(0,lo,0)] 7 p3/\Pl n p3/\(∀x,x<lo->at_ p3 x=at_ p1 x)/\Yb ans p3 lo n) ⟨rfl,_,rfl,hp3,ol4,sa4⟩ (Nat.zero_le _) ?_ ?_) ?_)))
    ·rintro u y ⟨d1,d2⟩ s2 _ ⟨_,p4,rfl,q4⟩;exact Zi (Je (Zo ⟨rfl,p4,rfl,q4⟩))
    ·exact fun c s2 y=>y
    ·rintro⟨d1,d2⟩ s2 ⟨y,p4,rfl,q4,q5,q6⟩;have y:d1=none:=y;subst y;exact Zi (Za4 (Zi (Za4 (Zo ⟨rfl,.inr (.inr (nxt _ _ _ q4 nx q5 q6))⟩))))
  ·have f1:lo=n:=f1;subst f1;exact XQ (Nat.le_refl _) (Zo ⟨rfl,.inr tw⟩)
 ·rintro⟨c1,lo⟩ s2 ⟨e2,hj⟩;refine⟨e2, ?_⟩;rcases hj with ⟨f1,f2,rfl⟩|⟨p1,rfl,hp1,f1,f2,sa1,f3⟩|⟨f1,tw⟩
  ·omega
  ·omega
  ·exact .inr tw
 ·rintro⟨c1,lo⟩ s2 ⟨e2,hj⟩;have e2:c1=none:=e2;subst e2;refine Zi (Yq (YK (P:=fun c s2=>c.1=none/\One κ it n ans s2) (fun u c s2=>c.1=none/\(One κ it n ans s2\/(u=n/\Two κ it n ans s2))) ⟨rfl,hj.imp id fun y=>⟨rfl,y⟩⟩ (Nat.zero_le _) ?_ ?_) ?_)
  ·rintro u y ⟨d1,d2⟩ s2 _ ⟨_,hj⟩;rcases hj with on|⟨f1,p1,n1,pw,g,rfl,hp1,f2,f3,s1,s2⟩
   ·have on2:=on;obtain⟨p1,z,g,rfl,_,_⟩:=on;exact Zi (Je (XQ (Nat.le_refl 1) (Zo ⟨rfl,on2⟩)))
   ·refine Zi (Je (Xx (show¬(2<=1) by omega) ?_));have pl0:p1.toList.Perm (List.range n):=Array.perm_iff_toList_perm.mp hp1.perm;have ea:p1.toList.toArray=p1:=by simp
    have mt:=Zj0 k o (l:=p1.toList) (n1:=n1) (n2:=n-n1) (pw:=pw) (z:=0) (g:=g) pl0 f2 (by omega) (by omega) (by rw[ea];exact s1) (by rw[ea];exact s2)
    have ea2:ar it p1.toList=p1.map (kas_item it):=by unfold ar;rw[ea]
    rw[ea2] at mt
    refine Zi (Yq mt ?_);rintro _ _ ⟨rfl,l',g',rfl,pl,sl⟩;have ll:l'.length=n:=by rw[pl.length_eq,List.length_range]
    exact Xx (by intro e;cases e) (Zo ⟨rfl,.inl ⟨l'.toArray,_,g',rfl,⟨by simpa using ll,Array.perm_iff_toList_perm.mpr pl⟩,fun i j _ b c=>ZbH o sl b (by omega)⟩⟩)
  ·rintro c s2 ⟨e1,on|⟨f1,_⟩⟩
   ·exact⟨e1,on⟩
   ·omega
  ·rintro⟨d1,d2⟩ s2 ⟨y,on⟩;have y:d1=none:=y;subst y;exact Zo on
end
end L3
namespace L3
open PySem PySem.Spec PyProof.Rows L2
def ZdM(e c:Nat->Bool)(fin:Bool):List Nat->Bool
 |[]=>fin
 |i::r=>if e i=true then ZdM e c fin r else c i
section
variable {P:Program} {w:World} (l b:Addr) (xs ys:Array Value) (n m:Nat) (d1 d2:Option Addr) (s1 s2:Array (Option Value)) (e c:Nat->Bool)
abbrev Zdc(xs ys:Array Value)(e c:Nat->Bool)(i:Nat):Bool:=ZdM e c (decide (xs.size<ys.size)) ((List.range (min xs.size ys.size)).drop i)
theorem Zmy(k:Nat):∀i:Nat,min xs.size ys.size-i=k->MeetsIn P w (Builtin.«list.__eq__.loop» ⟨[.ref l,.ref b,rawInt i,rawInt 0],[]⟩)
  (fun A R s=>s.heap.get? l=some (ZdK d1 xs n s1)/\s.heap.get? b=some (ZdK d2 ys m s2)/\(∀j (h1:j<xs.size) (h2:j<ys.size),EqP P w A.in1 s xs[j] ys[j] (e j))/\
   (∀j (h1:j<xs.size) (h2:j<ys.size),e j=false->RcP P w A.in1 s .Lt xs[j] ys[j] (c j))/\R (.ok (.ret (.bool (Zdc xs ys e c i)))) s):=by
 induction k with
 |zero=>
  intro i hk A R s h;obtain⟨hq,gs,dr,tk,oss⟩:=s;obtain⟨u1,u2,ue,uc,q⟩:=h;have v3:(List.range (min xs.size ys.size)).drop i=[]:=by simp;omega
  unfold Zdc at q
  rw[v3] at q
  have fin:∀o1 o2,(xs[((i:Nat):Int).toNat]? =o1)->(ys[((i:Nat):Int).toNat]? =o2)->o1=none\/o2=none:=fun o1 o2 a1 a2=>by
   rw[<-a1,<-a2]
   by_cases z:i<xs.size
   ·right;simp;omega
   ·left;simp;omega
  wp_walk using AutoSeq1.wpAny_loadPart' u1,AutoSeq1.wpAny_loadPart' u2
  cases v1:xs[((i:Nat):Int).toNat]? with
  |none=>
   wp_walk using AutoSeq1.wpAny_loadPart' u1,AutoSeq1.wpAny_loadPart' u2
   exact q
  |some x=>
   cases v2:ys[((i:Nat):Int).toNat]? with
   |none=>
    wp_walk using AutoSeq1.wpAny_loadPart' u1,AutoSeq1.wpAny_loadPart' u2
    exact q
   |some y=>exact absurd (fin _ _ v1 v2) (by simp)
 |succ k ih=>
  intro i hk A R s h;obtain⟨hq,gs,dr,tk,oss⟩:=s;obtain⟨u1,u2,ue,uc,q⟩:=h;have t1:i<xs.size:=by omega
  have t2:i<ys.size:=by omega
  have tm:i<min xs.size ys.size:=by omega
  have v1:xs[((i:Nat):Int).toNat]? =some xs[i]:=by simp[t1]
  have v2:ys[((i:Nat):Int).toNat]? =some ys[i]:=by simp[t2]
  have v3:(List.range (min xs.size ys.size)).drop i=i::(List.range (min xs.size ys.size)).drop (i+1):=by simp[List.drop_eq_getElem_cons,tm]
  have v4:((i:Int)+1)=((i+1:Nat):Int):=by push_cast;rfl
  unfold Zdc at q
  rw[v3] at q
  unfold ZdM at q
  wp_walk using AutoSeq1.wpAny_loadPart' u1,AutoSeq1.wpAny_loadPart' u2
  rw[v1,v2];refine wpAny_bind (ue i t1 t2 _ _ ?_);cases ei:e i with
  |true=>
   rw[ei,if_pos rfl] at q
   wp_walk
   rw[v4];refine⟨plainId_quiet MeetsSeq3.plain_eq_loop _,codeAny_builtin MeetsSeq3.entry_eq_loop ?_⟩;rw[Around.under_plainId MeetsSeq3.plain_eq_loop _];exact ih (i+1) (by omega) A R _ ⟨u1,u2,ue,uc,q⟩
  |false=>
   rw[ei,if_neg (by simp)] at q
   wp_walk using AutoSeq1.wpAny_loadPart' u1,AutoSeq1.wpAny_loadPart' u2
   rw[v1,v2];refine wpAny_bind (uc i t1 t2 ei _ _ ?_)
   wp_walk
   exact q
theorem Zmz:MeetsIn P w (Builtin.«list.__lt__» ⟨[.ref l,.ref b],[]⟩) (fun A R s=>s.heap.get? l=some (ZdK d1 xs n s1)/\s.heap.get? b=some (ZdK d2 ys m s2)/\
  (∀j (h1:j<xs.size) (h2:j<ys.size),EqP P w A.in1 s xs[j] ys[j] (e j))/\(∀j (h1:j<xs.size) (h2:j<ys.size),e j=false->RcP P w A.in1 s .Lt xs[j] ys[j] (c j))/\R (.ok (.ret (.bool (Zdc xs ys e c 0)))) s):=by
 intro A R s h;obtain⟨hq,gs,dr,tk,oss⟩:=s;obtain⟨u1,u2,ue,uc,q⟩:=h;have sub:=AutoSeq1.sub_list_list
 wp_walk using AutoSeq1.wpAny_loadPart' u1,AutoSeq1.wpAny_loadPart' u2
 refine⟨plainId_quiet MeetsSeq3.plain_eq_loop _,codeAny_builtin MeetsSeq3.entry_eq_loop ?_⟩;rw[Around.under_plainId MeetsSeq3.plain_eq_loop _];exact Zmy l b xs ys n m d1 d2 s1 s2 e c _ 0 rfl A R _ ⟨u1,u2,ue,uc,q⟩
theorem Znw:MeetsIn P w (Builtin.«tuple.__lt__» ⟨[.ref l,.ref b],[]⟩) (fun A R s=>s.heap.get? l=some (ZiS d1 xs n s1)/\s.heap.get? b=some (ZiS d2 ys m s2)/\
  (∀j (h1:j<xs.size) (h2:j<ys.size),EqP P w A.in1 s xs[j] ys[j] (e j))/\(∀j (h1:j<xs.size) (h2:j<ys.size),e j=false->RcP P w A.in1 s .Lt xs[j] ys[j] (c j))/\R (.ok (.ret (.bool (Zdc xs ys e c 0)))) s):=
 .of_wp fun A R s h=>by
  obtain⟨hq,gs,dr,tk,oss⟩:=s;obtain⟨u1,u2,ue,uc,q⟩:=h;have sub:=AutoSeq1.sub_tuple_tuple;have zl:(xs.toList.zip ys.toList).length=min xs.size ys.size:=by simp
  wp_walk using AutoSeq1.wpAny_loadPart' u1,AutoSeq1.wpAny_loadPart' u2,wpAny_forIn_list _ (fun rest a s'=>a.1=none/\s'=⟨hq,gs,dr,tk,oss⟩/\∃i,rest=(xs.toList.zip ys.toList).drop i/\
   R (.ok (.ret (.bool (Zdc xs ys e c i)))) ⟨hq,gs,dr,tk,oss⟩) _
  case turn=>
   rintro⟨y,x⟩ rest a s' ⟨ha,rfl,i,zr,zq⟩;have lt:i<(xs.toList.zip ys.toList).length:=Nat.lt_of_not_le fun z=>by rw[List.drop_of_length_le z] at zr;cases zr
   have lm:i<min xs.size ys.size:=zl▸lt;have l1:i<xs.size:=by omega
   have l2:i<ys.size:=by omega
   rw[List.drop_eq_getElem_cons lt] at zr
   injection zr with zyx zrest
   obtain rfl:y=xs[i]:=by simpa using congrArg Prod.fst zyx
   obtain rfl:x=ys[i]:=by simpa using congrArg Prod.snd zyx
   have zd:(List.range (min xs.size ys.size)).drop i=i::(List.range (min xs.size ys.size)).drop (i+1):=by simp[List.drop_eq_getElem_cons,lm]
   unfold Zdc at zq
   rw[zd] at zq
   unfold ZdM at zq
   refine wpAny_bind (ue i l1 l2 _ _ ?_);cases ei:e i with
   |true=>
    rw[ei,if_pos rfl] at zq
    wp_walk
    exact⟨rfl,rfl,i+1,zrest,zq⟩
   |false=>
    rw[ei,if_neg (by simp)] at zq
    have rc:=uc i l1 l2 ei;unfold RcP at rc
    generalize richCompare CmpOp.Lt xs[i] ys[i]=m at rc⊢
    wp_walk
    first|refine wpAny_bind (rc _ _ ?_)|refine rc _ _ ?_
    wp_walk
    exact⟨_,rfl,zq⟩
  case fin=>
   rintro⟨a1,a2⟩ s' ⟨ha,rfl,i,zr,zq⟩;simp only at ha
   subst ha;have ge:min xs.size ys.size<=i:=Nat.le_of_not_lt fun z=>by rw[List.drop_eq_getElem_cons (zl▸z:i<(xs.toList.zip ys.toList).length)] at zr;cases zr
   unfold Zdc at zq
   rw[List.drop_of_length_le (by simpa using ge)] at zq
   wp_walk
   exact⟨_,rfl,by simpa [Builtin.Tuple.tupleCompareSizes,ZdM] using zq⟩
  case h=>exact⟨rfl,rfl,0,rfl,q⟩
end
section
variable {P:Program} {w:World} {A:Around} {s:Shared} {l b:Addr} {xs ys:Array Value} {e c:Nat->Bool}
theorem Zln(hl:s.heap.IsList l xs)(hb:s.heap.IsList b ys)(hu:A.units<cLine)(he:∀j (h1:j<xs.size) (h2:j<ys.size),EqP P w A.in1 s xs[j] ys[j] (e j))(hc:∀j (h1:j<xs.size) (h2:j<ys.size),e j=false->RcP P w A.in1 s .Lt xs[j] ys[j] (c j)):RcP P w A s .Lt (.ref l) (.ref b) (Zdc xs ys e c 0):=by
 obtain⟨⟨c1,d1,t1,s1⟩,o1,k1,n,e1⟩:=id hl;obtain⟨⟨c2,d2,t2,s2⟩,o2,k2,m,e2⟩:=id hb;simp only at k1 e1 k2 e2
 subst k1 e1 k2 e2;exact fun E Q q=>wpAny_richCompare_same_room hl.typeIs hb.typeIs F.slot_list_lt (call_meetsIn F.slot_list_lt hl.typeIs F.entry_list_lt (F.args_list_lt_2 _ _) (Zmz l b xs ys n m d1 d2 s1 s2 e c) ⟨o1,o2,he,hc,JV q⟩) hu
theorem Zk4(hl:s.heap.IsTuple l xs)(hb:s.heap.IsTuple b ys)(hu:A.units<cLine)(he:∀j (h1:j<xs.size) (h2:j<ys.size),EqP P w A.in1 s xs[j] ys[j] (e j))(hc:∀j (h1:j<xs.size) (h2:j<ys.size),e j=false->RcP P w A.in1 s .Lt xs[j] ys[j] (c j)):RcP P w A s .Lt (.ref l) (.ref b) (Zdc xs ys e c 0):=by
 obtain⟨⟨c1,d1,t1,s1⟩,o1,k1,n,e1⟩:=id hl;obtain⟨⟨c2,d2,t2,s2⟩,o2,k2,m,e2⟩:=id hb;simp only at k1 e1 k2 e2
 subst k1 e1 k2 e2;exact fun E Q q=>wpAny_richCompare_same_room hl.typeIs hb.typeIs F.slot_tuple_lt (call_meetsIn F.slot_tuple_lt hl.typeIs F.entry_tuple_lt (F.args_tuple_lt_2 _ _) (Znw l b xs ys n m d1 d2 s1 s2 e c) ⟨o1,o2,he,hc,JV q⟩) hu
end
end L3
namespace L3
open PySem PySem.Spec PyProof.Rows L2 PySem.W PySem.Calls
def lfD(x:Lf):Dt:=.tup [.v (.str x.1),.v (.int x.2)]
def ZdN(l:List Lf):Dt:=.lst (l.map lfD)
def kyD(k:Ky):Dt:=.tup [.v (.int k.1),ZdN k.2]
theorem Zk5(n:Nat)(x y:Lf):YQ (n+1) (lfD x) (lfD y)=decide (x=y):=by
 obtain⟨a,b⟩:=x;obtain⟨c,d⟩:=y;have e:YQ (n+1) (lfD (a,b)) (lfD (c,d))=((a==c)&&(b==d)):=by simp[lfD,YQ,eqV]
 rw[e]
 by_cases h:(a,b)=(c,d)
 ·injection h with h1 h2;subst h1 h2;simp
 ·rw[decide_eq_false h]
  by_cases h1:a=c
  ·subst h1;have h2:b≠d:=fun z=>h (by rw[z]);simp[h2]
  ·simp[h1]
theorem Zii(n:Nat):∀x y:List Lf,YQ (n+2) (ZdN x) (ZdN y)=decide (x=y):=by
 have go:∀x y:List Lf,((x.map lfD).length==(y.map lfD).length&&((x.map lfD).zip (y.map lfD)).all fun p=>YQ (n+1) p.1 p.2)=decide (x=y):=by
  intro x
  induction x with
  |nil=>intro y;cases y<;>rfl
  |cons a r ih=>intro y;cases y with
   |nil=>rfl
   |cons b t=>
    rw[List.map_cons,List.map_cons,List.zip_cons_cons,List.all_cons,Zk5,List.length_cons,List.length_cons];have e:((r.map lfD).length+1==(t.map lfD).length+1)=((r.map lfD).length==(t.map lfD).length):=by
     by_cases z:(r.map lfD).length=(t.map lfD).length
     ·rw[z];simp
     ·rw[beq_false_of_ne z,beq_false_of_ne (by omega)]
    rw[e,Bool.and_left_comm,ih t]
    by_cases z:a=b
    ·subst z;simp
    ·simp[z]
 exact fun x y=>go x y
theorem Zij(n:Nat)(x y:Lf):Jp (n+1) (lfD x) (lfD y)=true:=by simp[lfD,Jp]
theorem ZgH(n:Nat)(x y:List Lf):Jp (n+2) (ZdN x) (ZdN y)=true:=by
 show(((x.map lfD).zip (y.map lfD)).all fun p=>Jp (n+1) p.1 p.2)=true;rw[List.all_eq_true];intro p hp;have h1:=(List.of_mem_zip hp).1;have h2:=(List.of_mem_zip hp).2;obtain⟨a,_,e1⟩:=List.mem_map.mp h1;obtain⟨b,_,e2⟩:=List.mem_map.mp h2;rw[<-e1,<-e2];exact Zij n a b
theorem Zfe(e c:Nat->Bool)(fin:Bool):∀l:List Nat,ZdM e c fin (l.map Nat.succ)=ZdM (fun j=>e (j+1)) (fun j=>c (j+1)) fin l
 |[]=>rfl
 |i::r=>by
  show(if e (i+1)=true then ZdM e c fin (r.map Nat.succ) else c (i+1))=_;rw[Zfe e c fin r]
  rfl
theorem Zff{α:Type} [DecidableEq α](lt:α->α->Bool)(d:α):∀a b:List α,ZdM (fun j=>decide (a.getD j d=b.getD j d)) (fun j=>lt (a.getD j d) (b.getD j d)) (decide (a.length<b.length)) (List.range (min a.length b.length))=Zbe lt a b
 |[],[]=>rfl
 |[],_::_=>by simp[ZdM,Zbe]
 |_::_,[]=>by simp[ZdM,Zbe]
 |x::a,y::b=>by
  rw[List.length_cons,List.length_cons,Nat.succ_min_succ,List.range_succ_eq_map];show(if decide (x=y)=true then ZdM _ _ _ _ else lt x y)=if x=y then Zbe lt a b else lt x y;rw[Zfe];have e:decide (a.length+1<b.length+1)=decide (a.length<b.length):=by
   by_cases z:a.length<b.length
   ·rw[decide_eq_true z,decide_eq_true (by omega)]
   ·rw[decide_eq_false z,decide_eq_false (by omega)]
  rw[e,<-Zff lt d a b]
  by_cases z:x=y
  ·rw[if_pos z,if_pos (decide_eq_true z)];rfl
  ·rw[if_neg z,if_neg (by rw[decide_eq_false z];simp)]
section
variable {X:Cx} {pins:List (Addr×Obj)} {σ:L2.St} {H:Hp} {s:Shared} {A:Around}
theorem ZmA{x:Lf}{v:V}(r:Rep X.K H (lfD x) v):∃p,v=.ref p/\SqT X.K H p [.str x.1,.int x.2]:=by
 cases r with
 |tup h r=>
  cases r with
  |cons a r=>
   cases r with
   |cons b r=>
    cases r;cases a;cases b;exact⟨_,rfl,h⟩
theorem ZlT(I:L2.Inv X pins σ H s){x:Lf}{p:Addr}(h:SqT X.K H p [.str x.1,.int x.2]):∃t u,s.heap.IsTuple p #[.str x.1 t,.int x.2 u]:=by
 obtain⟨its,r,T,_⟩:=I.tuple h;cases r with
 |cons a r=>
  cases r with
  |cons b r=>
   cases r;obtain⟨t,rfl⟩:=a;obtain⟨u,rfl⟩:=b;exact⟨t,u,T⟩
theorem Znx(I:L2.Inv X pins σ H s){x y:Lf}{a b:Addr}(ha:SqT X.K H a [.str x.1,.int x.2])(hb:SqT X.K H b [.str y.1,.int y.2])(hu:A.units<cLine):RcP X.prog X.w A s .Lt (.ref a) (.ref b) (Zbg x y):=by
 obtain⟨t,u,T1⟩:=ZlT I ha;obtain⟨t',u',T2⟩:=ZlT I hb;have go:=Zk4 (P:=X.prog) (w:=X.w) (A:=A) (e:=fun j=>if j=0 then decide (x.1=y.1) else(x.2==y.2)) (c:=fun j=>if j=0 then Zbf x.1 y.1 else Za2 x.2 y.2) T1 T2 hu (fun j h1 h2=> ?_) (fun j h1 h2 z=> ?_)
 ·have e:Zdc #[Value.str x.1 t,Value.int x.2 u] #[Value.str y.1 t',Value.int y.2 u'] (fun j=>if j=0 then decide (x.1=y.1) else(x.2==y.2)) (fun j=>if j=0 then Zbf x.1 y.1 else Za2 x.2 y.2) 0=Zbg x y:=by
   show(if decide (x.1=y.1)=true then(if(x.2==y.2)=true then false else Za2 x.2 y.2) else Zbf x.1 y.1)=if x.1=y.1 then Za2 x.2 y.2 else Zbf x.1 y.1
   by_cases z:x.1=y.1
   ·rw[if_pos (decide_eq_true z),if_pos z]
    by_cases z2:x.2=y.2
    ·rw[z2,beq_self_eq_true,if_pos rfl,ZbF.irr]
    ·rw[beq_false_of_ne z2,if_neg (by simp)]
   ·rw[if_neg (by rw[decide_eq_false z];simp),if_neg z]
  rw[e] at go
  exact go
 ·match j,h1,h2 with
  |0,_,_=>exact fun E Q q=>wpAny_eqBool_str q
  |1,_,_=>exact fun E Q q=>wpAny_eqBool_int q
 ·match j,h1,h2 with
  |0,_,_=>exact fun E Q q=>PySem.P.lt_str q
  |1,_,_=>exact fun E Q q=>PyProof.Rows.lt_int q
theorem Zbj:∀{l:List Lf} {xs:List V} {us:List Value} (_:Zgu X.K H (l.map lfD) xs) (_:ZW xs us) (j:Nat) (h:j<us.length),∃p,us[j]=.ref p/\SqT X.K H p [.str (l.getD j (Str.empty,0)).1,.int (l.getD j (Str.empty,0)).2]
 |[],_,_,.nil,.nil,j,h=>absurd h (Nat.not_lt_zero _)
 |x::l,_,_,.cons r _,.cons v _,0,_=>by
  obtain⟨p,rfl,e⟩:=ZmA r;exact⟨p,v,e⟩
 |x::l,_,_,.cons _ t,.cons _ vt,j+1,h=>by
  obtain⟨p,a,b⟩:=Zbj t vt j (by simpa using h);exact⟨p,a,b⟩
theorem Zk6(I:L2.Inv X pins σ H s){x y:List Lf}{a b:Addr}(ha:Rep X.K H (ZdN x) (.ref a))(hb:Rep X.K H (ZdN y) (.ref b))(hu:A.units+5<cLine):RcP X.prog X.w A s .Lt (.ref a) (.ref b) (ZbV x y):=by
 cases ha with
 |lst ha ra=>
  cases hb with
  |lst hb rb=>
   obtain⟨us,r1,p1,_⟩:=I.list ha;obtain⟨vs,r2,p2,_⟩:=I.list hb;have l1:us.length=x.length:=by rw[<-r1.length,<-Paired.length ra,List.length_map]
   have l2:vs.length=y.length:=by rw[<-r2.length,<-Paired.length rb,List.length_map]
   have u1:A.in1.units+1<cLine:=by show A.units+1+1<cLine;omega
   have go:=Zln (P:=X.prog) (w:=X.w) (A:=A) (e:=fun j=>decide (x.getD j (Str.empty,0)=y.getD j (Str.empty,0))) (c:=fun j=>Zbg (x.getD j (Str.empty,0)) (y.getD j (Str.empty,0))) p1.isList p2.isList (by omega) (fun j h1 h2=> ?_) (fun j h1 h2 z=> ?_)
   ·unfold Zdc at go
    rw[List.drop_zero,List.size_toArray,List.size_toArray,l1,l2,Zff Zbg (Str.empty,0) x y] at go
    exact go
   ·obtain⟨p,e1,q1⟩:=Zbj ra r1 j (by simpa using h1);obtain⟨q,e2,q2⟩:=Zbj rb r2 j (by simpa using h2);have rp:Rep X.K H (lfD (x.getD j (Str.empty,0))) (.ref p):=.tup q1 (.cons (.flat rfl) (.cons (.flat rfl) .nil));have rq:Rep X.K H (lfD (y.getD j (Str.empty,0))) (.ref q):=.tup q2 (.cons (.flat rfl) (.cons (.flat rfl) .nil));have:=(Zcw I 1 _ _ _ _ (.ref p) (.ref q) A.in1 rp rq rfl rfl (Zij 0 _ _) u1).1
    rw[Zk5] at this
    rw[List.getElem_toArray,List.getElem_toArray,e1,e2];exact this
   ·obtain⟨p,e1,q1⟩:=Zbj ra r1 j (by simpa using h1);obtain⟨q,e2,q2⟩:=Zbj rb r2 j (by simpa using h2);rw[List.getElem_toArray,List.getElem_toArray,e1,e2];exact Znx I q1 q2 (by omega)
theorem Zek{k:Ky}{v:V}(r:Rep X.K H (kyD k) v):∃p q,v=.ref p/\SqT X.K H p [.int k.1,.ref q]/\Rep X.K H (ZdN k.2) (.ref q):=by
 cases r with
 |tup h r=>
  cases r with
  |cons a r=>
   cases r with
   |cons b r=>
    cases r;cases a;have b':=b;cases b with
    |lst h2 r2=>exact⟨_,_,rfl,h,b'⟩
theorem Zk7(I:L2.Inv X pins σ H s){k:Ky}{p q:Addr}(h:SqT X.K H p [.int k.1,.ref q]):∃t o n,s.heap.get? p=some o/\o.cls=.type "tuple"/\o.data=.seq #[.int k.1 t,.ref q] n:=by
 obtain⟨its,r,T,_⟩:=I.tuple h;cases r with
 |cons a r=>
  cases r with
  |cons b r=>
   cases r;obtain⟨t,rfl⟩:=a;cases b;obtain⟨o,e,c,n,d⟩:=T;exact⟨t,o,n,e,c,d⟩
theorem ZmB(I:L2.Inv X pins σ H s){x y:Ky}{a b:V}{u v:Value}(ra:Rep X.K H (kyD x) a)(rb:Rep X.K H (kyD y) b)(ru:ZR a u)(rv:ZR b v)(hu:A.units+5<cLine){C:Bool->Shared->Prop}(h:C (ZcB x y) s):wpAny (model X.prog X.w) A (keyLt' (tuples' true) u v) C (fun _ _=>False) s:=by
 obtain⟨p,q,rfl,hp,hq⟩:=Zek ra;obtain⟨p',q',rfl,hp',hq'⟩:=Zek rb;cases ru;cases rv;obtain⟨t,o,n,e1,_,e3⟩:=Zk7 I hp;obtain⟨t',o',n',f1,_,f3⟩:=Zk7 I hp';have hk:ZcB x y=if x.1=y.1 then ZbV x.2 y.2 else Za2 x.1 y.1:=rfl;refine kat_lt e1 e3 f1 f3 ?_;show KatLex X.prog X.w A true false C [(.int x.1 t,.int y.1 t'),(.ref q,.ref q')] 0 s;refine kat_cons (wpAny_eqBool_int ?_)
 by_cases z:x.1=y.1
 ·rw[if_pos z] at hk
  rw[z,beq_self_eq_true];refine kat_yes (kat_cons ?_);have eq:=(Zcw I 2 _ _ _ _ (.ref q) (.ref q') A hq hq' rfl rfl (ZgH 0 _ _) (by omega)).1;rw[Zii 0] at eq
  refine eq _ _ ?_
  by_cases z2:x.2=y.2
  ·rw[decide_eq_true z2];refine kat_yes (kat_nil ?_);rw[hk,z2,Zda.irr] at h
   exact h
  ·rw[decide_eq_false z2];refine kat_no ?_;show wpAny (model X.prog X.w) A (oneLt' false (.ref q) (.ref q')) C (fun _ _=>False) s;refine kat_one _ _ (Zk6 I hq hq' hu _ _ ?_);rw[hk] at h
   exact h
 ·rw[if_neg z] at hk
  rw[beq_false_of_ne z];refine kat_no ?_;show wpAny (model X.prog X.w) A (oneLt' true (.int x.1 t) (.int y.1 t')) C (fun _ _=>False) s;refine oneLt_int ?_;rw[hk] at h
  exact h
end
end L3
namespace L3
open PySem PySem.Spec PyProof.Rows L2 PySem.W PySem.Calls
section
variable {prog:Program} {w:World} {A:Around} {E:Value->Shared->Prop} {s:Shared} {ks vs:List Value} {ans:Nat->Nat->Bool}
def ZfN(prog:Program)(w:World)(A:Around)(κ:SortKind)(ks:List Value)(n:Nat)(ans:Nat->Nat->Bool)(s:Shared):Prop:=
 ∀i j,i<n->j<n->∀C:Bool->Shared->Prop,C (ans i j) s->wpAny (model prog w) A (keyLt' κ (ks.getD i Value.none) (ks.getD j Value.none)) C (fun _ _=>False) s
structure Zlo (ks vs:List Value) (ans:Nat->Nat->Bool) (st:SortSt):Prop where
 ex:∃p:Array Nat,Pl vs.length p/\Zhz ans p vs.length/\(arrOf st).map (·.2)=List.toArray (p.toList.map fun i=>vs.getD i Value.none)
 ok:failedOf st=none
theorem Zfg{Q:SortSt->Shared->Prop}{κ:SortKind}(o:Ord ans)(hl:ks.length=vs.length)(h2:2<=vs.length)(h64:vs.length<128)(hk:ZfN prog w A κ ks vs.length ans s)(q:∀st,Zlo ks vs ans st->Q st s):wpAny (model prog w) A ((sortRuns').run (SortSt.mk' κ (ks.toArray.zip vs.toArray) #[] 7 none)) (fun r s'=>Q r.2 s') E s:=by
 have z:(ks.toArray.zip vs.toArray).size=vs.length:=by simp[hl]
 have e:=kas_range (ks.toArray.zip vs.toArray);rw[z] at e
 have go:=Zj1 (prog:=prog) (w:=w) (A:=A) (ans:=ans) (κ:=κ) (it:=ks.toArray.zip vs.toArray) (I:=fun s'=>s'=s) (fun i j C s1 hi hj e1 hC=>by
  have e1:s1=s:=e1;subst e1;rw[<-kat_ask_eq hl];exact hk i j hi hj _ (hC _ rfl)) o h2 h64 ⟨by simp,Array.Perm.refl (List.toArray (List.range vs.length))⟩ E (fun _ st s'=>Q st s') s rfl fun _ st s' ⟨p,x,g,e2,pl,so⟩ e3=>by
   have e3:s'=s:=e3;subst e2 e3;exact q _ ⟨⟨p,pl,fun i j a b=>so i j (Nat.zero_le _) a b,kat_snds hl rfl⟩,rfl⟩
 have st:stp κ (ks.toArray.zip vs.toArray) #[] 7 (List.toArray (List.range vs.length))=SortSt.mk' κ (ks.toArray.zip vs.toArray) #[] 7 none:=congrArg (fun a=>SortSt.mk' κ a #[] 7 none) e;rw[st] at go
 exact go
theorem ZgI(o:Ord ans)(hl:ks.length=vs.length)(h2:vs.length<2)(κ:SortKind):Zlo ks vs ans (SortSt.mk' κ (ks.toArray.zip vs.toArray) #[] 7 none):=by
 refine⟨⟨List.toArray (List.range vs.length),⟨by simp,Array.Perm.refl _⟩,fun i j hij hj=> ?_, ?_⟩,rfl⟩
 ·have:i=j:=by omega
  subst this;exact o.irr _
 ·apply Array.toList_inj.mp
  show((ks.toArray.zip vs.toArray).map (·.2)).toList=_;rw[Array.toList_map,ksk_zip];show List.map (·.2) (ks.toArray.toList.zip vs)=(List.range vs.length).map fun i=>vs.getD i Value.none;have e:List.map (·.2) (ks.toArray.toList.zip vs)=vs:=List.map_snd_zip (by simp[hl]);rw[e]
  apply List.ext_getElem
  ·simp
  ·intro i h1 h3;simp[h1]
theorem Zj2{D kS:Addr}{e1:Nat}{P:PySem.Fin->Shared->Prop}(o:Ord ans)(hl:ks.length=vs.length)(h64:vs.length<128)
  (hk:2<=vs.length->wpAny (model prog w) A (keyKind' (List.toArray ks)) (fun κ s'=>s'=s/\ZfN prog w A κ ks vs.length ans s) (fun _ _=>False) s)
  (q:∀st,Zlo ks vs ans st->wpAny (model prog w) A (ksk_tail D false e1 (.ref kS) st) P E s):wpAny (model prog w) A (ksk_end D false vs.toArray e1 (.ref kS) (List.toArray ks)) P E s:=by
 unfold ksk_end
 dsimp only
 simp only [reduceIte,Bool.false_eq_true]
 by_cases h2:vs.length<2
 ·have h3:vs.toArray.size<2:=by rw[List.size_toArray];exact h2
  rw[if_pos h3,if_pos h3];exact wpAny_bind (wpAny_pure (wpAny_bind (wpAny_pure (q _ (ZgI o hl h2 _)))))
 ·have h3:¬vs.toArray.size<2:=by rw[List.size_toArray];exact h2
  rw[if_neg h3,if_neg h3];refine wpAny_bind (wpAny_mono (hk (by omega)) (fun κ s0 z=> ?_) fun _ _ x=>x.elim);obtain⟨rfl,hk⟩:=z;exact wpAny_bind (Zfg (Q:=fun st s'=>wpAny (model prog w) A (ksk_tail D false e1 (.ref kS) st) P E s') o hl (by omega) h64 hk q)
theorem ZhE{D kS:Addr}{e1 e:Nat}{out:List Value}{st:SortSt}{P:PySem.Fin->Shared->Prop}(hk:s.heap.get? kS=some (seqObj "list" (List.toArray ks) e))(hD:s.heap.get? D=some (seqObj "list" #[] e1))(ne:D≠kS)(hout:(arrOf st).map (·.2)=List.toArray out)(hz:out.length<128)(hkz:ks.length<128)(hf:failedOf st=none)
  (q:P (.done (.ret .none)) {s with heap:=(s.heap.update kS (Obj.mapSeq fun _=> #[])).update D (Obj.mapSeq fun _=>List.toArray out)}):wpAny (model prog w) A (ksk_tail D false e1 (.ref kS) st) P E s:=by
 unfold ksk_tail
 dsimp only
 simp only [reduceIte,Bool.false_eq_true];rw[hout,hf];have hD1:(s.heap.update kS (Obj.mapSeq fun _=>(#[]:Array Value))).get? D=some (seqObj "list" #[] e1):=(Heap.get?_update_other _ _ (Ne.symm ne)).trans hD;have z1:(List.toArray ks).size<=sizeLine:=by rw[List.size_toArray,sizeLine_eq];omega
 have z2:(List.toArray out).size<=sizeLine+1:=by rw[List.size_toArray,sizeLine_eq];omega
 refine wpAny_bind (listUpdate_at hk rfl (wpAny_bind (wpAny_letGo (wpAny_bind (seqEpoch_at hD1 rfl (wpAny_bind (listUpdate_at hD1 rfl ?_ (Nat.zero_le _) z2)))))) z1 (Nat.zero_le _));simp only [reduceIte,bne_self_eq_false,Bool.false_eq_true];exact wpAny_pure q
end
section
variable {X:Cx} {pins:List (Addr×Obj)} {σ:L2.St} {H:Hp} {s:Shared}
structure Zel (X:Cx) (a:Addr):Prop where
 new:X.s₀.heap.objs.size<=a
 cells:∀x c,X.env.cells.lookup x=some c->c≠a
 pn:∀p∈X.pn,p.1≠a
theorem ZdZ(I:L2.Inv X pins σ H s){a:Addr}(h:s.heap.objs.size<=a):Zel X a:=by
 refine⟨Nat.le_trans I.sz h,fun x c e z=> ?_,fun p hp z=> ?_⟩
 ·obtain⟨v,o,e1,_⟩:=I.cell x c e;exact absurd (z▸Heap.lt_size e1) (Nat.not_lt.mpr h)
 ·exact absurd (z▸Heap.lt_size (I.pin p (List.mem_append_left _ hp)).1) (Nat.not_lt.mpr h)
theorem ZbJ{ps:List (Addr×Obj)}{a:Addr}{o o':Obj}{h':Heap}(I:L2.Inv X ((a,o)::ps) σ H s)(l:Zel X a)(n:∀p∈ps,p.1≠a)(k:∀b u,b≠a->s.heap.get? b=some u->h'.get? b=some u)(e:h'.get? a=some o')(nc:∀v,o'.data≠.cell v):L2.Inv X ((a,o')::ps) σ H {s with heap:=h'}:=by
 have pa:=I.pin (a,o) (List.mem_append_right _ (.head _));have I1:L2.Inv X ps σ H s:=I.pins_of fun p hp=>I.pin p (List.mem_append_right _ (.tail _ hp));have I2:L2.Inv X ps σ H {s with heap:=h'}:=I1.turned (it:=a) (t':=s.toks) k pa.2.1 pa.2.2.1 (.inr l.new) l.cells fun p hp=>(List.mem_append.mp hp).elim (l.pn p) (n p);refine I2.pins_of fun p hp=> ?_;rcases List.mem_cons.mp hp with rfl|hp
 ·exact⟨e,pa.2.1,pa.2.2.1,pa.2.2.2.1,nc⟩
 ·exact I2.pin p (List.mem_append_right _ hp)
theorem Yv{h:Heap}{a:Addr}{f:Array Value->Array Value}:∀b u,b≠a->h.get? b=some u->(h.update a (Obj.mapSeq f)).get? b=some u:=fun b u n e=>(Heap.get?_update_other _ _ (Ne.symm n)).trans e
theorem YS{c:String}{xs:Array Value}{n:Nat}:∀v,(seqObj c xs n).data≠.cell v:=fun _ z=>nomatch z
def kys(sp:Sp):List V->List V->Hp->(List V->Hp->Prop)->Prop
 |[],ks,H,R=>R ks H
 |x::r,ks,H,R=>sp [x] H (fun k H2=>kys sp r (ks++[k]) H2 R) fun _ _ _=>False
variable {k:Nat} {g:Addr} {fd:FuncData} {p:Str} {sp:Sp}
theorem Zk8(F:YD X.prog X.w X.K X.mg X.base CX0 k g fd [p] sp)(hb:JL X.K fd [p] [])(hr:Xc (k+2) X.A)(I:L2.Inv X pins σ H s){x:V}{u:Value}(r:ZR x u){Q:VK}(h:sp [x] H Q fun _ _ _=>False):
  wpAny (model X.prog X.w) X.A.in1.in1 (call (.ref g) [u]) (EP X pins σ Q) (fun _ _=>False) s:=by
 have bd:=hb s [u] I.kIn rfl;rw[List.append_nil] at bd
 refine wpAny_call (codeAny_mono (F.run X.A.in1.in1 X.stack s H ⟨[u],[]⟩ [u] [x] Q _ hr.in1.in1 I.env0.in1.in1 bd (.cons r .nil) h) fun r s2 z=> ?_);cases r with
 |ok fl=>
  cases fl with
  |ret u=>exact I.after z
  |next=>exact False.elim z
  |brk=>exact False.elim z
  |cont=>exact False.elim z
 |error ev=>exact False.elim z
theorem Zfh{E:Value->Shared->Prop}{D kS:Addr}{oD:Obj}{R:List V->Hp->Prop}{body:Value->PUnit->Sem (ForInStep PUnit)}
  (hb:∀(x:V) (u:Value) (ks:List Value) (e:Nat) (s:Shared) (H:Hp) (Q:VK),ks.length<128->L2.Inv X ((kS,seqObj "list" (List.toArray ks) e)::(D,oD)::pins) σ H s->ZR x u->sp [x] H Q (fun _ _ _=>False)->
   wpAny (model X.prog X.w) X.A.in1.in1 (body u ⟨⟩) (fun r s'=>r=.yield ⟨⟩/\∃v kv e' H',L2.Inv X ((kS,seqObj "list" (List.toArray (ks++[kv])) e')::(D,oD)::pins) σ H' s'/\ZR v kv/\Q v H') E s):
  ∀(r:List Value) (xr:List V) (ks:List Value) (kx:List V) (e:Nat) (s:Shared) (H:Hp),ks.length+r.length<128->L2.Inv X ((kS,seqObj "list" (List.toArray ks) e)::(D,oD)::pins) σ H s->ZW xr r->ZW kx ks->kys sp xr kx H R->
   wpAny (model X.prog X.w) X.A.in1.in1 (forIn r PUnit.unit body) (fun _ s'=>∃ks' kx' e' H',L2.Inv X ((kS,seqObj "list" (List.toArray ks') e')::(D,oD)::pins) σ H' s'/\ZW kx' ks'/\ks'.length=ks.length+r.length/\R kx' H') E s
 |[],xr,ks,kx,e,s,H,hl,I,rx,rk,h=>by
  cases rx;rw[List.forIn_nil];exact wpAny_pure ⟨ks,kx,e,H,I,rk,rfl,h⟩
 |u::r,xr,ks,kx,e,s,H,hl,I,rx,rk,h=>by
  cases rx with
  |cons ru rx=>
   rw[List.length_cons] at hl
   rw[List.forIn_cons];refine wpAny_bind (wpAny_mono (hb _ u ks e s H _ (by omega) I ru h) (fun q s' z=> ?_) fun _ _ x=>x);obtain⟨rfl,v,kv,e',H',I',rv,q'⟩:=z;have l2:(ks++[kv]).length=ks.length+1:=by rw[List.length_append];rfl
   refine wpAny_mono (Zfh hb r _ (ks++[kv]) (kx++[v]) e' s' H' (by omega) I' rx (ZW.append rk (.cons rv .nil)) q') (fun _ s2 z=> ?_) fun _ _ x=>x;obtain⟨ks',kx',e2,H2,I2,r2,l3,q2⟩:=z;exact⟨ks',kx',e2,H2,I2,r2,by rw[l3,l2,List.length_cons];omega,q2⟩
theorem ZhF{E:Value->Shared->Prop}{D kS:Addr}{e1:Nat}{xs:List V}{vs:List Value}{R:List V->Hp->Prop}{P:PySem.Fin->Shared->Prop}(F:YD X.prog X.w X.K X.mg X.base CX0 k g fd [p] sp)(hb:JL X.K fd [p] [])(hr:Xc (k+2) X.A)(lk:Zel X kS)(nD:D≠kS)(np:∀p∈pins,p.1≠kS)
  (I:L2.Inv X ((kS,seqObj "list" #[] 0)::(D,seqObj "list" #[] e1)::pins) σ H s)(rx:ZW xs vs)(h64:vs.length<128)(h:kys sp xs [] H R)
  (q:∀ks kx e H' s',L2.Inv X ((kS,seqObj "list" (List.toArray ks) e)::(D,seqObj "list" #[] e1)::pins) σ H' s'->ZW kx ks->ks.length=vs.length->R kx H'->wpAny (model X.prog X.w) X.A.in1.in1 (ksk_end D false vs.toArray e1 (.ref kS) (List.toArray ks)) P E s'):
  wpAny (model X.prog X.w) X.A.in1.in1 (ksk_rest D (.ref g) false vs.toArray e1 (.ref kS)) P E s:=by
 unfold ksk_rest;refine wpAny_bind (wpAny_rule ?_);rw[List.forIn_toArray];refine wpAny_bind (wpAny_mono (Zfh (sp:=sp) (R:=R) (fun x u ks e s H Q hz I ru hs=> ?_) vs xs [] [] 0 s H (by simpa using h64) I rx .nil h) (fun _ s' z=> ?_) fun _ _ x=>x)
 ·refine wpAny_bind (wpAny_attempt (wpAny_mono (Zk8 F hb hr I ru hs) (fun kv s2 z=> ?_) fun _ _ x=>x.elim));obtain⟨v,H2,I2,rv,q2⟩:=z;have pk:=(I2.pin (kS,seqObj "list" (List.toArray ks) e) (List.mem_append_right _ (.head _))).1;have ea:(List.toArray ks).push kv=List.toArray (ks++[kv]):=by simp
  have up:=get?_update_seq pk (·.push kv);rw[ea] at up
  dsimp only
  refine wpAny_bind (listUpdate_at pk rfl ?_ (by rw[List.size_toArray,sizeLine_eq];omega) (Nat.le_trans (Nat.le_of_eq (Array.size_push ..)) (by rw[List.size_toArray,sizeLine_eq];omega)))
  refine wpAny_pure ⟨rfl,v,kv,_,H2,ZbJ I2 lk (fun p hp=> ?_) Yv up YS,rv,q2⟩;rcases List.mem_cons.mp hp with rfl|hp
  ·exact nD
  ·exact np p hp
 ·obtain⟨ks,kx,e,H2,I2,rk,l,r2⟩:=z;have pk:=(I2.pin (kS,seqObj "list" (List.toArray ks) e) (List.mem_append_right _ (.head _))).1
  try dsimp only
  refine wpAny_bind (listItems_at pk rfl ?_);exact q ks kx e H2 s' I2 rk (by simpa using l) r2
theorem Zik{K:PySem.W.Frag}:∀{kk:List Ky} {kx:List V} {ks:List Value} (_:Paired (fun y x=>Rep K H (kyD y) x) kk kx) (_:ZW kx ks) (i:Nat),i<ks.length->∃x,Rep K H (kyD (kk.getD i (0,[]))) x/\ZR x (ks.getD i Value.none)
 |_,_,_,.nil,.nil,i,h=>absurd h (Nat.not_lt_zero _)
 |_,_,_,.cons r _,.cons v _,0,_=>⟨_,r,v⟩
 |_,_,_,.cons _ t,.cons _ vt,i+1,h=>by
  obtain⟨x,a,b⟩:=Zik t vt i (by simpa using h);exact⟨x,a,b⟩
theorem Zfi(I:L2.Inv X pins σ H s):∀{kk:List Ky} {kx:List V} {ks:List Value} (_:Paired (fun y x=>Rep X.K H (kyD y) x) kk kx) (_:ZW kx ks),∃fs,KatTups s.heap ks fs/\fs.length=ks.length/\∀v∈fs,∃n t,v=Value.int n t
 |_,_,_,.nil,.nil=>⟨[],.nil,rfl,fun v hv=>nomatch hv⟩
 |_,_,_,.cons (a:=y) r t,.cons v vt=>by
  obtain⟨fs,a,b,c⟩:=Zfi I t vt;obtain⟨p,q,rfl,hp,hq⟩:=Zek r;obtain⟨tk,o,n,e1,e2,e3⟩:=Zk7 I hp;cases v;refine⟨.int y.1 tk::fs,.cons e1 e2 e3 rfl a,by rw[List.length_cons,List.length_cons,b],fun w hw=> ?_⟩;rcases List.mem_cons.mp hw with rfl|hw
  ·exact⟨_,_,rfl⟩
  ·exact c w hw
theorem ZfO:∀{xs:List V} {vs:List Value} (_:ZW xs vs) (i:Nat),i<vs.length->ZR (xs.getD i .non) (vs.getD i Value.none)
 |_,_,.nil,i,h=>absurd h (Nat.not_lt_zero _)
 |_,_,.cons v _,0,_=>v
 |_,_,.cons _ t,i+1,h=>ZfO t i (by simpa using h)
theorem Zlp{xs:List V}{vs:List Value}(r:ZW xs vs){p:Array Nat}(pl:Pl vs.length p):ZW (p.toList.map fun i=>xs.getD i .non) (p.toList.map fun i=>vs.getD i Value.none):=by
 have mem:∀i∈p.toList,i<vs.length:=fun i hi=>by
  have:=(Array.perm_iff_toList_perm.mp pl.perm).mem_iff (a:=i)
  simpa using this.mp hi
 have go:∀l:List Nat,(∀i∈l,i<vs.length)->ZW (l.map fun i=>xs.getD i .non) (l.map fun i=>vs.getD i Value.none):=by
  intro l
  induction l with
  |nil=>exact fun _=> .nil
  |cons i l ih=>exact fun h=> .cons (ZfO r i (h i (.head _))) (ih fun j hj=>h j (.tail _ hj))
 exact go _ mem
theorem Zlq{α β:Type}{xs:List α}{ks:List β}{a:α}{b:β}(hl:xs.length=ks.length){p:Array Nat}(pl:Pl xs.length p):(p.toList.map fun i=>(xs.getD i a,ks.getD i b)).Perm (xs.zip ks):=by
 have e:(List.range xs.length).map (fun i=>(xs.getD i a,ks.getD i b))=xs.zip ks:=by
  apply List.ext_getElem
  ·simp[hl]
  ·intro i h1 h2;have h3:i<xs.length:=by simpa using h1
   have h4:i<ks.length:=by omega
   simp[h3,h4]
 rw[<-e];refine List.Perm.map _ ?_
 simpa using Array.perm_iff_toList_perm.mp pl.perm
theorem Zil{α β:Type}{lt:β->β->Bool}{f:Nat->α}{kk:Nat->β}{n:Nat}{p:Array Nat}(so:Zhz (fun i j=>lt (kk i) (kk j)) p n)(pl:Pl n p):(p.toList.map fun i=>(f i,kk i)).Pairwise (fun a b=>lt b.2 a.2=false):=by
 rw[List.pairwise_map,List.pairwise_iff_getElem];intro i j hi hj hij;have sz:p.toList.length=n:=by rw[Array.length_toList,pl.size]
 have h:=so i j (Nat.le_of_lt hij) (by omega);have e:∀m (hm:m<p.toList.length),at_ p m=p.toList[m]:=fun m hm=>by
  have hm':m<p.size:=by simpa using hm
  simp[at_,Array.getD,hm']
 rw[e i hi,e j hj] at h
 exact h
theorem ZfP{E:Value->Shared->Prop}{l:Addr}{xs:List V}{Q:VK}(F:YD X.prog X.w X.K X.mg X.base CX0 k g fd [p] sp)(hb:JL X.K fd [p] [])(hr:Xc (k+2) X.A)(I:L2.Inv X pins σ H s)(hq:SqL X.K H l xs)(h64:xs.length<128)
  (h:kys sp xs [] H fun kx H2=>∃kk:List Ky,Paired (fun y x=>Rep X.K H2 (kyD y) x) kk kx/\∀zs:List (V×Ky),zs.Perm (xs.zip kk)->zs.Pairwise (fun a b=>ZcB b.2 a.2=false)->∀D,H2 D=none->Q (.ref D) (upd H2 D (.lst (zs.map (·.1))))):
  wpAny (model X.prog X.w) X.A (call (.builtin "sorted") [.ref l] [(Str.ofString "key",.ref g)]) (EP X pins σ Q) E s:=by
 obtain⟨vs,rx,pl,_⟩:=I.list hq;have hn:vs.length<128:=by rw[<-rx.length];exact h64
 have hz:vs.length<=sizeLine:=by rw[sizeLine_eq];omega
 refine call_function_entry_kw kind_sorted plain_sorted entry_sorted (ksk_s1 _ _) ?_;unfold Builtin.«sorted»;refine wpAny_bind (m:=checkCount "sorted" 1 1 _) (wpAny_pure (wpAny_bind (collect_list pl.isList (wpAny_bind (wpAny_newList ?_ hz)) hz)));have sz1:((s.heap.push (seqObj "list" #[] 0)).update s.heap.objs.size (Obj.mapSeq (· ++vs.toArray))).objs.size=s.heap.objs.size+1:=by rw[Heap.size_update,size_push']
 generalize hh1:(s.heap.push (seqObj "list" #[] 0)).update s.heap.objs.size (Obj.mapSeq (· ++vs.toArray))=h1 at sz1
 have k1:∀b u,s.heap.get? b=some u->h1.get? b=some u:=fun b u e=>by
  have hlt:=Heap.lt_size e;rw[<-hh1];exact Yv b u (Nat.ne_of_lt hlt) (Heap.get?_push_of_some _ e)
 generalize hD:h1.objs.size=D at sz1
 have oD:(h1.push (seqObj "list" vs.toArray 0)).get? D=some (seqObj "list" vs.toArray 0):=by rw[<-hD];exact Heap.get?_push_size _ rfl
 refine wpAny_bind (wpAny_holding (wpAny_call_entry_kw slot_list_sort ⟨_,oD,rfl⟩ entry_list_sort ?body (ksk_l1 _ _)));show wpAny (model X.prog X.w) X.A.in1.in1 (Builtin.«list.sort» ⟨[.ref D],[(Str.ofString "key",.ref g)]⟩) _ _ _;rw[ksk_t1];unfold ksk_tree;obtain⟨e1,oD1⟩:∃e1,((h1.push (seqObj "list" vs.toArray 0)).update D (Obj.mapSeq fun _=>(#[]:Array Value))).get? D=some (seqObj "list" #[] e1):=⟨_,get?_update_seq oD fun _=> #[]⟩
 have za:vs.toArray.size<=sizeLine:=by rw[List.size_toArray];exact hz
 refine wpAny_bind (listItems_at oD rfl (wpAny_bind (listUpdate_at oD rfl (wpAny_bind (seqEpoch_at oD1 rfl (wpAny_bind (wpAny_newTuple (wpAny_bind (wpAny_newList (wpAny_holding ?_) (Nat.zero_le _))) hz)))) za (Nat.zero_le _))));have sz2:(((h1.push (seqObj "list" vs.toArray 0)).update D (Obj.mapSeq fun _=>(#[]:Array Value))).push (seqObj "tuple" vs.toArray 0)).objs.size=D+2:=by rw[size_push',Heap.size_update,size_push',hD]
 have k2:∀b u,s.heap.get? b=some u->((((h1.push (seqObj "list" vs.toArray 0)).update D (Obj.mapSeq fun _=>(#[]:Array Value))).push (seqObj "tuple" vs.toArray 0)).push (seqObj "list" #[] 0)).get? b=some u:=fun b u e=>by
  have hlt:=Heap.lt_size e;exact Heap.get?_push_of_some _ (Heap.get?_push_of_some _ (Yv b u (Nat.ne_of_lt (Nat.lt_of_lt_of_le hlt (by omega))) (Heap.get?_push_of_some _ (k1 b u e))))
 have I0:L2.Inv X pins σ H {s with heap:=(((h1.push (seqObj "list" vs.toArray 0)).update D (Obj.mapSeq fun _=>(#[]:Array Value))).push (seqObj "tuple" vs.toArray 0)).push (seqObj "list" #[] 0)}:=I.kept (t':=s.toks) k2;have oK:((((h1.push (seqObj "list" vs.toArray 0)).update D (Obj.mapSeq fun _=>(#[]:Array Value))).push (seqObj "tuple" vs.toArray 0)).push (seqObj "list" #[] 0)).get? (D+2)=some (seqObj "list" #[] 0):=by rw[<-sz2];exact Heap.get?_push_size _ rfl
 have oD2:((((h1.push (seqObj "list" vs.toArray 0)).update D (Obj.mapSeq fun _=>(#[]:Array Value))).push (seqObj "tuple" vs.toArray 0)).push (seqObj "list" #[] 0)).get? D=some (seqObj "list" #[] e1):=Heap.get?_push_of_some _ (Heap.get?_push_of_some _ oD1);have fresh:∀a,s.heap.objs.size<=a->H a=none/\a≠X.env.locals/\a∉X.fs:=fun a ha=>⟨I.hok.fresh ha,fun z=>absurd (z▸ha) (Nat.not_le.mpr I.lt),I.nofs ha⟩
 have lK:Zel X (D+2):=ZdZ I (by omega);have lD:Zel X D:=ZdZ I (by omega);have old:∀p∈pins,p.1<s.heap.objs.size:=fun p hp=>Heap.lt_size (I.pin p (List.mem_append_right _ hp)).1;have I2:L2.Inv X ((D+2,seqObj "list" #[] 0)::(D,seqObj "list" #[] e1)::pins) σ H {s with heap:=(((h1.push (seqObj "list" vs.toArray 0)).update D (Obj.mapSeq fun _=>(#[]:Array Value))).push (seqObj "tuple" vs.toArray 0)).push (seqObj "list" #[] 0)}:=I0.pins_of fun p hp=>by
  rcases List.mem_cons.mp hp with rfl|hp
  ·exact⟨oK,(fresh _ (by omega)).1,(fresh _ (by omega)).2.1,(fresh _ (by omega)).2.2,YS⟩
  ·obtain rfl|hp:=List.mem_cons.mp hp
   ·exact⟨oD2,(fresh _ (by omega)).1,(fresh _ (by omega)).2.1,(fresh _ (by omega)).2.2,YS⟩
   ·exact I0.pin p (List.mem_append_right _ hp)
 dsimp only
 rw[sz2];have nD:D≠D+2:=Nat.ne_of_lt (Nat.lt_add_of_pos_right (by decide));refine ZhF F hb hr lK nD (fun p hp=>Nat.ne_of_lt (Nat.lt_of_lt_of_le (old p hp) (by omega))) I2 rx hn h fun ks kx e H3 s3 I3 rk lk ⟨kk,rp,q⟩=> ?_;have u5:X.A.in1.in1.units+5<cLine:=by
  have:=hr.units;show X.A.units+1+1+5<cLine;omega
 have lkk:kk.length=vs.length:=by rw[<-lk,<-rk.length];exact Paired.length rp
 have pk:=(I3.pin (D+2,seqObj "list" (List.toArray ks) e) (List.mem_append_right _ (.head _))).1;have pD:=I3.pin (D,seqObj "list" #[] e1) (List.mem_append_right _ (.tail _ (.head _)));have at1:∀i,i<vs.length->∃x v,ZR x (ks.getD i Value.none)/\Rep X.K H3 (kyD (kk.getD i (0,[]))) x/\v=ks.getD i Value.none:=fun i hi=>by
  obtain⟨x,r1,r2⟩:=Zik rp rk i (by omega);exact⟨x,_,r2,r1,rfl⟩
 refine Zj2 (ans:=fun i j=>ZcB (kk.getD i (0,[])) (kk.getD j (0,[]))) (ZcC.ord _) lk hn (fun h2=> ?_) fun st dn=> ?_
 ·obtain⟨fs,t1,t2,t3⟩:=Zfi I3 rp rk;refine kat_kind (T:=.type "int") t1 (by omega) (fun v hv=> ?_) rfl ⟨rfl,fun i j hi hj C hC=> ?_⟩
  ·obtain⟨n,t,rfl⟩:=t3 v hv;exact Looks.of_pure rfl
  ·obtain⟨x,_,r1,r2,_⟩:=at1 i hi;obtain⟨y,_,r3,r4,_⟩:=at1 j hj;exact ZmB I3 r2 r4 r1 r3 u5 hC
 ·obtain⟨⟨pp,pl2,so,ho⟩,hf⟩:=dn;have lout:(pp.toList.map fun i=>vs.getD i Value.none).length=vs.length:=by rw[List.length_map,Array.length_toList,pl2.size]
  refine ZhE pk pD.1 nD ho (by omega) (by omega) hf ⟨_,rfl,wpAny_pure ⟨_,rfl, ?_⟩⟩;have J1:=ZbJ I3 lK (fun p hp=> ?n1) Yv (get?_update_seq pk fun _=> #[]) YS;have J2:L2.Inv X ((D,seqObj "list" #[] e1)::pins) σ H3 {s3 with heap:=s3.heap.update (D+2) (Obj.mapSeq fun _=> #[])}:=J1.pins_of fun p hp=>J1.pin p (List.mem_append_right _ (.tail _ hp));have pD2:=(J2.pin (D,seqObj "list" #[] e1) (List.mem_append_right _ (.head _))).1
  have up:=get?_update_seq pD2 fun _=>List.toArray (pp.toList.map fun i=>vs.getD i Value.none);have J3:=ZbJ J2 lD (fun p hp=>Nat.ne_of_lt (Nat.lt_of_lt_of_le (old p hp) (by omega))) Yv up YS;have J4:L2.Inv X pins σ H3 {s3 with heap:=(s3.heap.update (D+2) (Obj.mapSeq fun _=> #[])).update D (Obj.mapSeq fun _=>List.toArray (pp.toList.map fun i=>vs.getD i Value.none))}:=J3.pins_of fun p hp=>J3.pin p (List.mem_append_right _ (.tail _ hp))
  have rv:=Zlp rx pl2;have J5:=Za0 (n:=D) (q:=.lst (pp.toList.map fun i=>xs.getD i .non)) I J4 pD.2.1 (by
   cases z:s.heap.get? D with
   |none=>rfl
   |some o=>exact absurd (Heap.lt_size z) (Nat.not_lt.mpr (by omega))) ⟨by rw[rv.length,lout];exact hz,_,_,rv,up⟩
  refine⟨.ref D,_,J5,rfl, ?_⟩;have fin:=q (pp.toList.map fun i=>(xs.getD i .non,kk.getD i (0,[]))) (Zlq (by rw[rx.length,lkk]) (by rw[rx.length];exact pl2)) (Zil so pl2) D pD.2.1
  rw[List.map_map] at fin
  exact fin
  case n1=>
   rcases List.mem_cons.mp hp with rfl|hp
   ·exact nD
   ·exact Nat.ne_of_lt (Nat.lt_of_lt_of_le (old p hp) (by omega))
end
end L3
namespace L3
open PySem PySem.Spec PyProof.Rows L2 PySem.W PySem.Calls
section
variable {prog:Program} {w:World} {A:Around} {E:Value->Shared->Prop} {s:Shared} {vs:List Value} {ans:Nat->Nat->Bool}
abbrev ZaP(h:Heap)(D:Addr)(vs:List Value):Heap:=((h.update D (Obj.mapSeq fun _=>(#[]:Array Value))).push (seqObj "tuple" vs.toArray 0)).push (seqObj "list" #[] 0)
theorem ZhG{D:Addr}{n:Nat}{P:PySem.Fin->Shared->Prop}(ho:s.heap.get? D=some (seqObj "list" vs.toArray n))(h64:vs.length<128)(o:Ord ans)
  (hk:2<=vs.length->wpAny (model prog w) A (keyKind' vs.toArray) (fun κ s'=>s'={s with heap:=ZaP s.heap D vs}/\ZfN prog w A κ vs vs.length ans {s with heap:=ZaP s.heap D vs}) (fun _ _=>False) {s with heap:=ZaP s.heap D vs})
  (q:∀p:Array Nat,Pl vs.length p->Zhz ans p vs.length->P (.done (.ret .none)) {s with heap:=sortedHeap s.heap D vs (List.toArray (p.toList.map fun i=>vs.getD i Value.none))}):wpAny (model prog w) A (Builtin.«list.sort» ⟨[.ref D],[]⟩) P E s:=by
 have hz:vs.length<=sizeLine:=by rw[sizeLine_eq];omega
 have za:vs.toArray.size<=sizeLine:=by rw[List.size_toArray];exact hz
 obtain⟨e1,o1⟩:∃e1,(s.heap.update D (Obj.mapSeq fun _=>(#[]:Array Value))).get? D=some (seqObj "list" #[] e1):=⟨_,get?_update_seq ho fun _=> #[]⟩
 have o2:(ZaP s.heap D vs).get? D=some (seqObj "list" #[] e1):=Heap.get?_push_of_some _ (Heap.get?_push_of_some _ o1);rw[list_sort_plain];refine wpAny_bind (listItems_at ho rfl (wpAny_bind (listUpdate_at ho rfl (wpAny_bind (seqEpoch_at o1 rfl (wpAny_bind (wpAny_newTuple (wpAny_bind (wpAny_newList (wpAny_holding ?_) (Nat.zero_le _))) hz)))) za (Nat.zero_le _))));have zp:∀p:Array Nat,Pl vs.length p->(List.toArray (p.toList.map fun i=>vs.getD i Value.none)).size<=sizeLine+1:=fun p pl=>by rw[List.size_toArray,List.length_map,Array.length_toList,pl.size,sizeLine_eq];omega
 dsimp only
 by_cases h2:vs.length<2
 ·have h3:vs.toArray.size<2:=by rw[List.size_toArray];exact h2
  rw[if_pos h3,if_pos h3];refine wpAny_bind (wpAny_pure ?_);refine wpAny_bind (wpAny_pure ?_);obtain⟨⟨p,pl,so,hout⟩,_⟩:=ZgI (ks:=vs) o rfl h2 general'
  try dsimp only
  rw[hout];refine wpAny_bind (seqEpoch_at o2 rfl (wpAny_bind (listUpdate_at o2 rfl ?_ (Nat.zero_le _) (zp p pl))));simp only [reduceIte,bne_self_eq_false,Bool.false_eq_true];exact wpAny_pure (q p pl so)
 ·have h3:¬vs.toArray.size<2:=by rw[List.size_toArray];exact h2
  rw[if_neg h3,if_neg h3];refine wpAny_bind (wpAny_mono (hk (by omega)) (fun κ s0 z=> ?_) fun _ _ x=>x.elim);obtain⟨rfl,ak⟩:=z;refine wpAny_bind (wpAny_mono (Zfg (Q:=fun st s'=>Zlo vs vs ans st/\s'={s with heap:=ZaP s.heap D vs}) o rfl (by omega) h64 ak fun st dn=>⟨dn,rfl⟩) (fun r s' z=> ?_) fun _ _ x=>x);obtain⟨⟨⟩,st⟩:=r;obtain⟨⟨⟨p,pl,so,hout⟩,hf⟩,rfl⟩:=z
  try dsimp only
  rw[hout,hf];refine wpAny_bind (seqEpoch_at o2 rfl (wpAny_bind (listUpdate_at o2 rfl ?_ (Nat.zero_le _) (zp p pl))));simp only [reduceIte,bne_self_eq_false,Bool.false_eq_true];exact wpAny_pure (q p pl so)
end
section
variable {X:Cx} {pins:List (Addr×Obj)} {σ:L2.St} {H:Hp} {s:Shared}
theorem ZgJ{h:Heap}{D:Addr}{vs:List Value}:∀b u,b≠D->h.get? b=some u->(ZaP h D vs).get? b=some u:=fun b u n e=>Heap.get?_push_of_some _ (Heap.get?_push_of_some _ (Yv b u n e))
theorem Zfj{s':Shared}(I0:L2.Inv X pins σ H s):∀(l:List (Addr×List V)) (H1:Hp),L2.Inv X pins σ H1 s'->(l.map (·.1)).Nodup->(∀a∈l,H1 a.1=none/\s.heap.get? a.1=none/\a.2.length<=sizeLine/\∃its,ZW a.2 its/\IsTup s'.heap a.1 its.toArray)->
  ∃H2,L2.Inv X pins σ H2 s'/\ZK H1 H2/\(∀a∈l,H2 a.1=some (.tup a.2))/\∀b,b∉l.map (·.1)->H2 b=H1 b
 |[],H1,I,_,_=>⟨H1,I,ZK.refl H1,(fun a h=>nomatch h),fun _ _=>rfl⟩
 |a::l,H1,I,nd,h=>by
  rw[List.map_cons,List.nodup_cons] at nd
  obtain⟨n1,n2,z,its,rv,tp⟩:=h a (List.mem_cons_self ..);have I1:=Za0 (n:=a.1) (q:=.tup a.2) I0 I n1 n2 ⟨z,its,rv,tp⟩;have nm:∀b∈l,b.1≠a.1:=fun b hb e=>nd.1 (List.mem_map.mpr ⟨b,hb,e⟩);obtain⟨H2,I2,s2,al,ot⟩:=Zfj I0 l _ I1 nd.2 fun b hb=>by
   obtain⟨m1,m2,m3⟩:=h b (List.mem_cons_of_mem _ hb);exact⟨by rw[Zf (nm b hb)];exact m1,m2,m3⟩
  refine⟨H2,I2,fun b u e=>s2 b u (by rw[Zf (Zk e n1)];exact e),fun b hb=> ?_,fun b hb=> ?_⟩
  ·obtain rfl|hb:=List.mem_cons.mp hb
   ·exact s2 _ _ Zd
   ·exact al b hb
  ·rw[List.map_cons] at hb
   rw[ot b fun z=>hb (List.mem_cons_of_mem _ z),Zf fun e=>hb (by rw[e];exact List.mem_cons_self ..)]
end
end L3
namespace L3
open PySem PySem.Spec PyProof.Rows L2 PySem.W PySem.Calls
theorem Zlr{prog:Program}{w:World}{A:Around}{s:Shared}{x y:Lf}{a b:Addr}{t t' u u':Tok}(ha:s.heap.IsTuple a #[.str x.1 t,.int x.2 u])(hb:s.heap.IsTuple b #[.str y.1 t',.int y.2 u']){C:Bool->Shared->Prop}(h:C (Zbg x y) s):
  wpAny (model prog w) A (keyLt' (tuples' true) (.ref a) (.ref b)) C (fun _ _=>False) s:=by
 obtain⟨o,e1,c1,n,e3⟩:=ha;obtain⟨o',f1,c2,n',f3⟩:=hb;have hk:Zbg x y=if x.1=y.1 then Za2 x.2 y.2 else Zbf x.1 y.1:=rfl;refine kat_lt e1 e3 f1 f3 ?_;show KatLex prog w A true false C [(.str x.1 t,.str y.1 t'),(.int x.2 u,.int y.2 u')] 0 s;refine kat_cons (wpAny_eqBool_str ?_)
 by_cases z:x.1=y.1
 ·rw[if_pos z] at hk
  rw[decide_eq_true z];refine kat_yes (kat_cons (wpAny_eqBool_int ?_))
  by_cases z2:x.2=y.2
  ·rw[z2,beq_self_eq_true];refine kat_yes (kat_nil ?_);rw[hk,z2,ZbF.irr] at h
   exact h
  ·rw[beq_false_of_ne z2];refine kat_no ?_;show wpAny (model prog w) A (oneLt' false (.int x.2 u) (.int y.2 u')) C (fun _ _=>False) s;refine kat_one _ _ (PyProof.Rows.lt_int ?_);rw[hk] at h
   exact h
 ·rw[if_neg z] at hk
  rw[decide_eq_false z];refine kat_no ?_;show wpAny (model prog w) A (oneLt' true (.str x.1 t) (.str y.1 t')) C (fun _ _=>False) s;refine oneLt_str ?_;rw[hk] at h
  exact h
def JM(h:Heap):List Addr->List Lf->Prop:=Paired fun a x=>∃t u,h.IsTuple a #[.str x.1 t,.int x.2 u]
theorem ZgK{h:Heap}:∀{as:List Addr} {c:List Lf},as.length=c.length->(∀(j:Nat) (a:Addr),as[j]? =some a->∃(x:Lf) (t u:Tok),c[j]? =some x/\h.IsTuple a #[.str x.1 t,.int x.2 u])->JM h as c
 |[],[],_,_=> .nil
 |[],_::_,e,_=>nomatch e
 |_::_,[],e,_=>nomatch e
 |a::as,x::c,e,k=>by
  obtain⟨y,t,u,e1,q⟩:=k 0 a rfl;cases e1;exact .cons ⟨t,u,q⟩ (ZgK (by simpa using e) fun j b f=>k (j+1) b (by simpa using f))
theorem JM.at{h:Heap}:∀{as:List Addr} {c:List Lf},JM h as c->∀i,i<as.length->∃t u,h.IsTuple (as.getD i 0) #[.str (c.getD i (Str.empty,0)).1 t,.int (c.getD i (Str.empty,0)).2 u]
 |_,_,.nil,i,hi=>absurd hi (Nat.not_lt_zero _)
 |_,_,.cons r _,0,_=>r
 |_,_,.cons _ t,i+1,hi=>JM.at t i (by simpa using hi)
theorem JM.mono{h h':Heap}:∀{as:List Addr} {c:List Lf},JM h as c->(∀a∈as,∀o,h.get? a=some o->h'.get? a=some o)->JM h' as c
 |_,_,.nil,_=> .nil
 |_,_,.cons ⟨t,u,o,e,r⟩ k,f=> .cons ⟨t,u,o,f _ (List.mem_cons_self ..) o e,r⟩ (JM.mono k fun a ha=>f a (List.mem_cons_of_mem _ ha))
theorem JM.tups{h:Heap}:∀{as:List Addr} {c:List Lf},JM h as c->∃fs,KatTups h (as.map Value.ref) fs/\fs.length=as.length/\∀v∈fs,∃x t,v=Value.str x t
 |_,_,.nil=>⟨[],.nil,rfl,fun v hv=>nomatch hv⟩
 |_,_,.cons ⟨t,u,o,e,c,n,d⟩ k=>by
  obtain⟨fs,a,b,z⟩:=JM.tups k;refine⟨_::fs,.cons e c d rfl a,by rw[List.length_cons,List.length_cons,b],fun w hw=> ?_⟩;rcases List.mem_cons.mp hw with rfl|hw
  ·exact⟨_,_,rfl⟩
  ·exact z w hw
theorem JM.each{h:Heap}:∀{as:List Addr} {c:List Lf},JM h as c->∀p∈(as.zip c).map (fun p=>(p.1,[V.str p.2.1,V.int p.2.2])),p.1∈as/\p.2.length<=sizeLine/\∃its,ZW p.2 its/\IsTup h p.1 its.toArray
 |_,_,.nil,p,hp=>by cases hp
 |_,_,.cons ⟨t,u,q⟩ k,p,hp=>by
  rw[List.zip_cons_cons,List.map_cons] at hp
  rcases List.mem_cons.mp hp with rfl|hp
  ·exact⟨List.mem_cons_self ..,by show 2<=sizeLine;rw[sizeLine_eq];decide,[_,_],.cons ⟨t,rfl⟩ (.cons ⟨u,rfl⟩ .nil),q⟩
  ·obtain⟨a1,a2⟩:=JM.each k p hp;exact⟨List.mem_cons_of_mem _ a1,a2⟩
section
variable {X:Cx}
theorem ZfQ(hc:X.calm=true):JK X (.builtin "sorted") (fun xs H Q=>∃(v a:Addr) (c:List Lf),xs=[.ref v]/\H v=some (JT v a)/\H a=some (.dK (c.map fun p=>(Sum.inr p.1,V.int p.2)))/\c.length<128/\
  ∀zs:List Lf,zs.Perm c->zs.Pairwise (fun a b=>Zbg b a=false)->∀p H',H p=none->ZK H H'->Rep X.K H' (ZdN zs) (.ref p)->Q (.ref p) H'):=by
 intro pins s σ H xs us Q I r h;obtain⟨v,a,c,rfl,hv,hq,h64,q⟩:=h;obtain⟨u,rfl,rx⟩:=Zb2 r;cases rx;have vw:s.heap.IsItemsView v a:=(I.hok v _ hv).1;obtain⟨z1,z2,kvs,z3,z4⟩:=I.hok a _ hq;obtain⟨ep,hat⟩:=z4.dictAt;have el:kvs.length=c.length:=by have:=Paired.length z3;rw[List.length_map] at this;exact this.symm
 have hz:kvs.length<=sizeLine:=by rw[sizeLine_eq,el];omega
 refine call_function_entry kind_sorted plain_sorted entry_sorted (args_sorted1 (.ref v)) ?_;unfold Builtin.«sorted»;refine wpAny_bind (m:=checkCount "sorted" 1 1 _) (wpAny_pure (wpAny_bind ?_));refine kdx_collect (A:=X.A.in1) (knd:=Yu X.prog X.w) (kvs:=kvs) (ep:=ep) (I.ok.hd hc) vw hat hz fun h' tk as hk hl hG=> ?_;have la:as.length=c.length:=hl.trans el;have lin:JM h' as c:=by
  refine ZgK la fun j b e=> ?_;obtain⟨key,k,x,e1,e2,e3⟩:=hG.pairs j b e;have hlt:j<c.length:=by
   have:=(List.getElem?_eq_some_iff.mp e).1;omega
  obtain⟨u2,f3,rv⟩:=ZjI z3 (i:=j) (p:=(Sum.inr c[j].1,V.int c[j].2)) (by rw[List.getElem?_map,List.getElem?_eq_getElem hlt];rfl)
  rw[e1] at f3
  have f4:=Option.some.inj f3;have f5:k=Sum.inr c[j].1:=congrArg Prod.fst f4;have f6:x=u2:=congrArg Prod.snd f4;subst f5 f6;obtain⟨t,rfl⟩:∃t,key=Value.str c[j].1 t:=Zhm (k:=Sum.inr c[j].1) e2;obtain⟨t2,rfl⟩:∃t,x=Value.int c[j].2 t:=rv;exact⟨c[j],t,t2,List.getElem?_eq_getElem hlt,_,e3,rfl,0,rfl⟩
 have lv:(as.map Value.ref).length=c.length:=by rw[List.length_map,la]
 refine wpAny_bind (wpAny_newList ?_ (by rw[lv,sizeLine_eq];omega))
 generalize hD:h'.objs.size=D;have oD:(h'.push (seqObj "list" (as.map Value.ref).toArray 0)).get? D=some (seqObj "list" (as.map Value.ref).toArray 0):=by rw[<-hD];exact Heap.get?_push_size _ rfl
 have old:∀b o,s.heap.get? b=some o->b≠D:=fun b o e=>by rw[<-hD];exact Nat.ne_of_lt (Heap.lt_size (hk b o e))
 have asD:∀b∈as,b≠D:=fun b hb=>by rw[<-hD];exact Nat.ne_of_lt (hG.there hb)
 have lin2:JM (ZaP (h'.push (seqObj "list" (as.map Value.ref).toArray 0)) D (as.map Value.ref)) as c:=lin.mono fun b hb o e=>ZgJ b o (asD b hb) (Heap.get?_push_of_some _ e);refine wpAny_bind (wpAny_holding (wpAny_call_entry slot_list_sort ⟨_,oD,rfl⟩ entry_list_sort ?body (args_list_sort _)));refine ZhG (ans:=fun i j=>Zbg (c.getD i (Str.empty,0)) (c.getD j (Str.empty,0))) oD (by omega) (Za3.ord _) (fun h2=> ?_) fun p pl so=>⟨_,rfl,wpAny_pure ⟨_,rfl, ?_⟩⟩
 ·obtain⟨fs,t1,t2,t3⟩:=lin2.tups;refine kat_kind (T:=.type "str") t1 (by omega) (fun v hv=> ?_) rfl ⟨rfl,fun i j hi hj C hC=> ?_⟩
  ·obtain⟨n,t,rfl⟩:=t3 v hv;exact Looks.of_pure rfl
  ·have hi:i<as.length:=by omega
   have hj:j<as.length:=by omega
   obtain⟨t,u,q1⟩:=lin2.at i hi
   obtain⟨t',u',q2⟩:=lin2.at j hj
   have ei:(as.map Value.ref).getD i Value.none=.ref (as.getD i 0):=by simp[hi]
   have ej:(as.map Value.ref).getD j Value.none=.ref (as.getD j 0):=by simp[hj]
   rw[ei,ej];exact Zlr q1 q2 hC
 ·rw[lv] at pl so
  have mem:∀i∈p.toList,i<c.length:=fun i hi=>by
   have:=(Array.perm_iff_toList_perm.mp pl.perm).mem_iff (a:=i)
   simpa using this.mp hi
  have eo:(p.toList.map fun i=>(as.map Value.ref).getD i Value.none)=p.toList.map fun i=>Value.ref (as.getD i 0):=List.map_congr_left fun i hi=>by
   have:=mem i hi;have h3:i<as.length:=by omega
   simp[h3]
  rw[eo];obtain⟨e,he⟩:=sortedHeap_at (h:=h'.push (seqObj "list" (as.map Value.ref).toArray 0)) (out:=List.toArray (p.toList.map fun i=>Value.ref (as.getD i 0))) oD;have keepD:∀b o,b≠D->h'.get? b=some o->(sortedHeap (h'.push (seqObj "list" (as.map Value.ref).toArray 0)) D (as.map Value.ref) (List.toArray (p.toList.map fun i=>Value.ref (as.getD i 0)))).get? b=some o:=fun b o n z=>Yv b o n (ZgJ b o n (Heap.get?_push_of_some _ z))
  have I3:L2.Inv X pins σ H {s with heap:=sortedHeap (h'.push (seqObj "list" (as.map Value.ref).toArray 0)) D (as.map Value.ref) (List.toArray (p.toList.map fun i=>Value.ref (as.getD i 0))),toks:=tk}:=I.kept fun b o z=>keepD b o (old b o z) (hk b o z);have lin3:=lin.mono fun b hb o z=>keepD b o (asD b hb) z;have fresh:∀b,s.heap.objs.size<=b->s.heap.get? b=none:=fun b hb=>by
   cases z:s.heap.get? b with
   |none=>rfl
   |some o=>exact absurd (Heap.lt_size z) (Nat.not_lt.mpr hb)
  have ea:((as.zip c).map fun p=>(p.1,[V.str p.2.1,V.int p.2.2])).map (·.1)=as:=by
   rw[List.map_map];exact List.map_fst_zip (by omega)
  obtain⟨H2,I4,s2,al,ot⟩:=Zfj (X:=X) (σ:=σ) I ((as.zip c).map fun p=>(p.1,[V.str p.2.1,V.int p.2.2])) H I3 (by rw[ea];exact hG.rise.imp fun z=>Nat.ne_of_lt z) fun b hb=>by
   obtain⟨a1,a2⟩:=lin3.each b hb;have:=hG.above b.1 a1;exact⟨I.hok.fresh (Nat.le_of_lt this),fresh _ (Nat.le_of_lt this),a2⟩
  have noD:s.heap.get? D=none:=by
   cases z:s.heap.get? D with
   |none=>rfl
   |some o=>exact absurd rfl (old D o z)
  have hnD:H D=none:=by
   cases z:H D with
   |none=>rfl
   |some o=>
    obtain⟨ob,e2⟩:=Zfb (I.hok D o z);rw[noD] at e2
    cases e2
  have fD:H2 D=none:=by
   rw[ot D (by rw[ea];exact fun z=>asD D z rfl)]
   exact hnD
  have rv:ZW (p.toList.map fun i=>V.ref (as.getD i 0)) (p.toList.map fun i=>Value.ref (as.getD i 0)):=by
   generalize p.toList=l
   induction l with
   |nil=>exact .nil
   |cons i l ih=>exact .cons rfl ih
  have J:=Za0 (n:=D) (q:=.lst (p.toList.map fun i=>V.ref (as.getD i 0))) I I4 fD noD ⟨by rw[List.length_map,Array.length_toList,pl.size,sizeLine_eq];omega,_,_,rv,he⟩
  refine⟨.ref D,_,J,rfl,q (p.toList.map fun i=>c.getD i (Str.empty,0)) ?_ ?_ D _ hnD (fun b o z=>by rw[Zf (Zk (s2 b o z) fD)];exact s2 b o z) (.lst (SqL.of Zd) ?_)⟩
  ·have e2:(List.range c.length).map (fun i=>c.getD i (Str.empty,0))=c:=by
    apply List.ext_getElem
    ·simp
    ·intro i h1 h2;simp[h2]
   have pp:=List.Perm.map (fun i=>c.getD i (Str.empty,0)) (Array.perm_iff_toList_perm.mp pl.perm);simp only [List.toList_toArray] at pp
   rw[e2] at pp
   exact pp
  ·have:=Zil (α:=Unit) (lt:=Zbg) (f:=fun _=>()) (kk:=fun i=>c.getD i (Str.empty,0)) so pl;rw[List.pairwise_map] at this⊢
   exact this
  ·have each:∀i,i<c.length->Rep X.K (upd H2 D (.lst (p.toList.map fun i=>V.ref (as.getD i 0)))) (lfD (c.getD i (Str.empty,0))) (.ref (as.getD i 0)):=fun i hi=>by
    have h3:i<as.length:=by omega
    have m:(as[i],[V.str c[i].1,V.int c[i].2])∈(as.zip c).map fun p=>(p.1,[V.str p.2.1,V.int p.2.2]):=List.mem_map.mpr ⟨(as[i],c[i]),List.mem_iff_getElem.mpr ⟨i,by rw[List.length_zip];omega,by simp⟩,rfl⟩
    have e1:=al _ m;have e2:as.getD i 0=as[i]:=by simp[h3]
    have e3:c.getD i (Str.empty,0)=c[i]:=by simp[hi]
    rw[e2,e3];exact .tup (SqT.of (by rw[Zf (asD _ (List.getElem_mem h3))];exact e1)) (.cons (.flat rfl) (.cons (.flat rfl) .nil))
   rw[List.map_map];clear rv J I4 I3 eo he keepD lin3 pl so al ot;generalize upd H2 D _=HH at each
   generalize p.toList=l at mem
   induction l with
   |nil=>exact .nil
   |cons i l ih=>exact .cons (each i (mem i (List.mem_cons_self ..))) (ih fun j hj=>mem j (List.mem_cons_of_mem _ hj))
theorem ZeQ{K:PySem.W.Frag}(hc:X.calm=true)(eK:X.K=K):JK X (.builtin "sorted") (fun xs H Q=>∃(v a:Addr) (c:List Lf),xs=[.ref v]/\H v=some (JT v a)/\H a=some (.dK (c.map fun p=>(Sum.inr p.1,V.int p.2)))/\c.length<128/\
  ∀zs:List Lf,zs.Perm c->zs.Pairwise (fun a b=>Zbg b a=false)->∀p H',H p=none->ZK H H'->Rep K H' (ZdN zs) (.ref p)->Q (.ref p) H'):=by
 subst eK;exact ZfQ hc
def ZmC(K:PySem.W.Frag)(sp:Sp)(t:TA):TE:=fun σ H Q=>t σ H fun vs H1=>∃(l:Addr) (xs:List V),vs=[.ref l]/\SqL K H1 l xs/\xs.length<128/\kys sp xs [] H1 fun kx H2=>∃kk:List Ky,Paired (fun y x=>Rep K H2 (kyD y) x) kk kx/\
 ∀zs:List (V×Ky),zs.Perm (xs.zip kk)->zs.Pairwise (fun a b=>ZcB b.2 a.2=false)->∀D,H2 D=none->Q (.ref D) (upd H2 D (.lst (zs.map (·.1))))
theorem ZhH{k:Nat}{x p:Str}{sp:Sp}{e:PySem.Expr}{t:TA}{p0 p1 p2 pos:Pos}(c:Cal X.prog X.w X.K X.mg X.base CX0 k x [p] sp)(hr:Xc (k+2) X.A)(hg:Gl X "sorted")(hm:X.mg "sorted"=none)(hgx:Gl X x)(ha:PA X [e] t)(hdb:(x==("__debug__":Str))=false:=by decide)
  (hs:starEach [e] X.env=[(false,eval e X.env)]:=by rfl):PE X (.Call (.Name "sorted" p0) [e] [⟨some "key",.Name x p1,p2⟩] pos) (ZmC X.K sp t):=by
 intro pins s σ H Q I h;obtain⟨f,fd,hmx,hkp,hb,F⟩:=c.ex;refine wpAny_Call_Name_kw (ZbY I hg hm Zf9 ?_ (by decide) (by decide));refine callWith_kw (thn (ha pos pins s σ H _ I h) fun us s1 z=> ?_) (by rw[hs];rfl) (by rw[hs];rfl)
 obtain⟨vs,H1,I1,r1,q1⟩:=z;obtain⟨l,xs,rfl,hq,h64,hk⟩:=q1;obtain⟨u,rfl,ru⟩:=Zb2 r1;cases ru;refine kws_cons (Jk I1 hgx hmx (kws_nil ?_) hdb);exact ZfP F hb hr I1 hq h64 hk
end
end L3
namespace L3
open PySem PySem.Spec PyProof.Rows L2
section
variable {X:Cx}
def ZmD(H₀:Hp)(t:TS):TS:=fun D σ H=>t {nx:=fun σ' H1=>∃a H2,ZeO H₀ a H1 H2/\D.nx σ' H2,rt:=fun v H1=>∃a H2,ZeO H₀ a H1 H2/\D.rt v H2,bk:=fun σ' H1=>∃a H2,ZeO H₀ a H1 H2/\D.bk σ' H2,ct:=fun σ' H1=>∃a H2,ZeO H₀ a H1 H2/\D.ct σ' H2} σ H
theorem Zk9{st:Stmt}{t:TS}(h:PS X st t):PS X st (ZmD X.H₀ t):=fun pins s σ H D I q=>
 thn (h pins s σ H _ I q) fun f _ q1=>by
  cases f with
  |ret v=>obtain⟨x,σ1,H1,I1,r1,a,H2,⟨hf,o,u,e1,rfl⟩,q2⟩:=q1;exact⟨x,σ1,_,XN I1 e1 hf,r1,q2⟩
  |next=>obtain⟨σ1,H1,I1,a,H2,⟨hf,o,u,e1,rfl⟩,q2⟩:=q1;exact⟨σ1,_,XN I1 e1 hf,q2⟩
  |brk=>obtain⟨σ1,H1,I1,a,H2,⟨hf,o,u,e1,rfl⟩,q2⟩:=q1;exact⟨σ1,_,XN I1 e1 hf,q2⟩
  |cont=>obtain⟨σ1,H1,I1,a,H2,⟨hf,o,u,e1,rfl⟩,q2⟩:=q1;exact⟨σ1,_,XN I1 e1 hf,q2⟩
end
end L3
namespace M4
open PySem L3 M3
section
variable {α:Type} {lt:α->α->Bool}
def Asc(lt:α->α->Bool)(l:List α):Prop:=l.Pairwise fun x y=>lt y x=false
def Zj3(lt:α->α->Bool)(x:α):List α->List α
 |[]=>[x]
 |y::r=>if lt y x=true then y::Zj3 lt x r else x::y::r
def Yl(lt:α->α->Bool)(l:List α):List α:=l.foldr (Zj3 lt) []
theorem Zdd(x:α):∀l:List α,(Zj3 lt x l).Perm (x::l)
 |[]=>List.Perm.refl _
 |y::r=>by
  unfold Zj3
  split
  ·exact((Zdd x r).cons y).trans (List.Perm.swap x y r)
  ·exact List.Perm.refl _
theorem Jf:∀l:List α,(Yl lt l).Perm l
 |[]=>List.Perm.refl _
 |x::l=>(Zdd x _).trans ((Jf l).cons x)
theorem ZgL(o:STO lt)(x:α):∀l:List α,Asc lt l->Asc lt (Zj3 lt x l)
 |[],_=>List.pairwise_singleton _ _
 |y::r,h=>by
  unfold Zj3;have h:=List.pairwise_cons.mp h
  split
  ·rename_i e
   refine List.pairwise_cons.mpr ⟨fun z hz=> ?_,ZgL o x r h.2⟩;rcases List.mem_cons.mp ((Zdd x r).mem_iff.mp hz) with rfl|hz
   ·exact o.asym e
   ·exact h.1 z hz
  ·rename_i e
   have e:lt y x=false:=by simpa using e
   refine List.pairwise_cons.mpr ⟨fun z hz=> ?_,List.pairwise_cons.mpr h⟩;obtain rfl|hz:=List.mem_cons.mp hz
   ·exact e
   ·cases q:lt z x with
    |false=>rfl
    |true=>
     rcases o.tri x y with w|w|w
     ·exact(o.tr _ _ _ q w).symm.trans (h.1 z hz)
     ·rw[w] at q;exact q.symm.trans (h.1 z hz)
     ·exact w.symm.trans e
theorem ZaE(o:STO lt):∀l:List α,Asc lt (Yl lt l)
 |[]=>List.Pairwise.nil
 |x::l=>ZgL o x _ (ZaE o l)
theorem ZfR(o:STO lt):∀{a b:List α},a.Perm b->Asc lt a->Asc lt b->a=b
 |[],b,p,_,_=>(List.nil_perm.mp p).symm
 |x::a,[],p,_,_=>absurd (List.perm_nil.mp p) (by simp)
 |x::a,y::b,p,ha,hb=>by
  have ha:=List.pairwise_cons.mp ha;have hb:=List.pairwise_cons.mp hb;have e:x=y:=by
   have m1:x∈y::b:=p.mem_iff.mp (List.mem_cons_self ..);have m2:y∈x::a:=p.mem_iff.mpr (List.mem_cons_self ..);rcases List.mem_cons.mp m1 with z|z
   ·exact z
   ·rcases List.mem_cons.mp m2 with w|w
    ·exact w.symm
    ·rcases o.tri x y with q|q|q
     ·exact absurd q (by rw[hb.1 x z];simp)
     ·exact q
     ·exact absurd q (by rw[ha.1 y w];simp)
  subst e;rw[ZfR o ((List.perm_cons x).mp p) ha.2 hb.2]
theorem ZfS(o:STO lt){a b:List α}(p:b.Perm a)(h:Asc lt b):b=Yl lt a:=ZfR o (p.trans (Jf a).symm) h (ZaE o a)
theorem ZaF(o:STO lt){a b:List α}(p:a.Perm b):Yl lt a=Yl lt b:=ZfS o ((Jf a).trans p) (ZaE o a)
end
def Ys(c:Tb):Tb:=Yl Zbg c
abbrev Nd(c:Tb):Prop:=(c.map (·.1)).Nodup
theorem XH(c:Tb):(Ys c).Perm c:=Jf c
theorem YT(c:Tb):(Ys c).length=c.length:=(XH c).length_eq
theorem Zim{a b:Tb}(p:a.Perm b)(h:Nd b):Nd a:=(p.map (·.1)).nodup_iff.mpr h
theorem ZcK{c:Tb}(h:Nd c):Nd (Ys c):=Zim (XH c) h
theorem Ze0{c:Tb}{k:Str}(h:k∉c.map (·.1)):lk c k=none:=by
 induction c with
 |nil=>rfl
 |cons p r ih=>
  have e:¬p.1=k:=fun z=>h (by rw[List.map_cons,z];exact List.mem_cons_self ..)
  have h1:lk (p::r) k=lk r k:=by simp[lk,List.find?_cons,e]
  rw[h1];exact ih fun z=>h (List.mem_cons_of_mem _ z)
theorem XR{c:Tb}(h:Nd c){k:Str}{d:Int}:lk c k=some d↔(k,d)∈c:=by
 constructor
 ·intro e
  by_cases m:k∈c.map (·.1)
  ·obtain⟨p,hp,rfl⟩:=List.mem_map.mp m;have:=ZaL h hp;rw[e] at this
   have e2:d=p.2:=Option.some.inj this;subst e2;exact hp
  ·rw[Ze0 m] at e;cases e
 ·intro m;exact ZaL h m
theorem Zls{a b:Tb}(p:a.Perm b)(h:Nd b)(k:Str):lk a k=lk b k:=by
 have ha:=Zim p h;cases e:lk b k with
 |some d=>exact(XR ha).mpr (p.mem_iff.mpr ((XR h).mp e))
 |none=>
  cases e2:lk a k with
  |none=>rfl
  |some d=>
   have:=(XR h).mpr (p.mem_iff.mp ((XR ha).mp e2));rw[e] at this;cases this
theorem Ze1{c:Tb}(h:Nd c)(k:Str):lk (Ys c) k=lk c k:=Zls (XH c) h k
theorem ZbK{c:Tb}(h:Nd c):c.Nodup:=by
 induction c with
 |nil=>exact List.nodup_nil
 |cons p r ih=>
  rw[Nd,List.map_cons,List.nodup_cons] at h
  exact List.nodup_cons.mpr ⟨fun m=>h.1 (List.mem_map.mpr ⟨p,m,rfl⟩),ih h.2⟩
theorem Zbk{α:Type} [DecidableEq α]:∀{a b:List α},a.Nodup->b.Nodup->(∀x,x∈a↔x∈b)->a.Perm b
 |[],b,_,_,h=>by
  cases b with
  |nil=>exact List.Perm.refl _
  |cons y b=>exact absurd ((h y).mpr (List.mem_cons_self ..)) (by simp)
 |x::a,b,ha,hb,h=>by
  have hx:x∈b:=(h x).mp (List.mem_cons_self ..);have ha:=List.nodup_cons.mp ha;have p:=List.perm_cons_erase hx;have hb':=List.nodup_cons.mp (p.nodup_iff.mp hb);refine(List.Perm.cons x (Zbk ha.2 hb'.2 fun y=> ?_)).trans p.symm
  constructor
  ·intro hy;have:y∈x::b.erase x:=p.mem_iff.mp ((h y).mp (List.mem_cons_of_mem _ hy));obtain rfl|z:=List.mem_cons.mp this
   ·exact absurd hy ha.1
   ·exact z
  ·intro hy;have:y∈x::a:=(h y).mpr (p.mem_iff.mpr (List.mem_cons_of_mem _ hy));obtain rfl|z:=List.mem_cons.mp this
   ·exact absurd hy hb'.1
   ·exact z
theorem Zka{a b:Tb}(ha:Nd a)(hb:Nd b)(h:∀k,lk a k=lk b k):Ys a=Ys b:=
 ZaF Za3 (Zbk (ZbK ha) (ZbK hb) fun p=>by rw[<-XR ha (k:=p.1) (d:=p.2),<-XR hb,h])
theorem ZbL(c:Tb):Ys (Ys c)=Ys c:=ZaF Za3 (XH c)
theorem ZfT{a b:Tb}(ha:Nd a)(hb:Nd b)(h:Ys a=Ys b)(k:Str):lk a k=lk b k:=by rw[<-Ze1 ha,<-Ze1 hb,h]
theorem Jg{a b:Tb}:ZZ a b=true↔∀p∈a,∃u,lk b p.1=some u/\p.2<=u:=by
 unfold ZZ;rw[List.all_eq_true]
 constructor
 ·intro h p hp;have:=h p hp
  split at this
  ·rename_i u e
   exact⟨u,e,of_decide_eq_true this⟩
  ·cases this
 ·intro h p hp;obtain⟨u,e,q⟩:=h p hp;rw[e];exact decide_eq_true q
theorem Zem{a b:Tb}(hb:Nd b):ZZ (Ys a) (Ys b)=ZZ a b:=by
 apply Bool.eq_iff_iff.mpr
 rw[Jg,Jg];exact⟨fun h p hp=>by rw[<-Ze1 hb];exact h p ((XH a).mem_iff.mpr hp),fun h p hp=>by rw[Ze1 hb];exact h p ((XH a).mem_iff.mp hp)⟩
theorem Zc2{a:Tb}(h:Nd a):ZZ a a=true:=Jg.mpr fun p hp=>⟨p.2,ZaL h hp,Int.le_refl _⟩
def Yo(a b:Tb):Tb:=b.foldl (fun c p=>Zcx c p.1 (max p.2 ((lk a p.1).getD p.2))) a
theorem Zkb{c:Tb}{k:Str}{v:Int}(j:Str):lk (Zcx c k v) j=if j=k then some v else lk c j:=by
 have up:∀c:Tb,(∃p∈c,p.1=k)->lk (c.map fun p=>if p.1=k then(p.1,v) else p) j=if j=k then some v else lk c j:=by
  intro c
  induction c with
  |nil=>intro ⟨p,hp,_⟩;cases hp
  |cons q r ih=>
   intro hm
   by_cases e:q.1=k
   ·by_cases z:j=k
    ·subst z;rw[if_pos rfl];simp[lk,List.find?_cons,e]
    ·rw[if_neg z];have n1:¬q.1=j:=fun w=>z (w.symm.trans e);have h1:lk (q::r) j=lk r j:=by simp[lk,List.find?_cons,n1]
     have h2:lk ((q::r).map fun p=>if p.1=k then(p.1,v) else p) j=lk (r.map fun p=>if p.1=k then(p.1,v) else p) j:=by
      rw[List.map_cons,if_pos e];simp[lk,List.find?_cons,n1]
     rw[h1,h2]
     by_cases more:∃p∈r,p.1=k
     ·rw[ih more,if_neg z]
     ·have e3:(r.map fun p=>if p.1=k then(p.1,v) else p)=r:=by
       refine(List.map_congr_left fun p hp=> ?_).trans (List.map_id' r);rw[if_neg fun w=>more ⟨p,hp,w⟩]
      rw[e3]
   ·have more:∃p∈r,p.1=k:=by
     obtain⟨p,hp,w⟩:=hm;obtain rfl|hp:=List.mem_cons.mp hp
     ·exact absurd w e
     ·exact⟨p,hp,w⟩
    rw[List.map_cons,if_neg e]
    by_cases n1:q.1=j
    ·have z:¬j=k:=fun w=>e (n1.trans w);rw[if_neg z];simp[lk,List.find?_cons,n1]
    ·have h1:lk (q::r) j=lk r j:=by simp[lk,List.find?_cons,n1]
     have h2:∀t:Tb,lk (q::t) j=lk t j:=fun t=>by simp[lk,List.find?_cons,n1]
     rw[h1,h2,ih more]
 unfold Zcx
 by_cases m:(c.any fun p=>decide (p.1=k))=true
 ·rw[if_pos m];obtain⟨p,hp,e⟩:=List.any_eq_true.mp m;exact up c ⟨p,hp,of_decide_eq_true e⟩
 ·rw[if_neg m];have no:∀p∈c,¬p.1=k:=fun p hp e=>m (List.any_eq_true.mpr ⟨p,hp,decide_eq_true e⟩);clear m up
  induction c with
  |nil=>
   by_cases z:j=k
   ·rw[if_pos z];simp[lk,z]
   ·rw[if_neg z];have n1:¬k=j:=fun w=>z w.symm;simp[lk,List.find?_cons,n1]
  |cons q r ih=>
   have ih:=ih fun p hp=>no p (List.mem_cons_of_mem _ hp)
   by_cases n1:q.1=j
   ·have z:¬j=k:=fun w=>no q (List.mem_cons_self ..) (n1.trans w);rw[if_neg z];simp[lk,List.find?_cons,n1]
   ·have h2:∀t:Tb,lk (q::t) j=lk t j:=fun t=>by simp[lk,List.find?_cons,n1]
    rw[List.cons_append,h2,h2,ih]
theorem Zaf{a b:Tb}(h:Nd a):Nd (Yo a b):=by
 have go:∀(b c:Tb),Nd c->Nd (b.foldl (fun c p=>Zcx c p.1 (max p.2 ((lk a p.1).getD p.2))) c):=by
  intro b
  induction b with
  |nil=>exact fun c h=>h
  |cons p r ih=>exact fun c h=>ih _ (ZiT h)
 exact go b a h
theorem ZbM{a b:Tb}(hb:Nd b)(j:Str):lk (Yo a b) j=match lk b j with|some d=>some (max d ((lk a j).getD d))|none=>lk a j:=by
 have go:∀(b c:Tb),Nd b->lk (b.foldl (fun c p=>Zcx c p.1 (max p.2 ((lk a p.1).getD p.2))) c) j=match lk b j with|some d=>some (max d ((lk a j).getD d))|none=>lk c j:=by
  intro b
  induction b with
  |nil=>exact fun c _=>rfl
  |cons p r ih=>
   intro c h;rw[Nd,List.map_cons,List.nodup_cons] at h
   rw[List.foldl_cons,ih _ h.2]
   by_cases n1:p.1=j
   ·have h1:lk (p::r) j=some p.2:=by simp[lk,List.find?_cons,n1]
    have h2:lk r j=none:=Ze0 (by rw[<-n1];exact h.1)
    rw[h1,h2]
    dsimp only
    rw[Zkb,if_pos n1.symm,n1]
   ·have h1:lk (p::r) j=lk r j:=by simp[lk,List.find?_cons,n1]
    rw[h1];cases e:lk r j with
    |some d=>rfl
    |none=>
     dsimp only
     rw[Zkb,if_neg (Ne.symm n1)]
 exact go b a hb
theorem Zfk{a b a' b':Tb}(ha:Nd a)(hb:Nd b)(ha':Nd a')(hb':Nd b')(e1:Ys a=Ys a')(e2:Ys b=Ys b'):Ys (Yo a b)=Ys (Yo a' b'):=
 Zka (Zaf ha) (Zaf ha') fun j=>by rw[ZbM hb,ZbM hb',ZfT ha ha' e1,ZfT hb hb' e2]
theorem Zin{a b:Tb}(h:a≠[])(hb:Nd b)(ha:Nd a):Yo a b≠[]:=by
 cases a with
 |nil=>exact absurd rfl h
 |cons p r=>
  intro z;have e:=ZbM (a:=p::r) hb p.1;rw[z] at e
  have e2:lk (p::r) p.1=some p.2:=ZaL ha (List.mem_cons_self ..);rw[e2] at e
  cases q:lk b p.1<;>rw[q] at e<;>cases e
def Zc3(c:Tb):Ky:=((c.length:Int),c)
def YL(a b:Tb):Bool:=ZcB (Zc3 a) (Zc3 b)
theorem Zbl:STO YL:=⟨fun a=>ZcC.irr _,fun a b c h1 h2=>ZcC.tr _ _ _ h1 h2,fun a b=>(ZcC.tri (Zc3 a) (Zc3 b)).imp_right fun z=>z.imp_left fun e=>congrArg Prod.snd e⟩
def keep(kept:List Tb)(c:Tb):List Tb:=if(kept.any fun low=>ZZ low c)=true then kept else kept++[c]
def Zab(cs:List Tb):List Tb:=cs.foldl keep []
theorem Za5:∀(cs kept:List Tb),∃r,cs.foldl keep kept=kept++r/\r.Sublist cs
 |[],kept=>⟨[],by simp,List.Sublist.refl _⟩
 |c::cs,kept=>by
  rw[List.foldl_cons]
  by_cases m:(kept.any fun low=>ZZ low c)=true
  ·rw[show keep kept c=kept from if_pos m];obtain⟨r,e,s⟩:=Za5 cs kept;exact⟨r,e,s.cons c⟩
  ·rw[show keep kept c=kept++[c] from if_neg m];obtain⟨r,e,s⟩:=Za5 cs (kept++[c]);exact⟨c::r,by rw[e];simp,s.cons₂ c⟩
theorem Zen{Good:Tb->Prop}(gn:∀c,Good c->Nd c)(o:∀a b:Tb,YL b a=false->Good a->Good b->ZZ b a=true->a=b):∀(cs kept:List Tb),(∀c∈kept++cs,Good c)->Asc YL (kept++cs)->kept.Pairwise (fun a b=>ZZ a b=false/\ZZ b a=false)->
  (cs.foldl keep kept).Pairwise (fun a b=>ZZ a b=false/\ZZ b a=false)
 |[],kept,_,_,p=>p
 |c::cs,kept,nd,as,p=>by
  rw[List.foldl_cons];have nc:Good c:=nd c (List.mem_append_right _ (List.mem_cons_self ..));unfold keep
  split
  ·refine Zen gn o cs kept (fun d hd=>nd d ?_) (as.sublist ?_) p
   ·rcases List.mem_append.mp hd with z|z
    ·exact List.mem_append.mpr (.inl z)
    ·exact List.mem_append_right _ (List.mem_cons_of_mem _ z)
   ·exact List.Sublist.append_left (List.sublist_cons_self _ _) _
  ·rename_i m
   have e:kept++c::cs=(kept++[c])++cs:=by simp
   rw[e] at nd as
   refine Zen gn o cs _ nd as (List.pairwise_append.mpr ⟨p,List.pairwise_singleton _ _,fun a ha b hb=> ?_⟩);have eb:b=c:=by simpa using hb
   subst eb;have m1:ZZ a b=false:=by
    cases q:ZZ a b with
    |false=>rfl
    |true=>exact absurd (List.any_eq_true.mpr ⟨a,ha,q⟩) m
   refine⟨m1, ?_⟩;cases q:ZZ b a with
   |false=>rfl
   |true=>
    have na:Good a:=nd a (List.mem_append_left _ (List.mem_append_left _ ha));have lt:YL b a=false:=(List.pairwise_append.mp (List.pairwise_append.mp as).1).2.2 a ha b (List.mem_singleton_self _);have:=o a b lt na nc q;subst this;rw[Zc2 (gn _ na)] at m1
    cases m1
theorem Ze2{α:Type} [DecidableEq α]:∀{a b:List α},a.Nodup->(∀x∈a,x∈b)->a.length<=b.length/\(b.Nodup->a.length=b.length->∀x∈b,x∈a)
 |[],b,_,_=>⟨Nat.zero_le _,fun _ e x hx=>by
   have:b=[]:=List.eq_nil_of_length_eq_zero e.symm;rw[this] at hx;cases hx⟩
 |y::a,b,ha,h=>by
  have ha:=List.nodup_cons.mp ha;have hy:y∈b:=h y (List.mem_cons_self ..);have p:=List.perm_cons_erase hy;have l:=p.length_eq;rw[List.length_cons] at l
  have sub:∀x∈a,x∈b.erase y:=fun x hx=>by
   rcases List.mem_cons.mp (p.mem_iff.mp (h x (List.mem_cons_of_mem _ hx))) with rfl|z
   ·exact absurd hx ha.1
   ·exact z
  obtain⟨h1,h2⟩:=Ze2 ha.2 sub;refine⟨by rw[List.length_cons];omega,fun hb e x hx=> ?_⟩
  rw[List.length_cons] at e
  rcases List.mem_cons.mp (p.mem_iff.mp hx) with rfl|z
  ·exact List.mem_cons_self ..
  ·exact List.mem_cons_of_mem _ (h2 (List.nodup_cons.mp (p.nodup_iff.mp hb)).2 (by omega) x z)
structure Nf (c:Tb):Prop where
 nd:Nd c
 asc:Asc Zbg c
theorem Zio{c:Tb}(h:Nd c):Nf (Ys c):=⟨ZcK h,ZaE Za3 c⟩
theorem Zde:∀{c:Tb},Nf c->Asc Zbf (c.map (·.1))
 |[],_=>List.Pairwise.nil
 |p::r,h=>by
  have h1:=List.pairwise_cons.mp h.asc;have h2:p.1∉r.map (·.1)/\Nd r:=by have:=h.nd;rw[Nd,List.map_cons,List.nodup_cons] at this;exact this
  rw[List.map_cons];refine List.pairwise_cons.mpr ⟨fun k hk=> ?_,Zde ⟨h2.2,h1.2⟩⟩;obtain⟨q,hq,rfl⟩:=List.mem_map.mp hk;have e:=h1.1 q hq;have n:q.1≠p.1:=fun z=>h2.1 (by rw[<-z];exact hk)
  have e2:Zbg q p=Zbf q.1 p.1:=by show(if q.1=p.1 then _ else _)=_;rw[if_neg n]
  rw[e2] at e
  exact e
theorem Zkc:∀(a b:Tb),a.map (·.1)=b.map (·.1)->Nd a->(∀p∈b,∃u,lk a p.1=some u/\p.2<=u)->ZbV a b=false
 |[],[],_,_,_=>rfl
 |[],_::_,e,_,_=>by simp at e
 |_::_,[],e,_,_=>by simp at e
 |p::a,q::b,e,nd,h=>by
  rw[List.map_cons,List.map_cons] at e
  injection e with e1 e2
  have nd2:p.1∉a.map (·.1)/\Nd a:=by have:=nd;rw[Nd,List.map_cons,List.nodup_cons] at this;exact this
  show(if p=q then Zbe Zbg a b else Zbg p q)=false
  by_cases z:p=q
  ·rw[if_pos z];refine Zkc a b e2 nd2.2 fun r hr=> ?_;obtain⟨u,e3,q3⟩:=h r (List.mem_cons_of_mem _ hr);have n:¬p.1=r.1:=fun w=>nd2.1 (by rw[w,e2];exact List.mem_map.mpr ⟨r,hr,rfl⟩)
   have h1:lk (p::a) r.1=lk a r.1:=by simp[lk,List.find?_cons,n]
   exact⟨u,by rw[<-h1];exact e3,q3⟩
  ·rw[if_neg z];obtain⟨u,e3,q3⟩:=h q (List.mem_cons_self ..);have h1:lk (p::a) q.1=some p.2:=by simp[lk,List.find?_cons,e1]
   rw[h1] at e3
   cases e3;show(if p.1=q.1 then Za2 p.2 q.2 else Zbf p.1 q.1)=false;rw[if_pos e1];exact decide_eq_false (by omega)
theorem ZdF{a b:Tb}(ha:Nf a)(hb:Nf b)(h:ZZ b a=true):YL a b=false:=by
 have h:=Jg.mp h;have sub:∀k∈b.map (·.1),k∈a.map (·.1):=fun k hk=>by
  obtain⟨p,hp,rfl⟩:=List.mem_map.mp hk;obtain⟨u,e,_⟩:=h p hp;exact List.mem_map.mpr ⟨(p.1,u),(XR ha.nd).mp e,rfl⟩
 obtain⟨l1,l2⟩:=Ze2 hb.nd sub;rw[List.length_map,List.length_map] at l1
 show(if((a.length:Nat):Int)=((b.length:Nat):Int) then ZbV a b else Za2 (a.length:Int) (b.length:Int))=false
 by_cases z:a.length=b.length
 ·rw[if_pos (by rw[z])];have names:a.map (·.1)=b.map (·.1):=ZfR Zfc (Zbk ha.nd hb.nd fun k=>⟨l2 ha.nd (by rw[List.length_map,List.length_map,z]) k,sub k⟩) (Zde ha) (Zde hb);exact Zkc a b names ha.nd h
 ·rw[if_neg (fun w=>z (by omega))];exact decide_eq_false (by omega)
theorem Zfl{a b:Tb}(l:YL b a=false)(ha:Nf a)(hb:Nf b)(h:ZZ b a=true):a=b:=by
 have:=ZdF ha hb h;rcases Zbl.tri a b with z|z|z
 ·rw[this] at z;cases z
 ·exact z
 ·rw[l] at z;cases z
end M4
namespace L3
open PySem PySem.Spec PyProof.Rows L2 PySem.W PySem.Calls
section
variable {X:Cx} {pins:List (Addr×Obj)} {σ:L2.St} {H:Hp} {s:Shared} {A:Around}
theorem Zkd(I:L2.Inv X pins σ H s){k:Ky}{p q:Addr}(h:SqT X.K H p [.int k.1,.ref q]):∃t,s.heap.IsTuple p #[.int k.1 t,.ref q]:=by
 obtain⟨its,r,T,_⟩:=I.tuple h;cases r with
 |cons a r=>
  cases r with
  |cons b r=>
   cases r;obtain⟨t,rfl⟩:=a;cases b;exact⟨t,T⟩
theorem Zny(I:L2.Inv X pins σ H s){x y:Ky}{a b:V}{u v:Value}(ra:Rep X.K H (kyD x) a)(rb:Rep X.K H (kyD y) b)(ru:ZR a u)(rv:ZR b v)(hu:A.units+10<cLine):RcP X.prog X.w A s .Lt u v (ZcB x y):=by
 obtain⟨p,q,rfl,hp,hq⟩:=Zek ra;obtain⟨p',q',rfl,hp',hq'⟩:=Zek rb;cases ru;cases rv;obtain⟨t,T1⟩:=Zkd I hp;obtain⟨t',T2⟩:=Zkd I hp';have u1:A.in1.units+5<cLine:=by show A.units+1+5<cLine;omega
 have go:=Zk4 (P:=X.prog) (w:=X.w) (A:=A) (e:=fun j=>if j=0 then(x.1==y.1) else decide (x.2=y.2)) (c:=fun j=>if j=0 then Za2 x.1 y.1 else ZbV x.2 y.2) T1 T2 (by omega) (fun j h1 h2=> ?_) (fun j h1 h2 z=> ?_)
 ·have e:Zdc #[Value.int x.1 t,Value.ref q] #[Value.int y.1 t',Value.ref q'] (fun j=>if j=0 then(x.1==y.1) else decide (x.2=y.2)) (fun j=>if j=0 then Za2 x.1 y.1 else ZbV x.2 y.2) 0=ZcB x y:=by
   show(if(x.1==y.1)=true then(if decide (x.2=y.2)=true then false else ZbV x.2 y.2) else Za2 x.1 y.1)=if x.1=y.1 then ZbV x.2 y.2 else Za2 x.1 y.1
   by_cases z:x.1=y.1
   ·rw[if_pos (by rw[z];exact beq_self_eq_true _),if_pos z]
    by_cases z2:x.2=y.2
    ·rw[if_pos (decide_eq_true z2),z2,Zda.irr]
    ·rw[if_neg (by rw[decide_eq_false z2];simp)]
   ·rw[if_neg (by rw[beq_false_of_ne z];simp),if_neg z]
  rw[e] at go
  exact go
 ·match j,h1,h2 with
  |0,_,_=>exact fun E Q q=>wpAny_eqBool_int q
  |1,_,_=>
   have eq:=(Zcw I 2 _ _ _ _ (.ref q) (.ref q') A.in1 hq hq' rfl rfl (ZgH 0 _ _) (by omega)).1;rw[Zii 0] at eq
   exact eq
 ·match j,h1,h2 with
  |0,_,_=>exact fun E Q q=>PyProof.Rows.lt_int q
  |1,_,_=>exact Zk6 I hq hq' u1
theorem Zke{ps:List (Addr×Obj)}{a:Addr}{o o':Obj}{h':Heap}{t':Nat}(I:L2.Inv X ((a,o)::ps) σ H s)(l:Zel X a)(n:∀p∈ps,p.1≠a)(k:∀b u,b≠a->s.heap.get? b=some u->h'.get? b=some u)(e:h'.get? a=some o')(nc:∀v,o'.data≠.cell v):L2.Inv X ((a,o')::ps) σ H {s with heap:=h',toks:=t'}:=by
 have pa:=I.pin (a,o) (List.mem_append_right _ (.head _));have I1:L2.Inv X ps σ H s:=I.pins_of fun p hp=>I.pin p (List.mem_append_right _ (.tail _ hp));have I2:L2.Inv X ps σ H {s with heap:=h',toks:=t'}:=I1.turned (it:=a) (t':=t') k pa.2.1 pa.2.2.1 (.inr l.new) l.cells fun p hp=>(List.mem_append.mp hp).elim (l.pn p) (n p);refine I2.pins_of fun p hp=> ?_;rcases List.mem_cons.mp hp with rfl|hp
 ·exact⟨e,pa.2.1,pa.2.2.1,pa.2.2.2.1,nc⟩
 ·exact I2.pin p (List.mem_append_right _ hp)
theorem ZcL{ps:List (Addr×Obj)}{p q:Addr×Obj}(I:L2.Inv X (p::q::ps) σ H s):L2.Inv X (q::p::ps) σ H s:=
 I.pins_of fun r hr=>I.pin r (List.mem_append_right _ (by
  rcases List.mem_cons.mp hr with rfl|hr
  ·exact .tail _ (.head _)
  ·rcases List.mem_cons.mp hr with rfl|hr
   ·exact .head _
   ·exact .tail _ (.tail _ hr)))
variable {k:Nat} {g:Addr} {fd:FuncData} {p:Str} {sp:Sp}
theorem Zfm(F:YD X.prog X.w X.K X.mg X.base CX0 k g fd [p] sp)(hb:JL X.K fd [p] [])(hr:Xc (k+1) X.A)(I:L2.Inv X pins σ H s){x:V}{u:Value}(r:ZR x u){Q:VK}(h:sp [x] H Q fun _ _ _=>False):
  wpAny (model X.prog X.w) X.A.in1 (call (.ref g) [u]) (EP X pins σ Q) (fun _ _=>False) s:=by
 have bd:=hb s [u] I.kIn rfl;rw[List.append_nil] at bd
 refine wpAny_call (codeAny_mono (F.run X.A.in1 X.stack s H ⟨[u],[]⟩ [u] [x] Q _ hr.in1 I.env0.in1 bd (.cons r .nil) h) fun r s2 z=> ?_);cases r with
 |ok fl=>
  cases fl with
  |ret u=>exact I.after z
  |next=>exact False.elim z
  |brk=>exact False.elim z
  |cont=>exact False.elim z
 |error ev=>exact False.elim z
def mnk(K:PySem.W.Frag)(sp:Sp)(l:Addr)(xs:List V):List V->V->V->Hp->VK->Prop
 |[],b,_,H,R=>SqL K H l xs/\R b H
 |x::r,b,kb,H,R=>SqL K H l xs/\sp [x] H (fun k H2=>∃y z,Rep K H2 (kyD y) k/\Rep K H2 (kyD z) kb/\(ZcB y z=true->mnk K sp l xs r x k H2 R)/\(ZcB y z=false->mnk K sp l xs r b kb H2 R)) fun _ _ _=>False
abbrev Zo2(X:Cx)(pins:List (Addr×Obj))(σ:L2.St)(R:VK)(E:Value->Shared->Prop):Result->Shared->Prop:=fun r s'=>match r with| .ok (.ret v)=>EP X pins σ R v s'| .ok _=>False| .error e=>E e s'
section
variable {prog:Program} {w:World} {B:Around} {R:Result->Shared->Prop} {it S:Addr} {key:Value} {c:Nat} {s:Shared}
theorem Zeo{P:PySem.Fin->Shared->Prop}(hP:∀f s',P f s'->match f with| .done x=>R (.ok x) s'| .again c'=>c'.quiet=true/\codeAny (model prog w) B c' R s')
  (h:wpAny (model prog w) B.in1 (Builtin.«min.loop» ⟨[.ref it,key,.ref S],[]⟩) P (fun e s'=>R (.error e) s') s):codeAny (model prog w) B (.builtin "min.loop" ⟨[.ref it,key,.ref S],[]⟩) R s:=
 codeAny_builtin F.entry_min_loop (by
  have e:=Around.under_plainId (A:=B) F.plain_min_loop ⟨[Value.ref it,key,.ref S],[]⟩;rw[e];exact wpAny_mono h (fun f s' z=>hP f s' z) fun _ _ z=>z)
theorem Zkf:toString "min"++toString ".loop"="min.loop":=rfl
theorem Zlt{Kp:Heap->Prop}{ub uk:Value}(hS:s.heap.get? S=some (seqObj "list" #[ub,uk] c))(hn:∀(Q:Option Value->Shared->Prop) (E:Value->Shared->Prop),(∀h' tk,Kp h'->Q none {s with heap:=h',toks:=tk})->wpAny (model prog w) B.in1 (pyNext (.ref it)) Q E s)
  (kp:∀h',Kp h'->h'.get? S=some (seqObj "list" #[ub,uk] c))(q:∀h' tk,Kp h'->R (.ok (.ret ub)) {s with heap:=h'.update S (Obj.mapSeq fun _=> #[]),toks:=tk}):codeAny (model prog w) B (.builtin "min.loop" ⟨[.ref it,key,.ref S],[]⟩) R s:=by
 refine Zeo (P:=fun f s'=>match f with| .done x=>R (.ok x) s'| .again _=>False) (fun f s' z=>by cases f with|done x=>exact z|again _=>exact z.elim) ?_;show wpAny _ _ (seqItems? (.ref S)>>=_) _ _ s;refine wpAny_bind (wpAny_seqItems hS rfl (show wpAny _ _ (tryCatch (pyNext (.ref it)) _>>=_) _ _ s from ?_));refine wpAny_bind (wpAny_tryCatch (hn _ _ fun h' tk k=> ?_));show wpAny _ _ (updateSeq S (fun _=> #[])>>=_) _ _ _
 exact wpAny_bind (wpAny_updateSeq (kp h' k) rfl (wpAny_bind (wpAny_letGo (wpAny_pure (q h' tk k)))))
theorem Zkg{Kv:Value->Heap->Prop}{G:Value->Value->Shared->Prop}{ub uk:Value}(hk:key≠.none)(hS:s.heap.get? S=some (seqObj "list" #[ub,uk] c))(hn:∀(Q:Option Value->Shared->Prop) (E:Value->Shared->Prop),(∀v h' tk,Kv v h'->Q (some v) {s with heap:=h',toks:=tk})->wpAny (model prog w) B.in1 (pyNext (.ref it)) Q E s)
  (hc:∀v h' tk,Kv v h'->wpAny (model prog w) B.in1 (call key [v]) (G v) (fun _ _=>False) {s with heap:=h',toks:=tk})
  (q:∀v kv s2,G v kv s2->∃k,RcP prog w B.in1 s2 .Lt kv uk k/\s2.heap.get? S=some (seqObj "list" #[ub,uk] c)/\
   (k=true->codeAny (model prog w) B (.builtin "min.loop" ⟨[.ref it,key,.ref S],[]⟩) R {s2 with heap:=s2.heap.update S (Obj.mapSeq fun _=> #[v,kv])})/\(k=false->codeAny (model prog w) B (.builtin "min.loop" ⟨[.ref it,key,.ref S],[]⟩) R s2)):
  codeAny (model prog w) B (.builtin "min.loop" ⟨[.ref it,key,.ref S],[]⟩) R s:=by
 refine Zeo (P:=fun f s'=>f=.again (.builtin "min.loop" ⟨[.ref it,key,.ref S],[]⟩)/\codeAny (model prog w) B (.builtin "min.loop" ⟨[.ref it,key,.ref S],[]⟩) R s') (fun f s' z=>by rw[z.1];exact⟨plainId_quiet F.plain_min_loop _,z.2⟩) ?_
 show wpAny _ _ (seqItems? (.ref S)>>=_) _ _ s;refine wpAny_bind (wpAny_seqItems hS rfl (show wpAny _ _ (tryCatch (pyNext (.ref it)) _>>=_) _ _ s from ?_));refine wpAny_bind (wpAny_tryCatch (hn _ _ fun v h' tk k=> ?_));cases key with
 |none=>exact absurd rfl hk
 |_=>
  show wpAny _ _ (tryCatch (holding [v] (call _ [v])) _>>=_) _ _ _;refine wpAny_bind (wpAny_tryCatch (wpAny_holding (wpAny_mono (hc v h' tk k) (fun kv s2 g=> ?_) fun _ _ z=>z.elim)));obtain⟨b,rc,gS,yes,no⟩:=q v kv s2 g;show wpAny _ _ (tryCatch (holding [v,kv] (richCompare .Lt kv uk>>=_)) _>>=_) _ _ _;refine wpAny_bind (wpAny_tryCatch (wpAny_holding (wpAny_bind (rc _ _ (wpAny_bind (wpAny_holding (wpAny_truthy_bool (wpAny_bind (wpAny_letGo (wpAny_pure ?_))))))))))
  cases b with
  |true=>
   refine wpAny_ite_split (fun _=>wpAny_bind (wpAny_updateSeq gS rfl (wpAny_bind (wpAny_letGo ?_)))) (fun z=>absurd rfl z);exact wpAny_pure ⟨rfl,yes rfl⟩
  |false=>
   refine wpAny_ite_split (fun z=>nomatch z) (fun _=>wpAny_bind (wpAny_letGo ?_));exact wpAny_pure ⟨rfl,no rfl⟩
theorem Zj4{Kv:Value->Heap->Prop}{G:Value->Value->Shared->Prop}(hk:key≠.none)(hS:s.heap.get? S=some (seqObj "list" #[] c))(hn:∀(Q:Option Value->Shared->Prop) (E:Value->Shared->Prop),(∀v h' tk,Kv v h'->Q (some v) {s with heap:=h',toks:=tk})->wpAny (model prog w) B.in1 (pyNext (.ref it)) Q E s)
  (hc:∀v h' tk,Kv v h'->wpAny (model prog w) B.in1 (call key [v]) (G v) (fun _ _=>False) {s with heap:=h',toks:=tk})
  (q:∀v kv s2,G v kv s2->s2.heap.get? S=some (seqObj "list" #[] c)/\codeAny (model prog w) B (.builtin "min.loop" ⟨[.ref it,key,.ref S],[]⟩) R {s2 with heap:=s2.heap.update S (Obj.mapSeq fun _=> #[v,kv])}):
  codeAny (model prog w) B (.builtin "min.loop" ⟨[.ref it,key,.ref S],[]⟩) R s:=by
 refine Zeo (P:=fun f s'=>f=.again (.builtin "min.loop" ⟨[.ref it,key,.ref S],[]⟩)/\codeAny (model prog w) B (.builtin "min.loop" ⟨[.ref it,key,.ref S],[]⟩) R s') (fun f s' z=>by rw[z.1];exact⟨plainId_quiet F.plain_min_loop _,z.2⟩) ?_
 show wpAny _ _ (seqItems? (.ref S)>>=_) _ _ s;refine wpAny_bind (wpAny_seqItems hS rfl (show wpAny _ _ (tryCatch (pyNext (.ref it)) _>>=_) _ _ s from ?_));refine wpAny_bind (wpAny_tryCatch (hn _ _ fun v h' tk k=> ?_));cases key with
 |none=>exact absurd rfl hk
 |_=>
  show wpAny _ _ (tryCatch (holding [v] (call _ [v])) _>>=_) _ _ _;refine wpAny_bind (wpAny_tryCatch (wpAny_holding (wpAny_mono (hc v h' tk k) (fun kv s2 g=> ?_) fun _ _ z=>z.elim)));obtain⟨gS,yes⟩:=q v kv s2 g;show wpAny _ _ (updateSeq S (fun _=> #[v,kv])>>=_) _ _ _;refine wpAny_bind (wpAny_updateSeq gS rfl ?_);exact wpAny_pure ⟨rfl,yes⟩
end
theorem Zfn{l it:Addr}{oI:Obj}{ps:List (Addr×Obj)}{xs:List V}{j:Nat}{x:V}(hh:X.A.handled=none)(nl:l≠it)(lI:Zel X it)(n:∀p∈ps,p.1≠it)(hq:SqL X.K H l xs)(hx:xs[j]? =some x)(I:L2.Inv X ((it,oI)::ps) σ H s)(hit:s.heap.IsListIter it l j)(Q:Option Value->Shared->Prop)(E:Value->Shared->Prop)
  (q:∀v h' tk,(ZR x v/\∀tk',∃o,L2.Inv X ((it,o)::ps) σ H {s with heap:=h',toks:=tk'}/\∀h2:Heap,h2.get? it=some o->h2.IsListIter it l (j+1))->Q (some v) {s with heap:=h',toks:=tk}):wpAny (model X.prog X.w) X.A.in1 (pyNext (.ref it)) Q E s:=by
 obtain⟨vs,rx,pl,_⟩:=I.list hq;have lt:j<vs.length:=by rw[<-rx.length];exact(List.getElem?_eq_some_iff.mp hx).1
 refine(Walks.list (prog:=X.prog) (w:=X.w) (A:=X.A.in1) hh it l nl vs.toArray).item j s Q E (by rw[List.size_toArray];exact lt) ⟨hit,pl.isList⟩ fun v h' tk pv st kp=>q v h' tk ⟨?_,fun tk'=> ?_⟩
 ·have e:vs[j]? =some v:=by simpa using pv
  have r:=ZfO rx j lt;rw[List.getD_eq_getElem?_getD,List.getD_eq_getElem?_getD,hx,e] at r
  exact r
 ·obtain⟨⟨o,e1,e2,e3⟩,_⟩:=st;exact⟨o,Zke I lI n (fun b u nb e=>kp b u (by simpa using nb) e) e1 (fun v z=>by rw[e3] at z;cases z),fun h2 e=>⟨o,e,e2,e3⟩⟩
theorem Zj5{E:Value->Shared->Prop}{l it S:Addr}{xs:List V}{R:VK}(hh:X.A.handled=none)(F:YD X.prog X.w X.K X.mg X.base CX0 k g fd [p] sp)(hb:JL X.K fd [p] [])(hr:Xc (k+1) X.A)(lI:Zel X it)(lS:Zel X S)(nIS:S≠it)(nl:l≠it)(nI:∀p∈pins,p.1≠it)(nS:∀p∈pins,p.1≠S):
  ∀(r:List V) (j:Nat) (H:Hp) (s:Shared) (b kb:V) (ub uk:Value) (c:Nat) (oI:Obj),xs.drop j=r->j<=xs.length->L2.Inv X ((it,oI)::(S,seqObj "list" #[ub,uk] c)::pins) σ H s->s.heap.IsListIter it l j->ZR b ub->ZR kb uk->mnk X.K sp l xs r b kb H R->
   codeAny (model X.prog X.w) X.A (.builtin "min.loop" ⟨[.ref it,.ref g,.ref S],[]⟩) (Zo2 X pins σ R E) s:=by
 have hu:X.A.in1.units+10<cLine:=by
  have:=hr.units;show X.A.units+1+10<cLine;omega
 have two:∀(o:Obj) (p:Addr×Obj),p∈(S,o)::pins->p.1≠it:=fun o p hp=>by
  obtain rfl|m:=List.mem_cons.mp hp
  ·exact nIS
  ·exact nI p m
 have one:∀(o:Obj) (p:Addr×Obj),p∈(it,o)::pins->p.1≠S:=fun o p hp=>by
  obtain rfl|m:=List.mem_cons.mp hp
  ·exact fun z=>nIS z.symm
  ·exact nS p m
 intro r
 induction r with
 |nil=>
  intro j H s b kb ub uk c oI hj hjl I hit rb rk h;obtain⟨vs,rx,pl,_⟩:=I.list h.1;have hl:vs.toArray.size=j:=by
   rw[List.size_toArray,<-rx.length];exact Nat.le_antisymm (List.drop_eq_nil_iff.mp hj) hjl
  have pI:=I.pin (it,oI) (List.mem_append_right _ (.head _));have pS:=I.pin (S,seqObj "list" #[ub,uk] c) (List.mem_append_right _ (.tail _ (.head _)));have J0:L2.Inv X ((S,seqObj "list" #[ub,uk] c)::pins) σ H s:=I.pins_of fun p hp=>I.pin p (List.mem_append_right _ (.tail _ hp));have J1:∀h' tk',(∀b o,b∉[it]->s.heap.get? b=some o->h'.get? b=some o)->L2.Inv X ((S,seqObj "list" #[ub,uk] c)::pins) σ H {s with heap:=h',toks:=tk'}:=fun h' tk' kp=>J0.turned (it:=it) (t':=tk') (fun b u n e=>kp b u (by simpa using n) e) pI.2.1 pI.2.2.1 (.inr lI.new) lI.cells fun p hp=>(List.mem_append.mp hp).elim (lI.pn p) (two _ p)
  refine Zlt (Kp:=fun h'=>∀b o,b∉[it]->s.heap.get? b=some o->h'.get? b=some o) pS.1 (fun Q E q=>(Walks.list (prog:=X.prog) (w:=X.w) (A:=X.A.in1) hh it l nl vs.toArray).done s Q E ⟨by rw[hl];exact hit,pl.isList⟩ q) (fun h' kp=>kp S _ (by simpa using nIS) pS.1) fun h' tk kp=> ?_
  have J2:=ZbJ (J1 h' tk kp) lS nS Yv (get?_update_seq (kp S _ (by simpa using nIS) pS.1) fun _=> #[]) YS;exact⟨b,H,J2.pins_of fun p hp=>J2.pin p (List.mem_append_right _ (.tail _ hp)),rb,h.2⟩
 |cons x r ih=>
  intro j H s b kb ub uk c oI hj hjl I hit rb rk h;have hjx:xs[j]? =some x:=by
   have e:=congrArg List.head? hj;rw[List.head?_drop] at e
   exact e
  have hjn:xs.drop (j+1)=r:=by
   rw[<-List.tail_drop,hj]
   rfl
  have hlx:j+1<=xs.length:=(List.getElem?_eq_some_iff.mp hjx).1;have pS:=I.pin (S,seqObj "list" #[ub,uk] c) (List.mem_append_right _ (.tail _ (.head _)));refine Zkg (fun z=>nomatch z) pS.1 (Zfn hh nl lI (two _) h.1 hjx I hit)
   (fun v h' tk ⟨rv,mv⟩=> ?_) (G:=fun v kv s2=>∃kx H2 o,ZR x v/\ZR kx kv/\L2.Inv X ((it,o)::(S,seqObj "list" #[ub,uk] c)::pins) σ H2 s2/\(∀h2:Heap,h2.get? it=some o->h2.IsListIter it l (j+1))/\∃y z,Rep X.K H2 (kyD y) kx/\Rep X.K H2 (kyD z) kb/\(ZcB y z=true->mnk X.K sp l xs r x kx H2 R)/\(ZcB y z=false->mnk X.K sp l xs r b kb H2 R)) fun v kv s2 ⟨kx,H2,o,rv,rkx,J2,hi2,y,z,r1,r2,ht,hf⟩=> ?_
  ·obtain⟨o,J1,hi1⟩:=mv tk;exact wpAny_mono (Zfm F hb hr J1 rv h.2) (fun kv s2 ⟨kx,H2,J2,rkx,rest⟩=>⟨kx,H2,o,rv,rkx,J2,hi1,rest⟩) fun _ _ z=>z
  ·have pS2:=J2.pin (S,seqObj "list" #[ub,uk] c) (List.mem_append_right _ (.tail _ (.head _)));have pI2:=J2.pin (it,o) (List.mem_append_right _ (.head _));refine⟨_,Zny J2 r1 r2 rkx rk hu,pS2.1,fun e=> ?_,fun e=>ih (j+1) H2 _ b kb ub uk c o hjn hlx J2 (hi2 _ pI2.1) rb rk (hf e)⟩;have J4:=ZcL (ZbJ (ZcL J2) lS (one o) Yv (get?_update_seq pS2.1 fun _=> #[v,kv]) YS);exact ih (j+1) H2 _ x kx v kv _ o hjn hlx J4 (hi2 _ (J4.pin (it,o) (List.mem_append_right _ (.head _))).1) rv rkx (ht e)
theorem Zj6{E:Value->Shared->Prop}{l:Addr}{x:V}{xs:List V}{Q:VK}(hh:X.A.handled=none)(F:YD X.prog X.w X.K X.mg X.base CX0 k g fd [p] sp)(hb:JL X.K fd [p] [])(hr:Xc (k+1) X.A)(I:L2.Inv X pins σ H s)(hq:SqL X.K H l (x::xs))(h:sp [x] H (fun k H2=>mnk X.K sp l (x::xs) xs x k H2 Q) fun _ _ _=>False):
  wpAny (model X.prog X.w) X.A (call (.builtin "min") [.ref l] [(Str.ofString "key",.ref g)]) (EP X pins σ Q) E s:=by
 obtain⟨vs,rx,pl,_⟩:=I.list hq;have nl:l≠s.heap.objs.size:=Nat.ne_of_lt (let ⟨_,e,_⟩:=pl.isList;Heap.lt_size e)
 refine kmk_tree (Q:=EP X pins σ Q) PySem.F.kind_min PySem.F.plain_min PySem.F.entry_min (kmk_min_key (.ref l) (.ref g)) ?_;show wpAny _ X.A.in1 (Builtin.Builtins.bindParams "min" ["key","default"] 0 ⟨[],[(Str.ofString "key",.ref g)]⟩>>=_) _ _ s;have bp:Builtin.Builtins.bindParams "min" ["key","default"] 0 ⟨[],[(Str.ofString "key",Value.ref g)]⟩=pure [some (.ref g),none]:=rfl;refine wpAny_bind (wpAny_of_eq bp (wpAny_bind (wpAny_pure (wpAny_bind (wpAny_pyIter_list pl.isList (wpAny_bind (wpAny_newList ?_ (Nat.zero_le _))))))))
 rw[Zkf];generalize ho:({cls:=.type "list_iterator",data:=.fields #[.ref l,.int 0 0]}:Obj)=oI;have sz1:(s.heap.push oI).objs.size=s.heap.objs.size+1:=size_push' ..;rw[sz1];have gI:((s.heap.push oI).push (seqObj "list" #[] 0)).get? s.heap.objs.size=some oI:=Heap.get?_push_of_some _ (Heap.get?_push_size _ (by rw[<-ho];rfl))
 have gS:((s.heap.push oI).push (seqObj "list" #[] 0)).get? (s.heap.objs.size+1)=some (seqObj "list" #[] 0):=by rw[<-sz1];exact Heap.get?_push_size _ rfl
 have lI:Zel X s.heap.objs.size:=ZdZ I (Nat.le_refl _);have lS:Zel X (s.heap.objs.size+1):=ZdZ I (Nat.le_succ _);have fresh:∀a,s.heap.objs.size<=a->H a=none/\a≠X.env.locals/\a∉X.fs:=fun a ha=>⟨I.hok.fresh ha,fun z=>absurd (z▸ha) (Nat.not_le.mpr I.lt),I.nofs ha⟩
 have old:∀p∈pins,p.1<s.heap.objs.size:=fun p hp=>Heap.lt_size (I.pin p (List.mem_append_right _ hp)).1;have nI:∀p∈pins,p.1≠s.heap.objs.size:=fun p hp=>Nat.ne_of_lt (old p hp);have nS:∀p∈pins,p.1≠s.heap.objs.size+1:=fun p hp=>Nat.ne_of_lt (Nat.lt_succ_of_lt (old p hp));have I0:L2.Inv X pins σ H {s with heap:=(s.heap.push oI).push (seqObj "list" #[] 0)}:=I.kept (t':=s.toks) fun b u e=>Heap.get?_push_of_some _ (Heap.get?_push_of_some _ e)
 have I1:L2.Inv X ((s.heap.objs.size,oI)::(s.heap.objs.size+1,seqObj "list" #[] 0)::pins) σ H {s with heap:=(s.heap.push oI).push (seqObj "list" #[] 0)}:=I0.pins_of fun p hp=>by
  obtain rfl|m:=List.mem_cons.mp hp
  ·exact⟨gI,(fresh _ (Nat.le_refl _)).1,(fresh _ (Nat.le_refl _)).2.1,(fresh _ (Nat.le_refl _)).2.2,fun v z=>by rw[<-ho] at z;cases z⟩
  ·obtain rfl|m:=List.mem_cons.mp m
   ·exact⟨gS,(fresh _ (Nat.le_succ _)).1,(fresh _ (Nat.le_succ _)).2.1,(fresh _ (Nat.le_succ _)).2.2,YS⟩
   ·exact I0.pin p (List.mem_append_right _ m)
 have nIS:s.heap.objs.size+1≠s.heap.objs.size:=Nat.succ_ne_self _;have hit0:((s.heap.push oI).push (seqObj "list" #[] 0)).IsListIter s.heap.objs.size l 0:=⟨oI,gI,by rw[<-ho],by rw[<-ho];rfl⟩
 refine wpAny_pure (And.intro (plainId_quiet PySem.F.plain_min_loop _) ?_);generalize hs1:({s with heap:=(s.heap.push oI).push (seqObj "list" #[] 0)}:Shared)=s1 at I1
 have hit1:s1.heap.IsListIter s.heap.objs.size l 0:=by rw[<-hs1];exact hit0
 generalize s.heap.objs.size=it at*
 have two:∀p∈(it+1,seqObj "list" #[] 0)::pins,p.1≠it:=fun p hp=>by
  obtain rfl|m:=List.mem_cons.mp hp
  ·exact nIS
  ·exact nI p m
 have pS:=I1.pin (it+1,seqObj "list" #[] 0) (List.mem_append_right _ (.tail _ (.head _)));refine Zj4 (fun z=>nomatch z) pS.1 (Zfn hh nl lI two hq (j:=0) (x:=x) rfl I1 hit1)
  (fun v h' tk ⟨rv,mv⟩=> ?_) (G:=fun v kv s2=>∃kx H2 o,ZR x v/\ZR kx kv/\L2.Inv X ((it,o)::(it+1,seqObj "list" #[] 0)::pins) σ H2 s2/\(∀h2:Heap,h2.get? it=some o->h2.IsListIter it l (0+1))/\mnk X.K sp l (x::xs) xs x kx H2 Q) fun v kv s2 ⟨kx,H2,o,rv,rkx,J2,hi2,mk⟩=> ?_
 ·obtain⟨o,J1,hi1⟩:=mv tk;exact wpAny_mono (Zfm F hb hr J1 rv h) (fun kv s2 ⟨kx,H2,J2,rkx,rest⟩=>⟨kx,H2,o,rv,rkx,J2,hi1,rest⟩) fun _ _ z=>z
 ·have pS2:=J2.pin (it+1,seqObj "list" #[] 0) (List.mem_append_right _ (.tail _ (.head _)));have J4:=ZcL (ZbJ (ZcL J2) lS (fun p hp=>by
   obtain rfl|m:=List.mem_cons.mp hp
   ·exact fun z=>nIS z.symm
   ·exact nS p m) Yv (get?_update_seq pS2.1 fun _=> #[v,kv]) YS)
  exact⟨pS2.1,Zj5 (xs:=x::xs) hh F hb hr lI lS nIS nl nI nS xs 1 H2 _ x kx v kv _ o rfl (Nat.succ_le_succ (Nat.zero_le _)) J4 (hi2 _ (J4.pin (it,o) (List.mem_append_right _ (.head _))).1) rv rkx mk⟩
def Znz(K:PySem.W.Frag)(sp:Sp)(t:TA):TE:=fun σ H Q=>t σ H fun vs H1=>∃(l:Addr) (x:V) (xs:List V),vs=[.ref l]/\SqL K H1 l (x::xs)/\sp [x] H1 (fun k H2=>mnk K sp l (x::xs) xs x k H2 Q) fun _ _ _=>False
theorem Zlu{k:Nat}{x p:Str}{sp:Sp}{e:PySem.Expr}{t:TA}{p0 p1 p2 pos:Pos}(c:Cal X.prog X.w X.K X.mg X.base CX0 k x [p] sp)(hr:Xc (k+2) X.A)(hg:Gl X "min")(hm:X.mg "min"=none)(hgx:Gl X x)(ha:PA X [e] t)(hdb:(x==("__debug__":Str))=false:=by decide)
  (hs:starEach [e] X.env=[(false,eval e X.env)]:=by rfl):PE X (.Call (.Name "min" p0) [e] [⟨some "key",.Name x p1,p2⟩] pos) (Znz X.K sp t):=by
 intro pins s σ H Q I h;obtain⟨f,fd,hmx,hkp,hb,F⟩:=c.ex;refine wpAny_Call_Name_kw (ZbY I hg hm ZjD ?_ (by decide) (by decide));refine callWith_kw (thn (ha pos pins s σ H _ I h) fun us s1 z=> ?_) (by rw[hs];rfl) (by rw[hs];rfl)
 obtain⟨vs,H1,I1,r1,q1⟩:=z;obtain⟨l,x,xs,rfl,hq,hk⟩:=q1;obtain⟨u,rfl,ru⟩:=Zb2 r1;cases ru;refine kws_cons (Jk I1 hgx hmx (kws_nil ?_) hdb);exact Zj6 hr.hd F hb (hr.mono (Nat.le_succ _)) I1 hq hk
end
end L3
namespace L3
open PySem PySem.Spec PyProof.Rows L2
section
variable {P:Program} {w:World} (l:Addr) (xs:Array Value) (n:Nat) (d1:Option Addr) (s1:Array (Option Value)) (y:Value) (e:Nat->Bool)
theorem ZmE(k:Nat):∀i:Nat,xs.size-i=k->MeetsIn P w (Builtin.«list.__contains__.loop» ⟨[.ref l,y,rawInt i],[]⟩)
  (fun A R s=>s.heap.get? l=some (ZdK d1 xs n s1)/\(∀j (h1:j<xs.size),EqP P w A.in1 s xs[j] y (e j))/\R (.ok (.ret (.bool (((List.range xs.size).drop i).any e)))) s):=by
 induction k with
 |zero=>
  intro i hk A R s h;obtain⟨hq,gs,dr,tk,oss⟩:=s;obtain⟨u1,ue,q⟩:=h;have v1:xs[((i:Nat):Int).toNat]? =none:=by simp;omega
  have v3:(List.range xs.size).drop i=[]:=by simp;omega
  rw[v3] at q
  wp_walk using AutoSeq1.wpAny_loadPart' u1
  rw[v1]
  wp_walk
  exact q
 |succ k ih=>
  intro i hk A R s h;obtain⟨hq,gs,dr,tk,oss⟩:=s;obtain⟨u1,ue,q⟩:=h;have t1:i<xs.size:=by omega
  have v1:xs[((i:Nat):Int).toNat]? =some xs[i]:=by simp[t1]
  have v3:(List.range xs.size).drop i=i::(List.range xs.size).drop (i+1):=by simp[List.drop_eq_getElem_cons,t1]
  have v4:((i:Int)+1)=((i+1:Nat):Int):=by push_cast;rfl
  rw[v3,List.any_cons] at q
  wp_walk using AutoSeq1.wpAny_loadPart' u1
  rw[v1];refine wpAny_bind (ue i t1 _ _ ?_);cases ei:e i with
  |true=>
   rw[ei,Bool.true_or] at q
   wp_walk
   exact q
  |false=>
   rw[ei,Bool.false_or] at q
   wp_walk
   rw[v4];refine⟨plainId_quiet MeetsSeq.plain_contains_loop _,codeAny_builtin MeetsSeq.entry_contains_loop ?_⟩;rw[Around.under_plainId MeetsSeq.plain_contains_loop _];exact ih (i+1) (by omega) A R _ ⟨u1,ue,q⟩
theorem ZmF:MeetsIn P w (Builtin.«list.__contains__» ⟨[.ref l,y],[]⟩)
  (fun A R s=>s.heap.get? l=some (ZdK d1 xs n s1)/\(∀j (h1:j<xs.size),EqP P w A.in1 s xs[j] y (e j))/\R (.ok (.ret (.bool ((List.range xs.size).any e)))) s):=by
 intro A R s h;obtain⟨hq,gs,dr,tk,oss⟩:=s;obtain⟨u1,ue,q⟩:=h
 wp_walk using AutoSeq1.wpAny_loadPart' u1
 refine⟨plainId_quiet MeetsSeq.plain_contains_loop _,codeAny_builtin MeetsSeq.entry_contains_loop ?_⟩;rw[Around.under_plainId MeetsSeq.plain_contains_loop _];exact ZmE l xs n d1 s1 y e _ 0 rfl A R _ ⟨u1,ue,by simpa using q⟩
end
section
variable {X:Cx} {pins:List (Addr×Obj)} {σ:L2.St} {H:Hp} {s:Shared} {A:Around} {E:Value->Shared->Prop}
theorem Zkh{l:Addr}{xs:Array Value}{y:Value}{e:Nat->Bool}{Q:Value->Shared->Prop}(hl:s.heap.IsList l xs)(he:∀j (h1:j<xs.size),EqP X.prog X.w A.in1 s xs[j] y (e j))(q:∀b,b=(List.range xs.size).any e->Q (.bool b) s):
  wpAny (model X.prog X.w) A (call (.builtin "list.__contains__") [.ref l,y]) (fun v s'=>∃b,v=.bool b/\Q (.bool b) s') E s:=by
 obtain⟨⟨c1,d1,t1,s1⟩,o1,k1,n,e1⟩:=id hl;simp only at k1 e1
 subst k1 e1;exact call_meetsIn F.slot_list_contains hl.typeIs F.entry_list_contains (F.args_list_contains_2 _ _) (ZmF l xs n d1 s1 y e) ⟨o1,he,_,rfl,q _ rfl⟩
theorem Zj7{α:Type}(f:α->Bool)(d:α):∀l:List α,((List.range l.length).any fun j=>f (l.getD j d))=l.any f:=by
 intro l;have e:l=(List.range l.length).map fun j=>l.getD j d:=by
  apply List.ext_getElem
  ·simp
  ·intro i h1 h2;simp[h1]
 conv=>rhs;rw[e]
 rw[List.any_map]
 rfl
def ZnA(K:PySem.W.Frag)(neg:Bool):R2:=fun x y H Q=>∃p n d xs ds,y=.ref p/\n<=20/\SqL K H p xs/\Rep K H d x/\Zgu K H ds xs/\(∀e∈ds,Jp n e d=true)/\Q (.bl (if neg then !(ds.any fun e=>YQ n e d) else ds.any fun e=>YQ n e d)) H
theorem Zlv(I:L2.Inv X pins σ H s){p:Addr}{n:Nat}{d:Dt}{x:V}{v:Value}{xs:List V}{ds:List Dt}(hn:n<=20)(hu:X.A.units+30<cLine)(rx:ZR x v)(r1:Rep X.K H d x)(rs:Zgu X.K H ds xs)(lk:∀e∈ds,Jp n e d=true){us:List Value}(ru:ZW xs us):
  ∀j (h1:j<us.toArray.size),EqP X.prog X.w X.A.in1 s us.toArray[j] v (YQ n (ds.getD j (.v .non)) d):=fun j h1=>by
 have h2:j<us.length:=by simpa using h1
 obtain⟨y,ry,rv⟩:=ZdT rs ru j h2;have hj:j<ds.length:=by rw[Paired.length rs,ru.length];exact h2
 have m:ds.getD j (.v .non)∈ds:=by rw[List.getD_eq_getElem?_getD,List.getElem?_eq_getElem hj];exact List.getElem_mem hj
 rw[List.getElem_toArray];exact(Zcw I n _ d y x _ v X.A.in1 ry r1 rv rx (lk _ m) (by show X.A.units+1+n<cLine;omega)).1
theorem Zj8(hu:X.A.units+30<cLine):OpR X (compareOp .NotIn) (ZnA X.K true):=by
 intro pins s σ H x y v u Q I rx ry h;obtain⟨p,n,d,xs,ds,rfl,hn,hq,r1,rs,lk,q⟩:=h;cases ry;obtain⟨us,ru,pl,_⟩:=I.list hq;show wpAny _ X.A (do return Value.bool (!(<-contains (.ref p) v))) _ _ s;refine wpAny_bind (wpAny_contains_slot pl.isList.typeIs F.slot_list_contains (wpAny_mono (Zkh (X:=X) (Q:=fun v s'=>∃b,v=.bool b/\EP X pins σ Q (.bool (!b)) s') pl.isList (Zlv (p:=p) I hn hu rx r1 rs lk ru) fun b hb=>⟨b,rfl,.bl (!b),H,I,rfl, ?_⟩) (fun v s' hv=> ?_) fun _ _ e=>e))
 ·have le:us.toArray.size=ds.length:=by rw[List.size_toArray,<-ru.length,Paired.length rs]
  rw[hb,le,Zj7 (fun e=>YQ n e d)];exact q
 ·obtain⟨b,rfl,b',e,told⟩:=hv;cases e;exact wpAny_truthy_bool (wpAny_pure told)
theorem ZhI{K:PySem.W.Frag}(eK:X.K=K)(hu:X.A.units+30<cLine):OpR X (compareOp .NotIn) (ZnA K true):=by
 subst eK;exact Zj8 hu
end
end L3
namespace L3
open PySem PySem.Spec PyProof.Rows L2 PySem.W PySem.Calls
section
variable {X:Cx}
end
end L3
namespace L3
open PySem PySem.Spec PyProof.Rows L2 PySem.W PySem.Calls
section
variable {X:Cx} {pins:List (Addr×Obj)} {σ:L2.St} {H:Hp} {s:Shared} {a:Addr} {kvs:List (Key×V)} {k:Key} {u:Value} {A:Around} {E:Value->Shared->Prop}
end
section
variable {X:Cx} {o e f:PySem.Expr} {apos cpos:Pos} {td ty tx:TE}
end
end L3
namespace L3
open PySem PySem.Spec PyProof.Rows L2
section
variable {X:Cx} {K:PySem.W.Frag}
theorem Zki{tg l:Expr}{tl:TE}(eK:X.K=K)(hl:PE X l tl):PI X tg l (ZlI K tl):=by
 subst eK;exact Jl hl
theorem Zlw(eK:X.K=K)(hu:X.A.units+30<cLine):OpR X (compareOp .NotEq) (Znq K true):=by
 subst eK;exact Zmo hu
theorem ZgM(eK:X.K=K)(hc:X.calm=true):JK X (.builtin "any") (fun xs H Q=>∃(p:Addr) (bs:List Bool),xs=[.ref p]/\SqL K H p (bs.map V.bl)/\Q (.bl (bs.any id)) H):=by
 subst eK;exact Zeh hc
end
theorem ZhJ{M:Model}{A:Around}{E:Value->Shared->Prop}{s:Shared}{scope:Scope}{gl:Addr}{cl:List (Str×Addr)}{qual x:Str}{env:Env}{Q:Env->Shared->Prop}
  (h1:∀n,cellsFrom n scope.names cl=(x,n)::cl)(h2:∀h:Heap,pushCells h scope.names=h.push {cls:=.type "cell",data:=.cell none})
  (hQ:Q (newEnv scope s.heap.objs.size gl ((x,s.heap.objs.size+1)::cl) qual none .none (some env) builtinsNs) {s with heap:=(s.heap.push {cls:=.type "dict",data:=.dict #[]}).push {cls:=.type "cell",data:=.cell none}}):
  wpAny M A (newFunctionEnv scope gl cl [] qual none .none (some env)) Q E s:=by
 unfold newFunctionEnv;refine wpAny_bind (wpAny_alloc (wpAny_bind (wpAny_layCells _ (fun n k cs=> ?lay) _ _ _ _ (wpAny_bind ?rest))))
 case lay=>cases z:k==NameKind.cell<;>simp[z]
 case rest=>
  rw[List.forIn_nil,h1,h2,Heap.size_push];exact wpAny_pure (wpAny_pure hQ)
def YW(X:Cx)(x:Str)(N:List Str)(scope:Scope)(cl:List (Str×Addr))(C:Addr)(s:Shared)(H:Hp)(fp:List Addr):Cx:=
 {X with N:=N,s₀:=s,H₀:=H,env:=compEnvC scope ((x,C+1)::cl) C X.env,outer:=X.stack,stack:=X.stack,ex:=fp,fn:=fun y=>y==x,pn:=[],xe:=fun _ _=>False}
def ZcM(x:Str)(scope:Scope)(env:Env)(cl:List (Str×Addr)):Bool:=
 scope.kind==.function&&scope.names.all (fun y=>y.2 !=.local||scope.names.lookup y.1==some .local)&&
 (relabel scope env).names.all (fun y=> !ZfC (some y.2)||y.1==x||(cl.lookup y.1).isSome)
theorem Jh{x y:Str}{a c:Addr}{cl:List (Str×Addr)}(h:((x,a)::cl).lookup y=some c):(y=x/\c=a)\/(y≠x/\cl.lookup y=some c):=by
 by_cases e:y=x
 ·subst e;simp only [List.lookup_cons,beq_self_eq_true] at h
  exact .inl ⟨rfl,(Option.some.inj h).symm⟩
 ·have hb:(y==x)=false:=by simpa using e
  simp only [List.lookup_cons,hb] at h
  exact .inr ⟨e,h⟩
theorem ZdG{x:Str}{a:Addr}{cl:List (Str×Addr)}:((x,a)::cl).lookup x=some a:=by simp only [List.lookup_cons,beq_self_eq_true]
theorem ZcN{x y:Str}{a:Addr}{cl:List (Str×Addr)}(h:y≠x):((x,a)::cl).lookup y=cl.lookup y:=by
 have hb:(y==x)=false:=by simpa using h
 simp only [List.lookup_cons,hb]
theorem ZhK{X:Cx}{elt tg iter:Expr}{ifs:List Expr}{scope:Scope}{pos ipos:Pos}{wi:TI}{g:TG}{tc:TT}{te:TE}{cl:List (Str×Addr)}(xo:Str)(own:List Str)(fr:List (Str×Nat))
  (h1:∀n,cellsFrom n scope.names cl=(xo,n)::cl)(h2:∀h:Heap,pushCells h scope.names=h.push {cls:=.type "cell",data:=.cell none})(hne:∀p∈fr,p.1≠xo)
  (hc:X.calm=true)(hi:PI X tg iter wi)
  (hclos:closureFor scope X.env=pure cl)(hcl:Zgq X cl)(hok:ZcM xo scope X.env cl=true)(hfr:Zgp X scope fr)
  (hg:∀C s H fp,PG (YW X xo (nmY own fr) scope cl C s H fp) tg g)(ht:∀C s H fp,PTs (YW X xo (nmY own fr) scope cl C s H fp) ifs tc)(he:∀C s H fp,PE (YW X xo (nmY own fr) scope cl C s H fp) elt te)
  (hs:∀x,foldedSetIterable iter X.env x=pure x){pins:List (Addr×Obj)}{s:Shared}{σ:L2.St}{H:Hp}{Q:VK}{use:Option (Value->Sem Unit)}{PQ:Value->Shared->Prop}(I:Inv X pins σ H s)(h:Zgr wi own fr g tc te σ H Q)
  (hend:∀(s6:Shared) (H5:Hp) (C D:Addr) (m:Str->Option Value),Inv X pins σ H5 s6->s6.heap.Ns C m->Zd3 X pins H5 C->Q (.ref D) H5->compPost (model X.prog X.w) X.A X.xe use PQ (.ref D) C (.ok .next) s6):
  wpAny (model X.prog X.w) X.A (comprehension (.ListComp elt [⟨tg,iter,ifs,0⟩] scope pos) scope X.env ipos (newList []) false (eval iter X.env) use) PQ X.xe s:=by
 have ok1:scope.kind=.function:=by
  unfold ZcM at hok
  simp only [Bool.and_eq_true,beq_iff_eq] at hok
  exact hok.1.1
 have ok3:∀y∈scope.names,y.2=.local->scope.names.lookup y.1=some .local:=by
  unfold ZcM at hok
  simp only [Bool.and_eq_true,List.all_eq_true] at hok
  intro y hy e;have:=hok.1.2 y hy
  simpa [e] using this
 have ok4:∀x,(relabel scope X.env).names.lookup x=some .cell\/(relabel scope X.env).names.lookup x=some .free->x=xo\/∃c,cl.lookup x=some c:=by
  unfold ZcM at hok
  simp only [Bool.and_eq_true,List.all_eq_true] at hok
  intro x hx;have key:∀k,(relabel scope X.env).names.lookup x=some k->ZfC (some k)=true->x=xo\/∃c,cl.lookup x=some c:=fun k e hk=>by
   have:=hok.2 (x,k) (PySem.mem_of_lookup e);simp only [hk,Bool.not_true,Bool.false_or,Bool.or_eq_true,beq_iff_eq] at this
   rcases this with q|q
   ·exact .inl q
   ·exact .inr (Option.isSome_iff_exists.mp q)
  rcases hx with e|e
  ·exact key _ e rfl
  ·exact key _ e rfl
 refine wpAny_comprehension_free (use:=use) rfl hs hclos ok1 ok3 ?_;refine thn (hi pins s σ H _ I h) fun v s1 h1'=>thn h1' fun itv s2 h2'=> ?_;obtain⟨it,fp,tn,J,H2,e,I2,T,st2,f2,hD⟩:=h2';subst e;have lt2:∀b∈fp,b<s2.heap.objs.size:=fun b hb=>by
  obtain⟨o,e,_⟩:=T.obj _ _ st2 b hb;exact Heap.lt_size e
 refine wpAny_newObj_type (ZhJ h1 h2 ?_);obtain⟨W,⟨m0,w0⟩,turn⟩:=hD s2.heap.objs.size I2.fresh;have I3:Inv X pins σ (upd H2 s2.heap.objs.size (.lst [])) {s2 with heap:=s2.heap.push {cls:=.type "list",data:=.seq ([]:List Value).toArray}}:=I2.lnew (t':=s2.toks) .nil (Nat.zero_le _);have st3:=T.keep 0 _ (s2.heap.push {cls:=.type "list",data:=.seq ([]:List Value).toArray}) st2 fun b hb o e=>Heap.get?_push_of_some _ e
 have f3:∀b∈fp,Zd3 X pins (upd H2 s2.heap.objs.size (.lst [])) b:=fun b hb=>⟨by rw[Zf (Nat.ne_of_lt (lt2 b hb))];exact(f2 b hb).1,(f2 b hb).2⟩
 generalize hs3:({s2 with heap:=s2.heap.push {cls:=.type "list",data:=.seq ([]:List Value).toArray}}:Shared)=s3 at I3
 have es3:s3.heap=s2.heap.push {cls:=.type "list",data:=.seq ([]:List Value).toArray}:=by rw[<-hs3]
 have eg3:s3.gens=s2.gens:=by rw[<-hs3]
 have lt3:∀b∈fp,b<s3.heap.objs.size:=fun b hb=>by rw[es3,Heap.size_push];exact Nat.lt_succ_of_lt (lt2 b hb)
 rw[<-es3] at st3
 have hnot:∀y,cl.lookup y≠some (s3.heap.objs.size+1):=fun y e=>by
  obtain⟨v,z⟩:=I3.cell y _ (hcl.get y _ e);exact absurd z.lt (Nat.not_lt.mpr (Nat.le_succ _))
 generalize hs4:({s3 with heap:=(s3.heap.push {cls:=.type "dict",data:=.dict #[]}).push {cls:=.type "cell",data:=.cell none}}:Shared)=s4;have es4:s4.heap=(s3.heap.push {cls:=.type "dict",data:=.dict #[]}).push {cls:=.type "cell",data:=.cell none}:=by rw[<-hs4]
 have k34:∀b o,s3.heap.get? b=some o->s4.heap.get? b=some o:=fun b o e=>by rw[es4];exact Heap.get?_push_of_some _ (Heap.get?_push_of_some _ e)
 have hns:s4.heap.Ns s3.heap.objs.size (fun _=>none):=by
  rw[es4];exact(Heap.Ns.new s3.heap (.type "dict")).keeps fun b o e=>Heap.get?_push_of_some _ e
 have hcl4:s4.heap.IsCell (s3.heap.objs.size+1) none:=by
  rw[es4];have z:=Heap.get?_push_size (s3.heap.push {cls:=.type "dict",data:=.dict #[]}) (o:={cls:=.type "cell",data:=.cell none}) rfl;rw[Heap.size_push] at z
  exact⟨_,z,rfl⟩
 have st4:tn 0 s4.heap:=T.keep 0 _ _ st3 fun b hb o e=>k34 b o e;have IY:Inv (YW X xo (nmY own fr) scope cl s3.heap.objs.size s3 (upd H2 s2.heap.objs.size (.lst [])) fp) [] (frY own fr σ) (upd H2 s2.heap.objs.size (.lst [])) s4:=by
  refine⟨⟨I3.ok.mod,ok1,I3.ok.glob,I3.ok.blt,Nat.le_refl _,fun x y c e1 e2=> ?_,fun x hx=> ?_,fun x c z e=> ?_,I3.ok.hd,I3.ok.frames,.inl rfl,
   fun b hb=>⟨Nat.ne_of_lt (lt3 b hb),fun x c e=> ?_⟩,I3.bs,Nat.le_trans I3.ok.bsz I3.sz,fun b o e hb=> ?_,fun b hb z=> ?_,I3.stack,I3.stkFree⟩,
   by rw[<-hs4];rfl,by rw[<-hs4];exact I3.bare,Un.kept k34,⟨_,hns,fun i x v e1 e2 e3=> ?_⟩,fun x c e=> ?_,I3.hok.fresh (Nat.le_refl _),fun x c e=> ?_,fun p hp=>absurd hp (by simp[YW]),I3.hok.kept k34, ?_⟩
  ·rcases Jh e1 with ⟨q1,r1⟩|⟨q1,r1⟩<;>rcases Jh e2 with ⟨q2,r2⟩|⟨q2,r2⟩
   ·rw[q1,q2]
   ·exact absurd (r1▸r2) (hnot y)
   ·exact absurd (r2▸r1) (hnot x)
   ·exact I3.ok.inj x y c (hcl.get x c r1) (hcl.get y c r2)
  ·rcases ok4 x hx with q|⟨c,q⟩
   ·subst q;exact⟨_,ZdG⟩
   ·by_cases e:x=xo
    ·subst e;exact⟨_,ZdG⟩
    ·exact⟨c,(ZcN e).trans q⟩
  ·have z:x=xo:=by simpa [YW] using z
   rcases Jh e with ⟨_,r⟩|⟨q,_⟩
   ·rw[r];exact Nat.le_succ _
   ·exact absurd z q
  ·rcases Jh e with ⟨_,r⟩|⟨_,r⟩
   ·rw[r];exact fun z=>absurd (lt3 b hb) (by rw[<-z];exact Nat.not_lt.mpr (Nat.le_succ _))
   ·exact(f3 b hb).2.2.2.2.1 x c (hcl.get x c r)
  ·rcases(f3 b hb).2.2.2.1 with z|z
   ·exact I3.ok.noex b o e z
   ·exact absurd (Nat.lt_of_lt_of_le (Heap.lt_size (I3.ok.bs b o e).1) z) (Nat.lt_irrefl _)
  ·rcases List.mem_cons.mp (I3.stkSub b z) with q|q
   ·exact(f3 b hb).2.1 q
   ·exact(f3 b hb).2.2.1 q
  ·have e1:(own++fr.map (·.1))[i]? =some x:=e1;have e2:(own.map (fun _=>(none:Option V))++fr.map fun p=>σ.getD p.2 none)[i]? =some (some v):=e2;have hi:own.length<=i:=by
    refine Nat.le_of_not_lt fun hlt=> ?_;rw[List.getElem?_append_left (by simpa using hlt),List.getElem?_map] at e2
    cases q:own[i]? with
    |none=>rw[q] at e2;cases e2
    |some a=>rw[q] at e2;cases e2
   rw[List.getElem?_append_right hi,List.getElem?_map] at e1
   rw[List.getElem?_append_right (by simpa using hi),List.getElem?_map,List.length_map] at e2
   cases q:fr[i-own.length]? with
   |none=>rw[q] at e1;cases e1
   |some p=>
    rw[q] at e1 e2
    obtain rfl:p.1=x:=Option.some.inj e1;have e2:σ.getD p.2 none=some v:=Option.some.inj e2;have e4:σ[p.2]? =some (some v):=by
     rw[List.getD_eq_getElem?_getD] at e2
     cases z:σ[p.2]? with
     |none=>rw[z] at e2;cases e2
     |some a=>
      rw[z] at e2
      have e2:a=some v:=e2;rw[e2]
    have hp:=List.mem_of_getElem? q;obtain⟨n1,n2,n3⟩:=hfr.mem p hp;obtain⟨m,hn,hl⟩:=I3.loc;have vis:Vis X.env.scope p.1:=.inr (ZbD n2);obtain⟨u,r,l⟩:=hl p.2 p.1 v n1 e4 vis;refine⟨u,r, ?_⟩;rcases l with ⟨k,_⟩|⟨_,c,e,z⟩
    ·have k:X.env.scope.names.lookup p.1=some .local:=k;rw[k] at n2;cases n2
    ·rcases ok4 p.1 (ZbD n3) with q'|⟨c',e'⟩
     ·exact absurd q' (hne p hp)
     ·have e'':=hcl.get _ _ e';rw[e] at e''
      cases e'';obtain⟨o,ho,hd⟩:=z;exact .inr ⟨ZbD n3,c,(ZcN (hne p hp)).trans e',o,k34 c o ho,hd⟩
  ·rcases Jh e with ⟨_,r⟩|⟨_,r⟩
   ·rw[r];exact⟨none,hcl4⟩
   ·obtain⟨v,o,ho,hd⟩:=I3.cell x c (hcl.get x c r);exact⟨v,o,k34 c o ho,hd⟩
  ·rcases Jh e with ⟨_,r⟩|⟨_,r⟩
   ·rw[r];exact I3.hok.fresh (Nat.le_succ _)
   ·exact I3.freeC x c (hcl.get x c r)
  ·simp[frY,nmY,YW]
 have fY:∀{H':Hp} {s':Shared},(∀b∈fp,H' b=none)->∀b∈fp,Zd3 (YW X xo (nmY own fr) scope cl s3.heap.objs.size s3 (upd H2 s2.heap.objs.size (.lst [])) fp) [] H' b:=fun{H' _} hn b hb=>
  ⟨hn b hb,Nat.ne_of_lt (lt3 b hb),fun z=>by
   rcases List.mem_cons.mp (I3.stkSub b z) with q|q
   ·exact(f3 b hb).2.1 q
   ·exact(f3 b hb).2.2.1 q,.inl hb,IY.ok.exf b hb|>.2,fun p hp=>absurd hp (by simp[YW])⟩
 have loop:codeAny (model X.prog X.w) X.A (.compLoop (.ListComp elt [⟨tg,iter,ifs,0⟩] scope pos) 0 (.ref it) (.ref s2.heap.objs.size) (compEnvC scope ((xo,s3.heap.objs.size+1)::cl) s3.heap.objs.size X.env))
   (compPost (model X.prog X.w) X.A X.xe use PQ (.ref s2.heap.objs.size) s3.heap.objs.size) s4:=by
  refine Zia (fun n s'=>∃i ys H',Inv (YW X xo (nmY own fr) scope cl s3.heap.objs.size s3 (upd H2 s2.heap.objs.size (.lst [])) fp) [] (frY own fr σ) H' s'/\tn i s'.heap/\(∀b∈fp,H' b=none)/\W i n ys H') ?_ m0
   ⟨0,[],_,IY,st4,fun b hb=>(f3 b hb).1,w0⟩
  rintro n s5 ⟨i,ys,H5,I5,st5,fr5,w5⟩ E;obtain⟨d5,way⟩:=turn i n ys H5 w5;rcases way with ⟨stop,q⟩|⟨go,N,hN,step⟩
  ·refine thn (T.done (YW X xo (nmY own fr) scope cl s3.heap.objs.size s3 (upd H2 s2.heap.objs.size (.lst [])) fp) rfl rfl rfl hc i [] s5 _ H5 E I5 (fY (s':=s5) fr5) st5 stop) fun r s6 ⟨hr,I6⟩=> .inl ⟨hr, ?_⟩;obtain⟨m,hn,_⟩:=I6.loc;have I7:Inv X pins σ H5 s6:=I3.call' (s':=s6) (ch:=fp) I6.os I6.base I6.hok I6.bare (fun b hb=>⟨(f3 b hb).2.2.2.1,(f3 b hb).2.1,(f3 b hb).2.2.2.2.1,(f3 b hb).2.2.2.2.2⟩)
   exact hend s6 H5 _ _ m I7 hn (I3.fpOk (Nat.le_refl _) I6.free) q
  ·refine thn (T.item (YW X xo (nmY own fr) scope cl s3.heap.objs.size s3 (upd H2 s2.heap.objs.size (.lst [])) fp) rfl rfl rfl hc i [] s5 _ H5 E I5 (fY (s':=s5) fr5) st5 go) fun r s6 ⟨u,hr,h6⟩=> .inr ⟨u,hr, ?_⟩;refine thn h6 fun _ s7 ⟨x,H7,I7,r7,y7,st7,fr7⟩=> ?_;have I7':=I7.pinned (fY (s':=s7) fr7) (T.obj _ _ st7);refine up (thn (hg _ _ _ _ _ s7 _ H7 x u _ I7' r7 (step x H7 y7)) fun _ s8 ⟨σ8,H8,I8,x8,q8⟩=> ?_)
   refine up (thn (ht _ _ _ _ _ s8 σ8 H8 _ I8 q8) fun ok s9 ⟨H9,I9,q9⟩=> ?_);have again:∀{σ':L2.St} {H':Hp} {s':Shared} {zs:List V},Inv (YW X xo (nmY own fr) scope cl s3.heap.objs.size s3 (upd H2 s2.heap.objs.size (.lst [])) fp) ([]++Zd4 fp s7.heap) σ' H' s'->Ext (frY own fr σ) σ'->N zs H'->
     ∃m,m<n/\∃i ys H',Inv (YW X xo (nmY own fr) scope cl s3.heap.objs.size s3 (upd H2 s2.heap.objs.size (.lst [])) fp) [] (frY own fr σ) H' s'/\tn i s'.heap/\(∀b∈fp,H' b=none)/\W i m ys H':=fun{σ' H' s' zs} I' x' n'=>by
    obtain⟨m',hm,w'⟩:=hN zs H' n';refine⟨m',hm,i+1,zs,H',I'.unpinned.weak x'.len fun j v e=>x'.get j v e,T.keep _ _ _ st7 fun b hb o e=>(I'.pin (b,o) (List.mem_append_right _ (List.mem_append_right _ (Jc hb e)))).1,fun b hb=> ?_,w'⟩;obtain⟨o,e,_⟩:=T.obj _ _ st7 b hb;exact(I'.pin (b,o) (List.mem_append_right _ (List.mem_append_right _ (Jc hb e)))).2.1
   cases ok with
   |false=>
    rw[if_neg Bool.false_ne_true] at q9
    exact .inr ⟨rfl,again I9 x8 q9⟩
   |true=>
    rw[if_pos rfl] at q9
    refine .inl ⟨rfl,up (thn (he _ _ _ _ _ s9 σ8 H9 _ I9 q9) fun y s10 ⟨v10,H10,I10,r10,d10,z10,n10⟩=> ?_)⟩;refine up (thn (Xq _ s10 σ8 H10 (.ref s2.heap.objs.size) [v10] _ [y] (fun _ H'=>N (ys++[v10]) H') I10 rfl (.cons r10 .nil) ⟨s2.heap.objs.size,ys,v10,rfl,rfl,d10,z10,n10⟩) fun _ s11 ⟨v11,H11,I11,_,n11⟩=> ?_);exact again I11 x8 n11
 have ZaB:codeAny (model X.prog X.w) X.A (.compStart (.ListComp elt [⟨tg,iter,ifs,0⟩] scope pos) 0 (.ref it) (.ref s2.heap.objs.size) (compEnvC scope ((xo,s3.heap.objs.size+1)::cl) s3.heap.objs.size X.env))
   (compPost (model X.prog X.w) X.A X.xe use PQ (.ref s2.heap.objs.size) s3.heap.objs.size) s4:=codeAny_compStart_list loop (T.self _ _ _ _ _ st4 loop)
 exact ZaB
theorem Zkj{X:Cx}{elt tg iter:Expr}{ifs:List Expr}{scope:Scope}{pos:Pos}{wi:TI}{g:TG}{tc:TT}{te:TE}{cl:List (Str×Addr)}(xo:Str)(own:List Str)(fr:List (Str×Nat))
  (h1:∀n,cellsFrom n scope.names cl=(xo,n)::cl)(h2:∀h:Heap,pushCells h scope.names=h.push {cls:=.type "cell",data:=.cell none})(hne:∀p∈fr,p.1≠xo)
  (hc:X.calm=true)(hi:PI X tg iter wi)
  (hclos:closureFor scope X.env=pure cl)(hcl:Zgq X cl)(hok:ZcM xo scope X.env cl=true)(hfr:Zgp X scope fr)
  (hg:∀C s H fp,PG (YW X xo (nmY own fr) scope cl C s H fp) tg g)(ht:∀C s H fp,PTs (YW X xo (nmY own fr) scope cl C s H fp) ifs tc)(he:∀C s H fp,PE (YW X xo (nmY own fr) scope cl C s H fp) elt te)
  (hs:∀x,foldedSetIterable iter X.env x=pure x:=by intro _;rfl):PE X (.ListComp elt [⟨tg,iter,ifs,0⟩] scope pos) (Zgr wi own fr g tc te):=by
 intro pins s σ H Q I h;rw[eval_ListComp];refine ZhK (use:=none) xo own fr h1 h2 hne hc hi hclos hcl hok hfr hg ht he hs I h fun s6 H5 C D m I6 hn f q=>⟨m,hn,fun h' hs'=> ?_⟩
 exact⟨.ref D,H5,I6.turned (t':=s6.toks) (fun b o hb e=>(hs'.2 b hb).trans e) f.1 f.2.1 f.2.2.2.1 f.2.2.2.2.1 f.2.2.2.2.2,rfl,q⟩
end L3
namespace L3
open PySem PySem.Spec PyProof.Rows L2
section
variable {prog:Program} {w:World} {A:Around} {E:Value->Shared->Prop} {s:Shared}
section
variable {prog:Program} {w:World} {A:Around} {E:Value->Shared->Prop} {s:Shared}
end
end
section
variable {X:Cx} {pins:List (Addr×Obj)} {σ:L2.St} {H:Hp} {s:Shared}
end
end L3
namespace L3
open PySem PySem.Spec PyProof.Rows L2
section
variable {X:Cx}
end
end L3
namespace L3
open PySem PySem.Spec PyProof.Rows L2 PySem.W PySem.Calls
section
variable {X:Cx} {K:PySem.W.Frag}
end
section
variable {P:Program} {w:World} (l b:Addr) (xs ys:Array Value) (n m:Nat) (d1 d2:Option Addr) (s1 s2:Array (Option Value)) (e c:Nat->Bool)
end
section
variable {P:Program} {w:World} {A:Around} {s:Shared} {l b:Addr} {xs ys:Array Value} {e c:Nat->Bool}
end
section
variable {X:Cx} {pins:List (Addr×Obj)} {σ:L2.St} {H:Hp} {s:Shared} {A:Around}
end
section
variable {prog:Program} {w:World} {B:Around} {R:Result->Shared->Prop} {it S:Addr} {c:Nat} {s:Shared}
end
section
variable {X:Cx} {pins:List (Addr×Obj)} {σ:L2.St} {H:Hp} {s:Shared}
end
end L3
namespace L3
open PySem PySem.Spec PyProof.Rows L2
section
variable {X:Cx} {K:PySem.W.Frag}
end
end L3
namespace L3
open PySem PySem.Spec PyProof.Rows L2 PySem.W PySem.Calls
section
variable {X:Cx} {pins:List (Addr×Obj)} {σ:L2.St} {H:Hp} {s:Shared} {A:Around}
end
section
variable {prog:Program} {w:World} {B:Around} {R:Result->Shared->Prop} {it S:Addr} {c:Nat} {s:Shared}
end
section
variable {X:Cx} {pins:List (Addr×Obj)} {σ:L2.St} {H:Hp} {s:Shared}
end
end L3
namespace L3
open PySem PySem.Spec PyProof.Rows L2
section
variable {X:Cx} {K:PySem.W.Frag}
end
end L3
namespace L3
open PySem PySem.Spec PyProof.Rows L2
section
variable {X:Cx} {pins:List (Addr×Obj)} {σ:L2.St} {H:Hp} {s:Shared} {h':Heap}
end
section
variable {X:Cx} {pins:List (Addr×Obj)} {σ:L2.St} {H:Hp} {s:Shared}
end
end L3
namespace L3
open PySem PySem.Spec PyProof.Rows L2 PySem.W PySem.Calls
section
variable {X:Cx} {pins:List (Addr×Obj)} {σ:L2.St} {H:Hp} {s:Shared} {α:Type} {lt:α->α->Bool} {R:Hp->α->V->Prop} {d:α}
end
section
variable {X:Cx} {pins:List (Addr×Obj)} {σ:L2.St} {H:Hp} {s:Shared} {α:Type} {lt:α->α->Bool} {R:Hp->α->V->Prop} {d:α} {k:Nat} {g:Addr} {fd:FuncData} {p:Str} {sp:Sp}
end
end L3
namespace L3
open PySem PySem.Spec PyProof.Rows L2
end L3
namespace L3
open PySem PySem.Spec PyProof.Rows L2
end L3
namespace L3
open PySem PySem.Spec PyProof.Rows L2 PySem.W PySem.Calls
end L3
namespace L3
open PySem PySem.Spec PyProof.Rows L2 PySem.W PySem.Calls
section
variable {X:Cx} {pins:List (Addr×Obj)} {σ:L2.St} {H:Hp} {s:Shared} {A:Around}
end
end L3
namespace L3
open PySem PySem.Spec PyProof.Rows L2 PySem.W PySem.Calls
end L3
namespace L3
open PySem PySem.Spec PyProof.Rows L2 PySem.W PySem.Calls
section
variable {X:Cx}
end
section
variable {X:Cx} {K:PySem.W.Frag}
end
end L3
namespace L3
open PySem PySem.Spec PyProof.Rows L2 PySem.W PySem.Calls
section
variable {P:Program} {w:World} {K:Frag} {mg:Str->Option Value} {base:Heap} {N:List Str} {qual:Str} {scope:Scope} {f:Addr} {cdv:Value} {A:Around} {outer:List Env} {s₀:Shared} {H₀:Hp} {E:XK} {CX:CXT}
abbrev pinned(X:Cx)(pn:List (Addr×Obj)):Cx:={X with pn:=pn,xe:=fun _ _=>False}
abbrev Zj9(P:Program)(w:World)(X:Cx)(pn:List (Addr×Obj))(E':XK):Cx:={X with pn:=pn,xe:=fun ev s'=>∃(pins:List (Addr×Obj)) (σ:L2.St) (H:Hp) (s:Shared),L2.Inv (pinned X pn) pins σ H s/\CXr P w X.stack H s E' ev s'}
theorem ZmG{X:Cx}{pn:List (Addr×Obj)}{E':XK}(o:X.Ok):(Zj9 P w X pn E').Ok:=⟨o.mod,o.kind,o.glob,o.blt,o.above,o.inj,o.has,o.cab,o.hd,o.frames,o.stk,o.exf,o.bs,o.bsz,o.noex,o.exfs,o.funs,o.frf⟩
theorem ZmH{X:Cx}{pn:List (Addr×Obj)}(o:X.Ok):(pinned X pn).Ok:=⟨o.mod,o.kind,o.glob,o.blt,o.above,o.inj,o.has,o.cab,o.hd,o.frames,o.stk,o.exf,o.bs,o.bsz,o.noex,o.exfs,o.funs,o.frf⟩
theorem ZmI{X:Cx}{pins:List (Addr×Obj)}{E':XK}{σ:L2.St}{H:Hp}{s:Shared}(I:L2.Inv X pins σ H s):L2.Inv (Zj9 P w X (X.pn++pins) E') [] σ H s:=⟨ZmG I.ok,I.os,I.bare,I.base,I.loc,I.cell,I.free,I.freeC,fun p hp=>I.pin p (by rwa [List.append_nil] at hp),I.hok,I.len⟩
theorem Ze3{X:Cx}{pins ps:List (Addr×Obj)}{E':XK}{σ:L2.St}{H:Hp}{s:Shared}(o:X.Ok)(I:L2.Inv (Zj9 P w X (X.pn++pins) E') ps σ H s):L2.Inv X pins σ H s:=⟨o,I.os,I.bare,I.base,I.loc,I.cell,I.free,I.freeC,fun p hp=>I.pin p (List.mem_append_left _ hp),I.hok,I.len⟩
theorem Zlx{X:Cx}{pins ps:List (Addr×Obj)}{σ:L2.St}{H:Hp}{s:Shared}(o:X.Ok)(I:L2.Inv (pinned X (X.pn++pins)) ps σ H s):L2.Inv X pins σ H s:=⟨o,I.os,I.bare,I.base,I.loc,I.cell,I.free,I.freeC,fun p hp=>I.pin p (List.mem_append_left _ hp),I.hok,I.len⟩
theorem Zkk{X:Cx}{pn:List (Addr×Obj)}{E':XK}(o:X.Ok):JZ (CXr P w) (Zj9 P w X pn E') E':=fun pins σ H s _ _ I h=>⟨pins,σ,H,s,⟨ZmH o,I.os,I.bare,I.base,I.loc,I.cell,I.free,I.freeC,I.pin,I.hok,I.len⟩,h⟩
def ZlU(K:Frag)(C:Addr)(i n:Nat)(tb:XK->TS)(ts:TS):TS:=fun D σ H=>tb (fun c d H2=>∀(σ':L2.St) (e:Addr),σ'.length=n->H2 e=none->∃B,c=.ref B/\exmOne K (.ref B) (.ref C)=some true/\ts (Zhy D i) (σ'.set i (some (.ref e))) (upd H2 e (XO e B d))) D σ H
theorem Zkl{X:Cx}(eX:X=Xg CX P w K mg base N qual scope f cdv A outer s₀ H₀ E){C:Addr}{i:Nat}{cn n:Str}{tb:XK->TS}{ts:TS}{np hpos pos:Pos}{body:List Stmt}{b0:Stmt}{suite:List Stmt}{rest:List ExceptHandler}{EE:Value->Shared->Prop}
  (hb:X.Ok->∀pn E',PSs (Zj9 P w X pn E') body (tb E'))(hN:X.N.Nodup)(hgc:Gl X cn)(hm:mg cn=some (.ref C))(hi:X.N[i]? =some n)(hk:X.env.scope.names.lookup n=some .local)
  (hs:∀e,PSs (Zbd X e fun _ _=>False) (b0::suite) ts)(hd2:(cn==("__debug__":Str))=false:=by decide){pins:List (Addr×Obj)}{s:Shared}{σ:L2.St}{H:Hp}{D:ZcZ}(I:L2.Inv X pins σ H s)(h:ZlU K C i X.N.length tb ts D σ H):
  wpAny (model X.prog X.w) X.A (exec (.Try body (.ExceptHandler (some (.Name cn np)) (some n) (b0::suite) hpos::rest) [] [] pos) X.env) (SP X pins D) EE s:=by
 subst eX;refine wpAny_Try_except (wpAny_mono (hb I.ok _ _ [] s σ H D (ZmI I) h) (fun fl s1 z=> ?_) fun ev s1 z=> ?_)
 ·cases fl with
  |next=>obtain⟨σ2,H2,I3,q3⟩:=z;exact wpAny_execs_nil ⟨σ2,H2,Ze3 I.ok I3,q3⟩
  |brk=>obtain⟨σ2,H2,I3,q3⟩:=z;exact⟨σ2,H2,Ze3 I.ok I3,q3⟩
  |cont=>obtain⟨σ2,H2,I3,q3⟩:=z;exact⟨σ2,H2,Ze3 I.ok I3,q3⟩
  |ret u=>obtain⟨v,σ2,H2,I3,r,q3⟩:=z;exact⟨v,σ2,H2,Ze3 I.ok I3,r,q3⟩
 ·obtain⟨ps,σ1,H1,s2,I2,hcx⟩:=z;have I1:=Zlx (pins:=pins) I.ok I2;refine Zns (P:=P) (w:=w) I1 hcx fun e D2 a0 H2 B h2 d ee again fl hok new ⟨ob,_,k1,k2,_⟩ q2=> ?_;subst ee;obtain⟨B2,eb,mt,q3⟩:=q2 σ1 e I1.len (apart hok fl);cases eb;exact Zgw I.ok again fl I1 new (apart hok fl) ⟨ob,k1,k2⟩ hgc hm mt hN hi hk (hs _) q3 hd2
theorem Zkm{X:Cx}(eX:X=(Xg CX P w K mg base N qual scope f cdv A outer s₀ H₀ E).nox){C:Addr}{i:Nat}{cn n:Str}{tb:XK->TS}{ts:TS}{np hpos pos:Pos}{body:List Stmt}{b0:Stmt}{suite:List Stmt}{rest:List ExceptHandler}
  (hb:X.Ok->∀pn E',PSs (Zj9 P w X pn E') body (tb E'))(hN:X.N.Nodup)(hgc:Gl X cn)(hm:mg cn=some (.ref C))(hi:X.N[i]? =some n)(hk:X.env.scope.names.lookup n=some .local)
  (hs:∀e,PSs (Zbd X e fun _ _=>False) (b0::suite) ts)(hd2:(cn==("__debug__":Str))=false:=by decide):
  PS X (.Try body (.ExceptHandler (some (.Name cn np)) (some n) (b0::suite) hpos::rest) [] [] pos) (ZlU K C i X.N.length tb ts):=by
 subst eX;intro pins s σ H D I h;refine wpAny_mono (Zkl (P:=P) (w:=w) (K:=K) (mg:=mg) (base:=base) (N:=N) (qual:=qual) (scope:=scope) (f:=f) (cdv:=cdv) (A:=A) (outer:=outer) (s₀:=s₀) (H₀:=H₀) (E:=E) (CX:=CX) (X:=Xg CX P w K mg base N qual scope f cdv A outer s₀ H₀ E) rfl (fun _=>hb I.ok) hN hgc hm hi hk hs hd2 (EE:=fun _ _=>False) I.unwish h) (fun fl s2 z=> ?_) fun _ _ z=>z.elim;cases fl with
 |next=>obtain⟨σ2,H2,I3,q3⟩:=z;exact⟨σ2,H2,I3.wish _,q3⟩
 |brk=>obtain⟨σ2,H2,I3,q3⟩:=z;exact⟨σ2,H2,I3.wish _,q3⟩
 |cont=>obtain⟨σ2,H2,I3,q3⟩:=z;exact⟨σ2,H2,I3.wish _,q3⟩
 |ret u=>obtain⟨v,σ2,H2,I3,r,q3⟩:=z;exact⟨v,σ2,H2,I3.wish _,r,q3⟩
end
section
variable {X:Cx}
def ZmJ:Value->Bool
 | .bool b=>b==true
 |_=>false
theorem ZgN:∀{bs:List Bool} {us:List Value},ZW (bs.map V.bl) us->us=bs.map Value.bool
 |[],_,.nil=>rfl
 |_::_,_,.cons r t=>by rw[ZgN t];cases r;rfl
def ZmK:V->List V->Hp->VK->Prop:=fun x vs H Q=>∃(l:Addr) (bs:List Bool),x=.ref l/\vs=[.bl true]/\H l=some (.lst (bs.map V.bl))/\Q (.int ((bs.count true:Nat):Int)) H
theorem Zja(bs:List Bool):(bs.map Value.bool).countP ZmJ=bs.count true:=by
 induction bs with
 |nil=>rfl
 |cons b bs ih=>
  rw[List.map_cons,List.countP_cons,List.count_cons,ih]
  rfl
theorem ZmL{bs:List Bool}{A:Around}{s:Shared}:∀y,y∈(bs.map Value.bool).toArray->SeqAt.EqAt A s y (.bool true) (ZmJ y):=fun y hy=>by
 obtain⟨b,_,rfl⟩:=List.mem_map.mp (List.mem_toArray.mp hy);exact SeqAt.EqAt.bool_bool b true
theorem Zkn:MtM X "list.count" ZmK:=by
 intro pins s σ H x vs v us Q I rx rv h;obtain⟨l,bs,rfl,rfl,hH,q⟩:=h;cases rx;obtain⟨u,rfl,ru⟩:=rv.one;cases ru;obtain⟨z,its,n,r,hl,e⟩:=I.lstM hH;obtain rfl:=ZgN r;refine call_meets F.slot_list_count ⟨_,e,rfl⟩ F.entry_list_count (F.args_list_count_2 _ _) (SeqAt.list_countAt l (bs.map Value.bool).toArray n none #[] (.bool true) ZmJ) ⟨e,ZmL, ?_⟩;rw[show(bs.map Value.bool).toArray.toList=bs.map Value.bool from rfl,Zja]
 exact⟨.int _,H,I.kept (t':=s.toks+1) (fun _ _ e=>e),⟨_,rfl⟩,q⟩
end
end L3
namespace L3
open PySem PySem.Spec PyProof.Rows L2 PySem.W PySem.Calls
section
variable {X:Cx} {pins:List (Addr×Obj)} {σ:L2.St} {H:Hp} {s:Shared} {A:Around}
end
end L3
namespace L3
open PySem PySem.Spec PyProof.Rows L2 PySem.W PySem.Calls
section
variable {w:World} {s:Shared} {A:Around} {prog:Program}
end
section
variable {w:World} {s:Shared} {A:Around} {prog:Program}
end
section
variable {P:Program} {w:World} {K:Frag} {mg:Str->Option Value} {base:Heap} {N:List Str} {qual:Str} {scope:Scope} {f:Addr} {cdv:Value} {A:Around} {outer:List Env} {s₀:Shared} {H₀:Hp} {E:XK}
end
end L3
namespace L3
open PySem PySem.Spec PyProof.Rows L2 PySem.W PySem.Calls
theorem ZmM{X:Cx}{e:PySem.Expr}{te:TE}{pos:Pos}(he:PE X e te):PF1 X (.FormattedValue e (-1) none pos) (fun σ H Q=>te σ H fun v H1=>∃i:Int,v=.int i/\i.natAbs.log2<1920/\Q ((toString i:String):Str) H1):=by
 intro pins s σ H Q I h;refine FormattedValue_plain (thn (he pins s σ H _ I h) fun v s1 ⟨x,H1,I1,r1,q1⟩=> ?_);obtain⟨i,rfl,hi,q⟩:=q1;obtain⟨t,rfl⟩:=r1;exact wpAny_formatField_int hi ⟨_,_,H1,rfl,I1.tok _,q⟩
end L3
namespace K14
open PySem PySem.Spec PyProof.Rows L2 L3 M1 M2 M3
set_option maxHeartbeats 5000000
def top(i:Nat):Stmt:=PySem.Challenge.pw_disposehall_k14_too_wide.main.body.getD i (.Pass ⟨0,0,0,0⟩)
abbrev ZfU:Stmt:=top 21
abbrev ZfV:Stmt:=top 22
abbrev ZfW:Stmt:=top 23
abbrev Zdf:Stmt:=top 24
abbrev Zc4:Stmt:=top 27
abbrev Zc5:Stmt:=top 28
abbrev ZfX:Stmt:=top 29
abbrev Zdg:Stmt:=top 30
abbrev ZaQ:Stmt:=top 31
abbrev Zep:Stmt:=top 32
abbrev Zdh:Stmt:=top 34
abbrev Zdi:Stmt:=top 35
abbrev Zdj:Stmt:=top 36
abbrev Zak:Stmt:=top 38
abbrev Zal:Stmt:=top 39
abbrev JF:Stmt:=top 40
abbrev Zam:Stmt:=top 41
abbrev Zc6:Stmt:=top 42
abbrev Zbm:Stmt:=top 43
abbrev ZaR:Stmt:=top 44
abbrev Zbn:Stmt:=top 45
abbrev ZaS:Stmt:=top 46
abbrev Zdk:Stmt:=top 47
abbrev Zc7:Stmt:=top 48
abbrev Zan:Stmt:=top 49
abbrev Zbo:Stmt:=top 50
abbrev ZcO:Stmt:=top 51
abbrev ZaT:Stmt:=Zi7 (top 17) 0
abbrev Zag:Stmt:=Zi7 (top 18) 0
structure Txt (K:PySem.W.Frag) (mg:Str->Option Value) (t_MOST_CLAUSES:Tok) (Zm:Addr) (Zg:Addr) (Zh:Addr) (Zb:Addr) (Zt:Addr) (ZM:Addr) (Zv:Addr) (ZC:Addr) (Zc:Addr) (ZD:Addr) (Zw:Addr) (Zu:Addr) (Zx:Addr) (Zy:Addr) (ZF:Addr) (ZP:Addr):Prop where
 g_MOST_CLAUSES:mg "MOST_CLAUSES"=some (.int 40 t_MOST_CLAUSES)
 z_ValueError:mg "ValueError"=none
 z_abs:mg "abs"=none
 z_all:mg "all"=none
 z_any:mg "any"=none
 z_dict:mg "dict"=none
 z_int:mg "int"=none
 z_isinstance:mg "isinstance"=none
 z_len:mg "len"=none
 z_max:mg "max"=none
 z_min:mg "min"=none
 z_range:mg "range"=none
 z_sorted:mg "sorted"=none
 cl_Never:Cls K Zm
 ty_Never:TyC K Zm
 cl_After:Cls K Zg
 n_After_kind:Xv K Zg "kind"
 n_After_days:Xv K Zg "days"
 ty_After:TyC K Zg
 cl_Later:Cls K Zh
 n_Later_one:Xv K Zh "one"
 n_Later_other:Xv K Zh "other"
 ty_Later:TyC K Zh
 cl_Earlier:Cls K Zb
 n_Earlier_one:Xv K Zb "one"
 n_Earlier_other:Xv K Zb "other"
 ty_Earlier:TyC K Zb
 mg_HallError:mg "HallError"=some (.ref Zt)
 mg_NoDay:mg "NoDay"=some (.ref ZM)
 mg_NoLength:mg "NoLength"=some (.ref Zv)
 mg_NoTerm:mg "NoTerm"=some (.ref ZC)
 mg_TooWide:mg "TooWide"=some (.ref Zc)
 mg_NoBook:mg "NoBook"=some (.ref ZD)
 mg_PutTwice:mg "PutTwice"=some (.ref Zw)
 mg_HeldTwice:mg "HeldTwice"=some (.ref Zu)
 mg_NoSeries:mg "NoSeries"=some (.ref Zx)
 mg_RunBack:mg "RunBack"=some (.ref Zy)
 mg_Unlike:mg "Unlike"=some (.ref ZF)
 mg_NoRow:mg "NoRow"=some (.ref ZP)
 mg_After:mg "After"=some (.ref Zg)
 mg_Earlier:mg "Earlier"=some (.ref Zb)
 mg_Later:mg "Later"=some (.ref Zh)
 xc_TooWide:Za1 K Zc
 k_Never_After:PySem.W.kitOne K (.ref Zm) (.ref Zg)=some false
 k_Never_Earlier:PySem.W.kitOne K (.ref Zm) (.ref Zb)=some false
 k_Never_Later:PySem.W.kitOne K (.ref Zm) (.ref Zh)=some false
 k_After_After:PySem.W.kitOne K (.ref Zg) (.ref Zg)=some true
 k_After_Earlier:PySem.W.kitOne K (.ref Zg) (.ref Zb)=some false
 k_After_Later:PySem.W.kitOne K (.ref Zg) (.ref Zh)=some false
 k_Later_After:PySem.W.kitOne K (.ref Zh) (.ref Zg)=some false
 k_Later_Earlier:PySem.W.kitOne K (.ref Zh) (.ref Zb)=some false
 k_Later_Later:PySem.W.kitOne K (.ref Zh) (.ref Zh)=some true
 k_Earlier_After:PySem.W.kitOne K (.ref Zb) (.ref Zg)=some false
 k_Earlier_Earlier:PySem.W.kitOne K (.ref Zb) (.ref Zb)=some true
 k_Earlier_Later:PySem.W.kitOne K (.ref Zb) (.ref Zh)=some false
 xm_w:PySem.W.exmOne K (.ref Zc) (.ref Zc)=some true
 xm_h:PySem.W.exmOne K (.ref Zc) (.ref Zt)=some true
 i_w_ve:PySem.W.kitOne K (.ref Zc) (.type "ValueError")=some true
 i_w_NoDay:PySem.W.kitOne K (.ref Zc) (.ref ZM)=some false
 i_w_NoLength:PySem.W.kitOne K (.ref Zc) (.ref Zv)=some false
 i_w_NoTerm:PySem.W.kitOne K (.ref Zc) (.ref ZC)=some false
 i_w_TooWide:PySem.W.kitOne K (.ref Zc) (.ref Zc)=some true
 i_w_NoBook:PySem.W.kitOne K (.ref Zc) (.ref ZD)=some false
 i_w_PutTwice:PySem.W.kitOne K (.ref Zc) (.ref Zw)=some false
 i_w_HeldTwice:PySem.W.kitOne K (.ref Zc) (.ref Zu)=some false
 i_w_NoSeries:PySem.W.kitOne K (.ref Zc) (.ref Zx)=some false
 i_w_RunBack:PySem.W.kitOne K (.ref Zc) (.ref Zy)=some false
 i_w_Unlike:PySem.W.kitOne K (.ref Zc) (.ref ZF)=some false
 i_w_NoRow:PySem.W.kitOne K (.ref Zc) (.ref ZP)=some false
 Y4:Zm≠Zg
 Y5:Zm≠Zh
 Z2:Zm≠Zb
 Y6:Zg≠Zh
 Z3:Zg≠Zb
 Z4:Zh≠Zb
theorem Jr:100000<=sizeLine:=by rw[sizeLine_eq];decide
theorem sl{n:Nat}(h:n<=100000:=by decide):n<=sizeLine:=Nat.le_trans h Jr
theorem Zq{H:Hp}{p:Addr}{o:HO}(h:H p=none):ZK H (upd H p o):=fun b u e=>by rw[Zf (Zk e h)];exact e
theorem Zly(x:Str)(c:Nat):(x++⟨#[c]⟩:Str).length=x.length+1:=strLen_append x ⟨#[c]⟩
theorem ZgO{α:Type}{xs:List α}{i:Int}(h0: -(xs.length:Int)<=i)(h1:i<xs.length):∃v,atI xs i=some v:=by
 unfold atI ixN
 by_cases h:0<=i
 ·rw[if_pos h,if_pos h1];exact⟨_,List.getElem?_eq_getElem (by omega)⟩
 ·rw[if_neg h,if_pos h0];exact⟨_,List.getElem?_eq_getElem (by omega)⟩
theorem Zko{ns:List Int}{i:Int}(h0: -(ns.length:Int)<=i)(h1:i<ns.length):∃c,c∈ns/\atI (ns.map V.int) i=some (.int c):=by
 obtain⟨v,e⟩:=ZgO (xs:=ns.map V.int) (i:=i) (by rw[List.length_map];exact h0) (by rw[List.length_map];exact h1)
 obtain⟨j,_,hj,_⟩:=Zco e;rw[List.getElem?_map] at hj
 cases q:ns[j]? with
 |none=>rw[q] at hj;cases hj
 |some c=>
  rw[q] at hj
  cases hj;exact⟨c,List.mem_of_getElem? q,e⟩
theorem Zjb{c A B:Prop} [Decidable c](hc:c)(h:A):if decide c=true then A else B:=by
 rw[decide_eq_true hc];exact JP h
theorem Zlz(k:Nat):((10:Int)^k)=((10^k:Nat):Int):=by simp
theorem ZmN{k:Int}(h0:0<=k)(h1:k<=1000):Zn4 10 k:=⟨h0,by omega,by decide⟩
theorem pow_pos(k:Nat):(0:Int)<10^k:=by rw[Zlz];exact Int.natCast_pos.mpr (Nat.pow_pos (by decide))
theorem ixT{K:PySem.W.Frag}{i:Nat}{j:Int}{σ:L2.St}{H:Hp}{Q:VK}{a:Addr}{xs:List V}{v:V}(e:σ[i]? =some (some (.ref a)))(h:SqT K H a xs)(m:atI xs j=some v)(k:Q v H):tOp (Zn8 K) (Zix i) (tC (.int j)) σ H Q:=⟨_,e,a,_,_,_,rfl,rfl,h,m,k⟩
theorem vI{C:Int->Int->Prop}{g:Int->Int->V}{i:Nat}{σ:L2.St}{H:Hp}{Q:VK}{a k:Int}(e:σ[i]? =some (some (.int a)))(c:C a k)(q:Q (g a k) H):tOp (rI C g) (Zix i) (tC (.int k)) σ H Q:=⟨_,e,a,k,rfl,rfl,c,q⟩
theorem vEq{i:Nat}{σ:L2.St}{H:Hp}{k:Bool->Hp->Prop}{x v:V}(e:σ[i]? =some (some x))(f:Zn5 x v=true)(q:k (decide (x=v)) H):ZlK (tOp rEq (Zix i) (tC v)) σ H k:=⟨_,e,f,_,rfl,q⟩
def Nm(z:Str):Prop:=1<=z.length/\z.length<=12/\∀c∈cs z,97<=c/\c<=122
def Xm:Sp:=fun vs H Q _=>∃n k:Int,vs=[.int n,.int k]/\∀(z:Str) H',Nm z->ZK H H'->Q (.str z) H'
inductive Tr where
 |never|after (k:Str) (d:Int)|later (x y:Tr)|earlier (x y:Tr)
def Tr.deep:Tr->Nat
 | .never=>0
 | .after _ _=>0
 | .later x y=>max x.deep y.deep+1
 | .earlier x y=>max x.deep y.deep+1
def Tr.cnt:Tr->Nat
 | .never=>1
 | .after _ _=>1
 | .later x y=>x.cnt+y.cnt
 | .earlier x y=>x.cnt+y.cnt
def fA(k:Str)(d:Int):List (Str×V):=ZaA "days" (.int d) (ZaA "kind" (.str k) [])
def fP(p q:Addr):List (Str×V):=ZaA "other" (.ref q) (ZaA "one" (.ref p) [])
def Xb(cn ca cl ce:Addr)(H:Hp):Tr->Addr->Prop
 | .never,a=>∃dx,H a=some (.ins cn dx [])
 | .after k d,a=>∃dx,H a=some (.ins ca dx (fA k d))
 | .later x y,a=>∃dx p q,H a=some (.ins cl dx (fP p q))/\Xb cn ca cl ce H x p/\Xb cn ca cl ce H y q
 | .earlier x y,a=>∃dx p q,H a=some (.ins ce dx (fP p q))/\Xb cn ca cl ce H x p/\Xb cn ca cl ce H y q
def Zao(C:Addr):Sp:=fun vs H Q _=>∃(x dx:Addr) (k:Str) (d:Int),vs=[.ref x,.str k,.int d]/\H x=some (.ins C dx [])/\Q .non (upd H x (.ins C dx (fA k d)))
def XS(C:Addr):Sp:=fun vs H Q _=>∃(x dx p q:Addr),vs=[.ref x,.ref p,.ref q]/\H x=some (.ins C dx [])/\Q .non (upd H x (.ins C dx (fP p q)))
def ZcP(cn ca cl ce:Addr):Sp:=fun vs H Q _=>vs=[]/\∀a H',ZK H H'->H a=none->Xb cn ca cl ce H' .never a->Q (.ref a) H'
def Zeq(cn ca cl ce:Addr):Sp:=fun vs H Q _=>∃(k:Str) (d:Int),vs=[.str k,.int d]/\∀a H',ZK H H'->H a=none->Xb cn ca cl ce H' (.after k d) a->Q (.ref a) H'
def Zer(cn ca cl ce:Addr):Sp:=fun vs H Q _=>∃(p q:Addr) (x y:Tr),vs=[.ref p,.ref q]/\Xb cn ca cl ce H x p/\Xb cn ca cl ce H y q/\∀a H',ZK H H'->H a=none->Xb cn ca cl ce H' (.later x y) a->Q (.ref a) H'
def Zc8(cn ca cl ce:Addr):Sp:=fun vs H Q _=>∃(p q:Addr) (x y:Tr),vs=[.ref p,.ref q]/\Xb cn ca cl ce H x p/\Xb cn ca cl ce H y q/\∀a H',ZK H H'->H a=none->Xb cn ca cl ce H' (.earlier x y) a->Q (.ref a) H'
def Yw(H:Hp):Tr->Addr->Prop
 | .never,a=>H a=some (.tup [.str (Str.ofString "never")])
 | .after k d,a=>H a=some (.tup [.str (Str.ofString "after"),.str k,.int d])
 | .later x y,a=>∃p q,H a=some (.tup [.str (Str.ofString "later"),.ref p,.ref q])/\Yw H x p/\Yw H y q
 | .earlier x y,a=>∃p q,H a=some (.tup [.str (Str.ofString "earlier"),.ref p,.ref q])/\Yw H x p/\Yw H y q
def Js(cn ca cl ce:Addr)(n:Nat):Sp:=fun vs H Q _=>∃(a:Addr) (t:Tr),vs=[.ref a]/\Yw H t a/\t.deep<n/\∀p H',ZK H H'->Xb cn ca cl ce H' t p->Q (.ref p) H'
theorem ZeR{cn ca cl ce:Addr}:∀vs H Q E,¬Js cn ca cl ce 0 vs H Q E:=fun _ _ _ _ ⟨_,t,_,_,z,_⟩=>Nat.not_lt_zero t.deep z
def Ji:Sp:=fun vs H Q _=>∃c:Int,vs=[.int c]/\∀(d:Int) H',0<=d->d<10^40->ZK H H'->Q (.int d) H'
def Tr.good:Tr->Prop
 | .never=>True
 | .after k d=>Nm k/\0<=d/\d<10^40
 | .later x y=>x.good/\y.good
 | .earlier x y=>x.good/\y.good
def ZX:Tr->List Tb
 | .never=>[]
 | .after k d=>[[(k,d)]]
 | .later a b=>M4.Zab (M4.Yl M4.YL ((ZX a).flatMap fun x=>(ZX b).map fun y=>M4.Ys (M4.Yo x y)))
 | .earlier a b=>M4.Zab (M4.Yl M4.YL (ZX a++ZX b))
theorem Za6{cs:List Tb}{c:Tb}(h:c∈M4.Zab cs):c∈cs:=by
 obtain⟨r,e,s⟩:=M4.Za5 cs [];have:c∈r:=by
  unfold M4.Zab at h
  rw[e] at h
  simpa using h
 exact s.subset this
theorem ZgP(cs:List Tb):(M4.Zab cs).length<=cs.length:=by
 obtain⟨r,e,s⟩:=M4.Za5 cs [];unfold M4.Zab;rw[e,List.nil_append];exact s.length_le
theorem Xj{cs:List Tb}{c:Tb}:c∈M4.Yl M4.YL cs↔c∈cs:=(M4.Jf cs).mem_iff
theorem ZbN(cs:List Tb):(M4.Yl M4.YL cs).length=cs.length:=(M4.Jf cs).length_eq
theorem Zbp{as bs:List Tb}{c:Tb}(h:c∈as.flatMap fun x=>bs.map fun y=>M4.Ys (M4.Yo x y)):∃x∈as,∃y∈bs,c=M4.Ys (M4.Yo x y):=by
 obtain⟨x,hx,h⟩:=List.mem_flatMap.mp h;obtain⟨y,hy,e⟩:=List.mem_map.mp h;exact⟨x,hx,y,hy,e.symm⟩
theorem YX:∀(t:Tr),∀c∈ZX t,M4.Nf c/\c≠[]
 | .never,c,h=>nomatch h
 | .after k d,c,h=>by
  have e:c=[(k,d)]:=by simpa [ZX] using h
  subst e;exact⟨⟨List.nodup_cons.mpr ⟨(fun z=>nomatch z),List.nodup_nil⟩,List.pairwise_singleton _ _⟩,by simp⟩
 | .later a b,c,h=>by
  obtain⟨x,hx,y,hy,rfl⟩:=Zbp (Xj.mp (Za6 h));have nx:=YX a x hx;have ny:=YX b y hy;refine⟨M4.Zio (M4.Zaf nx.1.nd),fun z=>M4.Zin nx.2 ny.1.nd nx.1.nd ?_⟩;have:=M4.YT (M4.Yo x y);rw[z] at this
  exact List.eq_nil_of_length_eq_zero this.symm
 | .earlier a b,c,h=>by
  rcases List.mem_append.mp (Xj.mp (Za6 h)) with z|z
  ·exact YX a c z
  ·exact YX b c z
theorem ZcQ(as bs:List Tb):(as.flatMap fun x=>bs.map fun y=>M4.Ys (M4.Yo x y)).length=as.length*bs.length:=by
 induction as with
 |nil=>simp
 |cons a as ih=>rw[List.flatMap_cons,List.length_append,ih,List.length_map,List.length_cons,Nat.succ_mul,Nat.add_comm]
theorem ZhL{a b:Tb}(ha:M4.Nd a)(hb:M4.Nd b){p:Str×Int}(h:p∈M4.Yo a b):p.1∈a.map (·.1)\/p.1∈b.map (·.1):=by
 have e:=(M4.XR (M4.Zaf (b:=b) ha) (k:=p.1) (d:=p.2)).mpr h;rw[M4.ZbM hb] at e
 by_cases q:p.1∈b.map (·.1)
 ·exact .inr q
 ·rw[M4.Ze0 q] at e
  exact .inl (List.mem_map.mpr ⟨p,(M4.XR ha).mp e,rfl⟩)
theorem Zdl{a b:Tb}(ha:M4.Nd a)(hb:M4.Nd b):(M4.Yo a b).length<=a.length+b.length:=by
 have:=(M4.Ze2 (a:=(M4.Yo a b).map (·.1)) (b:=a.map (·.1)++b.map (·.1)) (M4.Zaf ha) fun k hk=>by
  obtain⟨p,hp,rfl⟩:=List.mem_map.mp hk;exact List.mem_append.mpr (ZhL ha hb hp)).1
 simpa using this
theorem Xn:∀t:Tr,∀c∈ZX t,c.length<=t.cnt
 | .never,c,h=>nomatch h
 | .after k d,c,h=>by
  have e:c=[(k,d)]:=by simpa [ZX] using h
  subst e;exact Nat.le_refl _
 | .later a b,c,h=>by
  obtain⟨x,hx,y,hy,rfl⟩:=Zbp (Xj.mp (Za6 h));rw[M4.YT];exact Nat.le_trans (Zdl (YX a x hx).1.nd (YX b y hy).1.nd) (Nat.add_le_add (Xn a x hx) (Xn b y hy))
 | .earlier a b,c,h=>by
  rcases List.mem_append.mp (Xj.mp (Za6 h)) with z|z
  ·exact Nat.le_trans (Xn a c z) (Nat.le_add_right _ _)
  ·exact Nat.le_trans (Xn b c z) (Nat.le_add_left _ _)
def Tr.wd:Tr->Nat
 | .never=>1
 | .after _ _=>1
 | .later x y=>x.wd*y.wd
 | .earlier x y=>x.wd+y.wd
theorem Zes:∀t:Tr,0<t.wd
 | .never=>Nat.one_pos
 | .after _ _=>Nat.one_pos
 | .later x y=>Nat.mul_pos (Zes x) (Zes y)
 | .earlier x y=>Nat.add_pos_left (Zes x) _
theorem Jt:∀t:Tr,(ZX t).length<=t.wd
 | .never=>Nat.zero_le _
 | .after _ _=>Nat.le_refl 1
 | .later x y=>by
  have l:=ZgP (M4.Yl M4.YL ((ZX x).flatMap fun x=>(ZX y).map fun y=>M4.Ys (M4.Yo x y)));rw[ZbN,ZcQ] at l
  exact Nat.le_trans l (Nat.mul_le_mul (Jt x) (Jt y))
 | .earlier x y=>by
  have l:=ZgP (M4.Yl M4.YL (ZX x++ZX y));rw[ZbN,List.length_append] at l
  exact Nat.le_trans l (Nat.add_le_add (Jt x) (Jt y))
def ZdH(n:Nat):Nat:=[0,1,2,3,4,6,9,12,18,27,36,54,81].getD n 1000
theorem Zet:∀a,a<13->∀b,b<13->a+b<13->ZdH a*ZdH b<=ZdH (a+b)/\ZdH a+ZdH b<=ZdH (a+b):=by decide+kernel
theorem Zkp:∀n,n<13->ZdH n<=81:=by decide
theorem Zeu:∀t:Tr,t.cnt<=12->t.wd<=ZdH t.cnt
 | .never,_=>Nat.le_refl 1
 | .after _ _,_=>Nat.le_refl 1
 | .later x y,h=>by
  have h:x.cnt+y.cnt<=12:=h;exact Nat.le_trans (Nat.mul_le_mul (Zeu x (by omega)) (Zeu y (by omega))) (Zet x.cnt (by omega) y.cnt (by omega) (by omega)).1
 | .earlier x y,h=>by
  have h:x.cnt+y.cnt<=12:=h;exact Nat.le_trans (Nat.add_le_add (Zeu x (by omega)) (Zeu y (by omega))) (Zet x.cnt (by omega) y.cnt (by omega) (by omega)).2
def okT(t:Tr):Prop:=t.wd<=120/\t.cnt<=31
theorem ZmO{t:Tr}(h:t.cnt<=12):okT t:=⟨by have:=Zeu t h;have:=Zkp t.cnt (by omega);omega,by omega⟩
theorem Zdm{x y:Tr}(h:okT (.later x y)):okT x/\okT y:=by
 obtain⟨a,b⟩:=h;have a:x.wd*y.wd<=120:=a;have b:x.cnt+y.cnt<=31:=b;have px:=Zes x;have py:=Zes y;exact⟨⟨Nat.le_trans (Nat.le_mul_of_pos_right _ py) a,by omega⟩,Nat.le_trans (Nat.le_mul_of_pos_left _ px) a,by omega⟩
theorem Zbq{x y:Tr}(h:okT (.earlier x y)):okT x/\okT y:=by
 obtain⟨a,b⟩:=h;have a:x.wd+y.wd<=120:=a;have b:x.cnt+y.cnt<=31:=b;exact⟨⟨by omega,by omega⟩,by omega,by omega⟩
theorem ZdI{x y:Tr}(h:okT (.later x y)):okT x/\okT y/\(ZX x).length*(ZX y).length<=120/\(ZX x).length<=120/\(ZX y).length<=120/\(∀w∈ZX x,w.length<=31)/\(∀w∈ZX y,w.length<=31):=by
 obtain⟨a,b⟩:=Zdm h;have lx:=Jt x;have ly:=Jt y;have a1:=a.1;have a2:=a.2;have b1:=b.1;have b2:=b.2;exact⟨a,b,Nat.le_trans (Nat.mul_le_mul lx ly) h.1,by omega,by omega,fun w hw=>by have:=Xn x w hw;omega,fun w hw=>by have:=Xn y w hw;omega⟩
theorem ZbW{x y:Tr}(h:okT (.earlier x y)):okT x/\okT y/\(ZX x).length+(ZX y).length<=120/\(∀w∈ZX x,w.length<=31)/\(∀w∈ZX y,w.length<=31):=by
 obtain⟨a,b⟩:=Zbq h;have lx:=Jt x;have ly:=Jt y;have a2:=a.2;have b2:=b.2;have hw:x.wd+y.wd<=120:=h.1;exact⟨a,b,by omega,fun w hw=>by have:=Xn x w hw;omega,fun w hw=>by have:=Xn y w hw;omega⟩
def Xo:Tr->Bool
 | .never=>true
 | .after _ _=>true
 | .later x y=>Xo x&&Xo y&&decide ((ZX (.later x y)).length<=40)
 | .earlier x y=>Xo x&&Xo y&&decide ((ZX (.earlier x y)).length<=40)
def Nn:Tr->Prop
 | .never=>True
 | .after _ d=>0<=d
 | .later x y=>Nn x/\Nn y
 | .earlier x y=>Nn x/\Nn y
theorem JR:∀{t:Tr},t.good->Nn t
 | .never,_=>trivial
 | .after _ _,h=>h.2.1
 | .later _ _,h=>⟨JR h.1,JR h.2⟩
 | .earlier _ _,h=>⟨JR h.1,JR h.2⟩
def Yd(H:Hp)(as:List Addr)(ws:List Tb):Prop:=Paired (fun a w=>∃c:Tb,H a=some (.dK (kk c))/\M4.Nd c/\M4.Ys c=w) as ws
def Zbr:Sp:=fun vs H Q _=>∃(a b:Addr) (c l:Tb),vs=[.ref a,.ref b]/\H a=some (.dK (kk c))/\Rd H b (.dK (kk l))/\c.length<=1000/\∀H',ZK H H'->Q (.bl (ZZ c l)) H'
def Ju(K:PySem.W.Frag):Sp:=fun vs H Q _=>∃(a:Addr) (c:Tb),vs=[.ref a]/\H a=some (.dK (kk c))/\c.length<64/\∀t H',ZK H H'->Rep K H' (kyD ((c.length:Int),M4.Ys c)) (.ref t)->Q (.ref t) H'
def Zdn:Sp:=fun vs H Q _=>∃(a b:Addr) (c l:Tb),vs=[.ref a,.ref b]/\Rd H a (.dK (kk c))/\H b=some (.dK (kk l))/\c.length<=1000/\l.length<=1000/\∀p H',H p=none->ZK H H'->H' p=some (.dK (kk (M4.Yo c l)))->Q (.ref p) H'
def Zap:Sp:=fun vs H Q _=>∃(p q:Addr) (as bs:List Addr) (ws us:List Tb),vs=[.ref p,.ref q]/\H p=some (.lst (as.map V.ref))/\H q=some (.lst (bs.map V.ref))/\Yd H as ws/\Yd H bs us/\as.length*bs.length<=1000/\bs.length<=1000/\(∀w∈ws,w.length<=500)/\(∀w∈us,w.length<=500)/\
 ∀r ds H',H r=none->ZK H H'->H' r=some (.lst (ds.map V.ref))->Yd H' ds (ws.flatMap fun x=>us.map fun y=>M4.Ys (M4.Yo x y))->(∀d∈ds,H d=none)->Q (.ref r) H'
def Zc9(C:Addr):Sp:=fun vs H Q E=>∃(p:Addr) (as:List Addr) (ws:List Tb),vs=[.ref p]/\H p=some (.lst (as.map V.ref))/\Yd H as ws/\ws.length<128/\(∀w∈ws,w.length<64)/\
 ((M4.Zab (M4.Yl M4.YL ws)).length<=40->∀r ds H',H r=none->ZK H H'->H' r=some (.lst (ds.map V.ref))->Yd H' ds (M4.Zab (M4.Yl M4.YL ws))->(∀d∈ds,d∈as)->Q (.ref r) H')/\(40<(M4.Zab (M4.Yl M4.YL ws)).length->∀H',ZK H H'->E (.ref C) none H')
def ZaG(cn ca cl ce C:Addr)(n:Nat):Sp:=fun vs H Q E=>∃(a:Addr) (t:Tr),vs=[.ref a]/\Xb cn ca cl ce H t a/\t.deep<n/\okT t/\
 (Xo t=true->∀r ds H',H r=none->ZK H H'->H' r=some (.lst (ds.map V.ref))->Yd H' ds (ZX t)->(∀d∈ds,H d=none)->Q (.ref r) H')/\(Xo t=false->∀H',ZK H H'->E (.ref C) none H')
theorem ZhM{cn ca cl ce C:Addr}:∀vs H Q E,¬ZaG cn ca cl ce C 0 vs H Q E:=fun _ _ _ _ ⟨_,t,_,_,z,_⟩=>Nat.not_lt_zero t.deep z
def Zca:Sp:=fun _ _ _ _=>False
def Zcb:Sp:=fun _ _ _ _=>False
def Zcc(cn ca cl ce C:Addr):Sp:=fun vs H _ E=>∃(a b:Addr) (t u:Tr),vs=[.ref a,.ref b]/\Xb cn ca cl ce H t a/\Xb cn ca cl ce H u b/\t.deep<18/\u.deep<18/\okT t/\okT u/\(Xo t=false\/Xo u=false)/\∀H',ZK H H'->E (.ref C) none H'
def ZaU:Sp:=fun vs H Q _=>∃(a b:Addr) (c l:Tb),vs=[.ref a,.ref b]/\H a=some (.dK (kk c))/\Rd H b (.dK (kk l))/\c.length<=1000/\(c.map (·.1)).Nodup/\∀H',ZK H H'->Q (.bl (ZZ c l)) H'
def Zaq:Sp:=fun vs H Q _=>∃(p:Addr) (as:List Addr) (ws:List Tb),vs=[.ref p]/\H p=some (.lst (as.map V.ref))/\Yd H as ws/\ws.length<=130/\(∀w∈ws,w.length<=100/\w≠[])/\
 ∀r ds (us:List Tb) H',H r=none->ZK H H'->H' r=some (.lst (ds.map V.ref))->Yd H' ds us->us.Perm (M4.Zab (M4.Yl M4.YL ws))->(∀d∈ds,d∈as)->Q (.ref r) H'
def Xr(n:Nat):Sp:=fun vs H Q _=>∃(a:Addr) (t:Tr),vs=[.ref a]/\Yw H t a/\t.deep<n/\okT t/\Nn t/\∀r ds (us:List Tb) H',H r=none->ZK H H'->H' r=some (.lst (ds.map V.ref))->Yd H' ds us->us.Perm (ZX t)->(∀d∈ds,H d=none)->Q (.ref r) H'
theorem Zev:∀vs H Q E,¬Xr 0 vs H Q E:=fun _ _ _ _ ⟨_,t,_,_,z,_⟩=>Nat.not_lt_zero t.deep z
def Xy(n:Nat):Sp:=fun vs H Q _=>∃(a:Addr) (t:Tr),vs=[.ref a]/\Yw H t a/\t.deep<n/\t.deep<18/\okT t/\Nn t/\∀(W:Int) H',ZK H H'->decide (W<=40)=Xo t->Q (.int W) H'
theorem ZdO:∀vs H Q E,¬Xy 0 vs H Q E:=fun _ _ _ _ ⟨_,t,_,_,z,_⟩=>Nat.not_lt_zero t.deep z
def Zcd:Sp:=fun vs H Q _=>∃(m:Nat) (b n y:Int),vs=[.int (m:Int),.int b,.int n,.int y]/\1<=m/\m<=8/\∀p (t:Tr) H',ZK H H'->Yw H' t p->t.cnt=m->t.wd=m->t.good->t.deep<m->Q (.ref p) H'
def Zbs:Sp:=fun vs H Q _=>∃y n:Int,vs=[.int y,.int n]/\∀p (t:Tr) H',ZK H H'->Yw H' t p->okT t->t.good->t.deep<16->Q (.ref p) H'
def Za7(cn ca cl ce C:Addr):Sp:=fun vs H Q _=>∃(a b:Addr) (t u:Tr),vs=[.ref a,.ref b]/\Xb cn ca cl ce H t a/\Xb cn ca cl ce H u b/\t.deep<18/\u.deep<18/\okT t/\okT u/\(Xo t=false\/Xo u=false)/\∀H',ZK H H'->Q (.bl true) H'
def ZaV(cn ca cl ce C:Addr):Sp:=fun vs H Q _=>∃(a:Addr) (t:Tr),vs=[.ref a]/\Yw H t a/\t.deep<17/\okT t/\Nn t/\∀H',ZK H H'->Q (.bl true) H'
def Za8:Sp:=fun vs H Q _=>∃(a:Addr) (ns:List Int) (b:Int),vs=[.ref a,.int b,.int 12]/\H a=some (.lst (ns.map V.int))/\ns.length<=1000/\∀p (t:Tr) H',ZK H H'->Yw H' t p->t.cnt<=12->t.good->Q (.ref p) H'
def Za9(K:PySem.W.Frag):Sp:=fun vs H Q _=>∃(a:Addr) (ns:List Int) (k:Nat),vs=[.ref a,.int (k:Int)]/\SqL K H a (ns.map V.int)/\∀(c:Int) H',ZK H H'->Q (.int c) H'
section
variable {P:Program} {w:World} {K:PySem.W.Frag} {mg:Str->Option Value} {base:Heap} {t_MOST_CLAUSES:Tok} {Zm:Addr} {Zg:Addr} {Zh:Addr} {Zb:Addr} {Zt:Addr} {ZM:Addr} {Zv:Addr} {ZC:Addr} {Zc:Addr} {ZD:Addr} {Zw:Addr} {Zu:Addr} {Zx:Addr} {Zy:Addr} {ZF:Addr} {ZP:Addr}
theorem abc:∀c∈cs (Str.ofString "abcdefghijklmnopqrstuvwxyz"),97<=c/\c<=122:=by decide+kernel
theorem ZfY:(Str.ofString "abcdefghijklmnopqrstuvwxyz").length=26:=by decide+kernel
theorem Zkq{i:Int}(h0:0<=i)(h1:i<26):∃c,atI (Str.ofString "abcdefghijklmnopqrstuvwxyz").cps.toList i=some c/\97<=c/\c<=122:=by
 have l:(Str.ofString "abcdefghijklmnopqrstuvwxyz").cps.toList.length=26:=by rw[Array.length_toList];exact ZfY
 obtain⟨c,e⟩:=ZgO (xs:=(Str.ofString "abcdefghijklmnopqrstuvwxyz").cps.toList) (i:=i) (by rw[l];omega) (by rw[l];omega)
 refine⟨c,e, ?_⟩;obtain⟨j,_,hj,_⟩:=Zco e;have m:c∈cs (Str.ofString "abcdefghijklmnopqrstuvwxyz"):=List.mem_of_getElem? hj;exact abc c m
theorem ZnB{c:Bool}{A B:Prop}(hb:¬c=true->B)(ha:c=true->A):if c=true then A else B:=ZaK ha hb
def Lts(ss:List Str):Prop:=∀z∈ss,∃c,z=⟨#[c]⟩/\97<=c/\c<=122
theorem Lts.flat:∀{ss:List Str},Lts ss->((ss.map cs).flatten.length=ss.length/\∀c∈(ss.map cs).flatten,97<=c/\c<=122)/\(ss.map (·.length)).sum=ss.length
 |[],_=>⟨⟨rfl,fun c h=>by cases h⟩,rfl⟩
 |z::ss,h=>by
  obtain⟨c,e,h1,h2⟩:=h z (List.mem_cons_self ..);obtain⟨⟨i1,i2⟩,i3⟩:=Lts.flat (ss:=ss) fun y hy=>h y (List.mem_cons_of_mem _ hy);subst e;refine⟨⟨?_,fun d hd=> ?_⟩, ?_⟩
  ·rw[List.map_cons,List.flatten_cons,List.length_append,i1,List.length_cons];show 1+_=_;omega
  ·rw[List.map_cons,List.flatten_cons] at hd
   rcases List.mem_append.mp hd with q|q
   ·have:d=c:=by simpa [ZjG] using q
    omega
   ·exact i2 d q
  ·rw[List.map_cons,List.sum_cons,i3,List.length_cons];show 1+_=_;omega
theorem Ye:ZV ["_law_cell","_law_k","_law_letters","_law_size","_law_at","_law_way","_law_name","_law_j","_law_place"] ["_law_cell","_law_k"] (Zz Zal):=⟨rfl,rfl,rfl,by decide+kernel,rfl,by decide+kernel,by decide+kernel⟩
theorem Zew{f:Addr}{fd:FuncData}(F:Fun K "_law_name_by" "_law_name_by" Zal f fd)(T:Txt K mg t_MOST_CLAUSES Zm Zg Zh Zb Zt ZM Zv ZC Zc ZD Zw Zu Zx Zy ZF ZP):YD P w K mg base CX0 1 f fd ["_law_cell","_law_k"] Xm:=by
 refine F.ok Ye (fun vs H Q E h=> ?_) (fun cdv A outer s H vs Q E hr h=> ?_)
 ·obtain⟨n,k,rfl,_⟩:=h
  rfl
 ·obtain⟨n,k,rfl,q⟩:=h;have l5:=Jr;have m1:=Int.emod_nonneg n (show(12:Int)≠0 by decide);have m2:=Int.emod_lt_of_pos n (show(0:Int)<12 by decide);have m3:=Int.emod_nonneg k (show(12:Int)≠0 by decide);have m4:=Int.emod_lt_of_pos k (show(0:Int)<12 by decide);refine⟨_,(Zj (ZL (i:=2) Ye.nd rfl (Or.inr rfl) Yt) (Zj (ZL (i:=3) Ye.nd rfl (Or.inl rfl) (ZJ Jz Zn (ZJ YC (pv 0) Zn))) (Zj (ZL (i:=4) Ye.nd rfl (Or.inl rfl) (ZJ YC (ZJ Xe (pv 0) Zn) (pv 3))) (Zj (ZL (i:=5) Ye.nd rfl (Or.inl rfl) (ZJ YC (ZJ Xe (pv 0) Zn) Zn)) (Zj (YM (Ym XJ (pv 5) Zn (Yj _)) (Zj (ZL (i:=3) Ye.nd rfl (Or.inl rfl) (ZJ Jz Zn (ZJ YC (pv 1) Zn))) (Zr (ZL (i:=4) Ye.nd rfl (Or.inl rfl) Zn))) Yi) (Zj (YM (Ym XJ (pv 5) Zn (Yj _)) (Zr (ZQ (ZbT PySem.F.plainAttrs_str PySem.F.slot_str_join PySem.F.type_str_join ZiP Yt (Za (Zcr ["_law_j"] [("_law_letters",2),("_law_k",1),("_law_cell",0)] rfl (ZeX rfl T.z_range (Za Zn Ze)) (by rfl) (by exact⟨rfl,⟨rfl,⟨rfl,trivial⟩⟩⟩) (by rfl) (by exact⟨⟨rfl,rfl,rfl⟩,⟨⟨rfl,rfl,rfl⟩,⟨⟨rfl,rfl,rfl⟩,trivial⟩⟩⟩) (fun _ _ _ _=>(YB (i:=0) (show(nmY ["_law_j"] [("_law_letters",2),("_law_k",1),("_law_cell",0)]).Nodup by decide+kernel) rfl (Or.inl rfl))) (fun _ _ _ _=>Zcq) (fun _ _ _ _=>(YH Zjw (pv 1) (ZJ Jz (ZJ YC (ZJ Jz (pv 0) (pv 2)) Zn) (ZJ YC (ZJ Xe (pv 3) Zn) Zn)) (fun _ _=>rfl)))) Ze)))) Yi) (Zj (ZL (i:=6) Ye.nd rfl (Or.inl rfl) Yt) (Zj (JX PassesOwn.never rfl (ZeX rfl T.z_range (Za (pv 3) Ze)) (YB (i:=7) Ye.nd rfl (Or.inl rfl)) (Zj (ZL (i:=8) Ye.nd rfl (Or.inl rfl) (ZJ Jz (ZJ Jz (ZJ Xe (pv 0) (ZJ Jz (pv 7) Zn)) (ZJ ZbC (pv 7) (pv 7))) (ZJ ZbC (pv 1) (Jd Zaz (by rfl) T.z_int Zed (Za (Xz XJ (pv 7) (pv 4) (Yj _)) Ze))))) (Zr (ZL (i:=6) Ye.nd rfl (Or.inl rfl) (ZJ Zh8 (pv 6) (YH Zjw (pv 2) (ZJ YC (pv 8) Zn) (fun _ _=>rfl))))))) (Zr (ZQ (pv 6))))))))))), ?_⟩
  refine(vI rfl (by show(0:Int)<12;decide) ⟨_,_,rfl,rfl, ?_⟩)
  refine(vI rfl ⟨by decide,by decide⟩ ⟨_,rfl,_,_,rfl,rfl,(by show 0<1+n%12;omega), ?_⟩)
  refine(vI rfl ⟨by decide,by decide⟩ ⟨_,_,rfl,rfl,(by show(0:Int)<3;decide), ?_⟩)
  obtain⟨S0,e0,p1,p2⟩:∃S0,1+n%12=S0/\1<=S0/\S0<=12:=⟨_,rfl,by omega,by omega⟩
  obtain⟨S1,e1,p3,p4⟩:∃S1,1+k%12=S1/\1<=S1/\S1<=12:=⟨_,rfl,by omega,by omega⟩
  refine(fun(rest:∀σ':L2.St,(∃sz at_:Int,1<=sz/\sz<=12/\σ'=[some (.int n),some (.int k),some (.str (Str.ofString "abcdefghijklmnopqrstuvwxyz")),some (.int sz),some (.int at_),some (.int (n/144%3)),none,none,none])->(_:L2.St->Hp->Prop) σ' H)=>
   ⟨_,rfl,rfl,_,rfl,ZnB (fun _=>rest _ ⟨_,_,by omega,by omega,rfl⟩) (fun _=>(vI rfl (by show(0:Int)<12;decide) ⟨_,_,rfl,rfl,rest _ ⟨_,_,by omega,by omega,rfl⟩⟩))⟩) ?rest
  case rest=>
   rintro σ' ⟨sz,at_,p1,p2,rfl⟩;refine⟨_,rfl,rfl,_,rfl,ZaK (fun _=> ?_) (fun _=> ?_)⟩
   ·refine⟨rfl,12,rfl,by decide,by decide,Zeg fun D hD=>⟨12,fun i ys H2=>∃ss:List Str,ys=ss.map V.str/\ss.length=i/\Lts ss/\ZK H H2,by omega,⟨[],rfl,rfl,(fun z hz=>nomatch hz),Zq hD⟩,fun i ys H2 ⟨ss,e,l,_⟩=>by rw[e,List.length_map,l];exact Nat.le_refl _,
     fun i ys zs H2 H3 _ kp ⟨ss,e,l,ls,s2⟩=>⟨ss,e,l,ls,fun b u hb=>kp b u (Zk hb hD) (s2 b u hb)⟩,fun i ys H2 _ lt=>lt,fun ys H2 ⟨ss,e,l,ls,s2⟩ d=>⟨Nat.le_refl _, ?_⟩,fun i x ys H2 H3 ⟨ss,e,l,ls,s2⟩ d lt y RT RF rt rf=> ?_⟩⟩
    ·subst e;obtain⟨⟨f1,f2⟩,f3⟩:=ls.flat;refine⟨Str.empty,D,ss,rfl,rfl,SqL.of d, ?_,q _ H2 ?_ s2⟩
     ·rw[f3,l];decide
     ·rw[<-ZjS] at f1 f2
      refine⟨?_, ?_,f2⟩
      ·rw[ZjH,f1,l];decide
      ·rw[ZjH,f1,l];decide
    ·obtain⟨e1,e2⟩:=y;subst e1 e2;have a1:=Int.emod_nonneg (0+(i:Int)+k) (show(12:Int)≠0 by decide);have a2:=Int.emod_lt_of_pos (0+(i:Int)+k) (show(0:Int)<12 by decide);have a3:=Int.emod_nonneg (n/432) (show(14:Int)≠0 by decide);have a4:=Int.emod_lt_of_pos (n/432) (show(0:Int)<14 by decide);obtain⟨c,ec,c1,c2⟩:=Zkq (i:=(0+(i:Int)+k)%12+n/432%14) (by omega) (by omega);refine⟨⟨rfl,rfl,rfl,trivial⟩,Znl ?_⟩
     refine⟨_,rfl,_,rfl,_,rfl,_,_,rfl,rfl,_,_,rfl,rfl,(by show(0:Int)<12;decide),vI rfl ⟨by decide,by decide⟩ ⟨_,_,rfl,rfl,(by show(0:Int)<14;decide),_,_,rfl,rfl,_,_,c,rfl,rfl, ?_,ec, ?_⟩⟩
     ·rw[ZfY];omega
     ·refine rt _ _ d ⟨ss++[⟨#[c]⟩],by rw[e,List.map_append];rfl,by rw[List.length_append,l];rfl,fun z hz=> ?_,s2⟩
      rcases List.mem_append.mp hz with z1|z1
      ·exact ls z z1
      ·exact⟨c,by simpa using z1,c1,c2⟩
   ·refine⟨_,rfl,_,rfl,by omega,by omega,ZeY (fun i σ H'=>∃(x:Str) (s3 s5 v v8:Option V) (t4:Int),σ=[some (.int n),some (.int k),some (.str (Str.ofString "abcdefghijklmnopqrstuvwxyz")),s3,some (.int t4),s5,some (.str x),v,v8]/\x.length=i/\(∀c∈cs x,97<=c/\c<=122)/\H'=H) ?_ ?_ ?_⟩
    ·exact⟨Str.empty,_,_,none,none,_,rfl,rfl,(fun c hc=>nomatch hc),rfl⟩
    ·rintro i σ H1 hi ⟨x,s3,s5,v,v8,t4,rfl,hl,hc,rfl⟩;have hi':(i:Int)<12:=by omega
     have ib:Builtin.Int.intBits (0+(i:Int))<=64:=intBits_le_64 (by omega) (by omega);refine⟨_,rfl,_,rfl,_,_,rfl,rfl,_,_,rfl,rfl,⟨by omega,by omega⟩,_,rfl,_,rfl,_,_,rfl,rfl,IntMulOk.of_left ib,_,_,rfl,rfl,_,rfl,_,rfl,_,rfl,rfl,.inr ⟨_,rfl,_,_,rfl,rfl,IntMulOk.of_right (intBits_le_64 (by split<;>decide) (by split<;>decide)),_,_,rfl,rfl, ?_⟩⟩
     obtain⟨c,ec,c1,c2⟩:=Zkq (i:=(n/(0+(i:Int)+3)+(0+(i:Int))*(0+(i:Int))+k*if decide (V.int (0+(i:Int))=V.int t4)=true then 1 else 0)%26) (Int.emod_nonneg _ (by decide)) (Int.emod_lt_of_pos _ (by decide));refine⟨_,rfl,_,rfl,vI rfl (by show(0:Int)<26;decide) ⟨_,_,c,rfl,rfl, ?_,ec,_,_,rfl,rfl, ?_, ?_⟩⟩
     ·rw[ZfY];omega
     ·show x.length+1<=sizeLine;omega
     ·refine⟨x++⟨#[c]⟩,_,_,_,_,_,rfl,by rw[Zly,hl],fun d hd=> ?_,rfl⟩;rw[Zhl,ZjG] at hd
      rcases List.mem_append.mp hd with z|z
      ·exact hc d z
      ·have:d=c:=by simpa using z
       omega
    ·rintro σ H1 ⟨x,s3,s5,v,v8,t4,rfl,hl,hc,rfl⟩;exact⟨_,rfl,q x _ ⟨by omega,by omega,hc⟩ (ZK.refl _)⟩
theorem Zex:ZV ["_law_script","_law_k"] ["_law_script","_law_k"] (Zz Zak):=⟨rfl,rfl,rfl,by decide+kernel,rfl,by decide+kernel,by decide+kernel⟩
theorem Zey{f:Addr}{fd:FuncData}(F:Fun K "_law_cell_at" "_law_cell_at" Zak f fd)(T:Txt K mg t_MOST_CLAUSES Zm Zg Zh Zb Zt ZM Zv ZC Zc ZD Zw Zu Zx Zy ZF ZP):YD P w K mg base CX0 1 f fd ["_law_script","_law_k"] (Za9 K):=by
 refine F.ok Zex (fun vs H Q E h=> ?_) (fun cdv A outer s H vs Q E hr h=> ?_)
 ·obtain⟨a,ns,k,rfl,_⟩:=h
  rfl
 ·obtain⟨a,ns,k,rfl,hS,q⟩:=h;refine⟨_,(Zj (YM (Ym Zjp (pv 1) (ZG XM (by rfl) T.z_len Zai (Za (pv 0) Ze)) (Yj _)) (Zr (ZQ (YH ZaI (pv 0) (pv 1) (fun _ _=>rfl)))) Yi) (Zr (ZQ Zn))), ?_⟩;refine⟨_,rfl,_,rfl,_,_,rfl,.inl ⟨_,hS,rfl⟩,_,_,rfl,rfl,_,rfl,ZaK (fun e=> ?_) (fun e=> ?_)⟩
  ·have e:(k:Int)<((ns.map V.int).length:Int):=of_decide_eq_true e;rw[List.length_map] at e
   obtain⟨c,_,ec⟩:=Zko (ns:=ns) (i:=(k:Int)) (by omega) (by omega);exact⟨_,rfl,_,rfl,a,_,_,_,rfl,rfl,hS,ec,q c H (ZK.refl H)⟩
  ·exact q 0 H (ZK.refl H)
theorem kd:¬(("kind":Str)="days"):=by decide+kernel
theorem oo:¬(("one":Str)="other"):=by decide+kernel
theorem ZlA(k:Str)(d:Int):(fA k d).lookup ("kind":Str)=some (.str k):=by
 unfold fA;rw[Xh,if_neg kd,Xh,if_pos rfl]
theorem ZlB(k:Str)(d:Int):(fA k d).lookup ("days":Str)=some (.int d):=by
 unfold fA;rw[Xh,if_pos rfl]
theorem Zkr(p q:Addr):(fP p q).lookup ("one":Str)=some (.ref p):=by
 unfold fP;rw[Xh,if_neg oo,Xh,if_pos rfl]
theorem ZgQ(p q:Addr):(fP p q).lookup ("other":Str)=some (.ref q):=by
 unfold fP;rw[Xh,if_pos rfl]
theorem Xb.same{cn ca cl ce:Addr}{H H':Hp}(s:ZK H H'):∀{t:Tr} {a:Addr},Xb cn ca cl ce H t a->Xb cn ca cl ce H' t a
 | .never,a,⟨dx,h⟩=>⟨dx,s _ _ h⟩
 | .after k d,a,⟨dx,h⟩=>⟨dx,s _ _ h⟩
 | .later x y,a,⟨dx,p,q,h,h1,h2⟩=>⟨dx,p,q,s _ _ h,h1.same s,h2.same s⟩
 | .earlier x y,a,⟨dx,p,q,h,h1,h2⟩=>⟨dx,p,q,s _ _ h,h1.same s,h2.same s⟩
theorem Tr.deep_cnt:∀t:Tr,t.deep<t.cnt
 | .never=>Nat.zero_lt_one
 | .after _ _=>Nat.zero_lt_one
 | .later x y=>by
  have h1:=x.deep_cnt;have h2:=y.deep_cnt;simp only [Tr.deep,Tr.cnt];omega
 | .earlier x y=>by
  have h1:=x.deep_cnt;have h2:=y.deep_cnt;simp only [Tr.deep,Tr.cnt];omega
theorem Zdo{H:Hp}{b:Addr}{l:Tb}(h:Rd H b (.dK (kk l)))(k:Str):ZeN H b (.str k) ((lk l k).map V.int):=by
 rw[<-ZfF];exact .inl ⟨_,Sum.inr k,h,rfl,rfl⟩
theorem Zez{o:Option Int}:(o.map V.int).isSome=o.isSome:=by cases o<;>rfl
theorem ZeS:ZV ["self","kind","days"] ["self","kind","days"] (Zz ZaT):=⟨rfl,rfl,rfl,by decide+kernel,rfl,by decide+kernel,by decide+kernel⟩
theorem ZeT{f:Addr}{fd:FuncData}(F:Fun K "__init__" "After.__init__" ZaT f fd)(T:Txt K mg t_MOST_CLAUSES Zm Zg Zh Zb Zt ZM Zv ZC Zc ZD Zw Zu Zx Zy ZF ZP){C:Addr}(cl:Cls K C)(n_kind:Xv K C "kind")(n_days:Xv K C "days"):YD P w K mg base CX0 1 f fd ["self","kind","days"] (Zao C):=by
 refine F.ok ZeS (fun vs H Q E h=> ?_) (fun cdv A outer s H vs Q E hr h=> ?_)
 ·obtain⟨x,dx,k,d,rfl,_⟩:=h
  rfl
 ·obtain⟨x,dx,k,d,rfl,hx,q⟩:=h;refine⟨_,(Zj (Zfw (pv 0) (pv 1) rfl) (Zr (Zfw (pv 0) (pv 2) rfl))), ?_⟩;refine⟨_,rfl,_,rfl,x,C,dx,_,rfl,hx,cl,n_kind,(by show 0<1000;decide),_,rfl,_,rfl,x,C,dx,_,rfl,Zd,cl,n_days,(by show 1<1000;decide), ?_⟩
  rw[Zck];exact q
theorem ZfZ:ZV ["self","one","other"] ["self","one","other"] (Zz Zag):=⟨rfl,rfl,rfl,by decide+kernel,rfl,by decide+kernel,by decide+kernel⟩
theorem ZcR{f:Addr}{fd:FuncData}(F:Fun K "__init__" "Pair.__init__" Zag f fd)(T:Txt K mg t_MOST_CLAUSES Zm Zg Zh Zb Zt ZM Zv ZC Zc ZD Zw Zu Zx Zy ZF ZP){C:Addr}(cl:Cls K C)(n_one:Xv K C "one")(n_other:Xv K C "other"):YD P w K mg base CX0 1 f fd ["self","one","other"] (XS C):=by
 refine F.ok ZfZ (fun vs H Q E h=> ?_) (fun cdv A outer s H vs Q E hr h=> ?_)
 ·obtain⟨x,dx,p,q,rfl,_⟩:=h
  rfl
 ·obtain⟨x,dx,p,q,rfl,hx,k⟩:=h;refine⟨_,(Zj (Zfw (pv 0) (pv 1) rfl) (Zr (Zfw (pv 0) (pv 2) rfl))), ?_⟩;refine⟨_,rfl,_,rfl,x,C,dx,_,rfl,hx,cl,n_one,(by show 0<1000;decide),_,rfl,_,rfl,x,C,dx,_,rfl,Zd,cl,n_other,(by show 1<1000;decide), ?_⟩
  rw[Zck];exact k
theorem Jv{H:Hp}{x dx:Addr}{o:HO}(h1:H x=none)(h2:H dx=none):ZK H (upd (upd H dx (.own x)) x o):=fun b u e=>by
 rw[Zf (Zk e h1),Zf (Zk e h2)];exact e
theorem Zks:ZV [] [] (Zz ZfU):=⟨rfl,rfl,rfl,by decide+kernel,rfl,by decide+kernel,by decide+kernel⟩
theorem Zkt{f:Addr}{fd:FuncData}(F:Fun K "never" "never" ZfU f fd)(T:Txt K mg t_MOST_CLAUSES Zm Zg Zh Zb Zt ZM Zv ZC Zc ZD Zw Zu Zx Zy ZF ZP)(Zg0:Zmr K mg "Never" Zm):YD P w K mg base CX0 1 f fd [] (ZcP Zm Zg Zh Zb):=by
 refine F.ok Zks (fun vs H Q E h=> ?_) (fun cdv A outer s H vs Q E hr h=> ?_)
 ·obtain⟨rfl,_⟩:=h
  rfl
 ·obtain⟨rfl,q⟩:=h;refine⟨_,(Zr (ZQ (Zle Zg0 rfl))), ?_⟩;exact fun x dx h1 h2 _=>q x _ (Jv h1 h2) h1 ⟨dx,Zd⟩
theorem Zku:ZV ["kind","days"] ["kind","days"] (Zz ZfV):=⟨rfl,rfl,rfl,by decide+kernel,rfl,by decide+kernel,by decide+kernel⟩
theorem Zkv{f:Addr}{fd:FuncData}(F:Fun K "after" "after" ZfV f fd)(T:Txt K mg t_MOST_CLAUSES Zm Zg Zh Zb Zt ZM Zv ZC Zc ZD Zw Zu Zx Zy ZF ZP)(Zg1:Zhs P w K mg base CX0 1 "After" Zg ["self","kind","days"] (Zao Zg)):YD P w K mg base CX0 3 f fd ["kind","days"] (Zeq Zm Zg Zh Zb):=by
 refine F.ok Zku (fun vs H Q E h=> ?_) (fun cdv A outer s H vs Q E hr h=> ?_)
 ·obtain⟨k,d,rfl,_⟩:=h
  rfl
 ·obtain⟨k,d,rfl,q⟩:=h;refine⟨_,(Zr (ZQ (Zhu Zg1 (hr.mono (by omega)) rfl Yh (Za (pv 0) (Za (pv 1) Ze))))), ?_⟩;refine⟨_,rfl,_,rfl,fun x dx h1 h2 _=>⟨x,dx,k,d,rfl,Zd,rfl, ?_⟩⟩;rw[Zck];exact q x _ (Jv h1 h2) h1 ⟨dx,Zd⟩
theorem Zkw:ZV ["one","other"] ["one","other"] (Zz ZfW):=⟨rfl,rfl,rfl,by decide+kernel,rfl,by decide+kernel,by decide+kernel⟩
theorem Zkx{f:Addr}{fd:FuncData}(F:Fun K "later" "later" ZfW f fd)(T:Txt K mg t_MOST_CLAUSES Zm Zg Zh Zb Zt ZM Zv ZC Zc ZD Zw Zu Zx Zy ZF ZP)(Zg2:Zhs P w K mg base CX0 1 "Later" Zh ["self","one","other"] (XS Zh)):YD P w K mg base CX0 3 f fd ["one","other"] (Zer Zm Zg Zh Zb):=by
 refine F.ok Zkw (fun vs H Q E h=> ?_) (fun cdv A outer s H vs Q E hr h=> ?_)
 ·obtain⟨p,q,x,y,rfl,_⟩:=h
  rfl
 ·obtain⟨p,q,x,y,rfl,t1,t2,k⟩:=h;refine⟨_,(Zr (ZQ (Zhu Zg2 (hr.mono (by omega)) rfl Yh (Za (pv 0) (Za (pv 1) Ze))))), ?_⟩;refine⟨_,rfl,_,rfl,fun a dx h1 h2 _=>⟨a,dx,p,q,rfl,Zd,rfl, ?_⟩⟩;rw[Zck];exact k a _ (Jv h1 h2) h1 ⟨dx,p,q,Zd,t1.same (Jv h1 h2),t2.same (Jv h1 h2)⟩
theorem ZhN:ZV ["one","other"] ["one","other"] (Zz Zdf):=⟨rfl,rfl,rfl,by decide+kernel,rfl,by decide+kernel,by decide+kernel⟩
theorem ZhO{f:Addr}{fd:FuncData}(F:Fun K "earlier" "earlier" Zdf f fd)(T:Txt K mg t_MOST_CLAUSES Zm Zg Zh Zb Zt ZM Zv ZC Zc ZD Zw Zu Zx Zy ZF ZP)(Zdp:Zhs P w K mg base CX0 1 "Earlier" Zb ["self","one","other"] (XS Zb)):YD P w K mg base CX0 3 f fd ["one","other"] (Zc8 Zm Zg Zh Zb):=by
 refine F.ok ZhN (fun vs H Q E h=> ?_) (fun cdv A outer s H vs Q E hr h=> ?_)
 ·obtain⟨p,q,x,y,rfl,_⟩:=h
  rfl
 ·obtain⟨p,q,x,y,rfl,t1,t2,k⟩:=h;refine⟨_,(Zr (ZQ (Zhu Zdp (hr.mono (by omega)) rfl Yh (Za (pv 0) (Za (pv 1) Ze))))), ?_⟩;refine⟨_,rfl,_,rfl,fun a dx h1 h2 _=>⟨a,dx,p,q,rfl,Zd,rfl, ?_⟩⟩;rw[Zck];exact k a _ (Jv h1 h2) h1 ⟨dx,p,q,Zd,t1.same (Jv h1 h2),t2.same (Jv h1 h2)⟩
theorem Yw.same{H H':Hp}(s:ZK H H'):∀{t:Tr} {a:Addr},Yw H t a->Yw H' t a
 | .never,a,h=>s _ _ h
 | .after k d,a,h=>s _ _ h
 | .later x y,a,⟨p,q,h,h1,h2⟩=>⟨p,q,s _ _ h,h1.same s,h2.same s⟩
 | .earlier x y,a,⟨p,q,h,h1,h2⟩=>⟨p,q,s _ _ h,h1.same s,h2.same s⟩
theorem w1:¬V.str (Str.ofString "after")=V.str (Str.ofString "never"):=by decide+kernel
theorem w2:¬V.str (Str.ofString "later")=V.str (Str.ofString "never"):=by decide+kernel
theorem w3:¬V.str (Str.ofString "earlier")=V.str (Str.ofString "never"):=by decide+kernel
theorem w4:¬V.str (Str.ofString "later")=V.str (Str.ofString "after"):=by decide+kernel
theorem w5:¬V.str (Str.ofString "earlier")=V.str (Str.ofString "after"):=by decide+kernel
theorem w6:¬V.str (Str.ofString "earlier")=V.str (Str.ofString "later"):=by decide+kernel
theorem ZgR:ZV ["_law_tree"] ["_law_tree"] (Zz Zc6):=⟨rfl,rfl,rfl,by decide+kernel,rfl,by decide+kernel,by decide+kernel⟩
theorem ZgS{f:Addr}{fd:FuncData}(F:Fun K "_law_made" "_law_made" Zc6 f fd)(T:Txt K mg t_MOST_CLAUSES Zm Zg Zh Zb Zt ZM Zv ZC Zc ZD Zw Zu Zx Zy ZF ZP)(n:Nat)(Xp:Cal P w K mg base CX0 (3+n+1) "_law_made" ["_law_tree"] (Js Zm Zg Zh Zb n))(Zg3:Cal P w K mg base CX0 3 "after" ["kind","days"] (Zeq Zm Zg Zh Zb))(Zdq:Cal P w K mg base CX0 3 "earlier" ["one","other"] (Zc8 Zm Zg Zh Zb))(Zg4:Cal P w K mg base CX0 3 "later" ["one","other"] (Zer Zm Zg Zh Zb))(ZaW:Cal P w K mg base CX0 1 "never" [] (ZcP Zm Zg Zh Zb)):YD P w K mg base CX0 (3+n+1+1) f fd ["_law_tree"] (Js Zm Zg Zh Zb (n+1)):=by
 refine F.ok ZgR (fun vs H Q E h=> ?_) (fun cdv A outer s H vs Q E hr h=> ?_)
 ·obtain⟨a,t,rfl,_⟩:=h
  rfl
 ·obtain⟨a,t,rfl,ht,hd,q⟩:=h;refine⟨_,(Zj (YM (Ym XJ (YH YJ (pv 0) Zn (fun _ _=>rfl)) Yt (Yj _)) (Zr (ZQ (Zhk ZaW (hr.mono (by omega)) rfl Yh))) Yi) (Zj (YM (Ym XJ (YH YJ (pv 0) Zn (fun _ _=>rfl)) Yt (Yj _)) (Zr (ZQ (Yc Zg3 (hr.mono (by omega)) rfl Yh (Za (YH YJ (pv 0) Zn (fun _ _=>rfl)) (Za (YH YJ (pv 0) Zn (fun _ _=>rfl)) Ze))))) Yi) (Zj (YM (Ym XJ (YH YJ (pv 0) Zn (fun _ _=>rfl)) Yt (Yj _)) (Zr (ZQ (Yc Zg4 (hr.mono (by omega)) rfl Yh (Za (Yc Xp (hr.mono (by omega)) rfl Yh (Za (YH YJ (pv 0) Zn (fun _ _=>rfl)) Ze)) (Za (Yc Xp (hr.mono (by omega)) rfl Yh (Za (YH YJ (pv 0) Zn (fun _ _=>rfl)) Ze)) Ze))))) Yi) (Zr (ZQ (Yc Zdq (hr.mono (by omega)) rfl Yh (Za (Yc Xp (hr.mono (by omega)) rfl Yh (Za (YH YJ (pv 0) Zn (fun _ _=>rfl)) Ze)) (Za (Yc Xp (hr.mono (by omega)) rfl Yh (Za (YH YJ (pv 0) Zn (fun _ _=>rfl)) Ze)) Ze)))))))), ?_⟩
  cases t with
  |never=>
   have ha:H a=some _:=ht;exact(ixT rfl (SqT.of ha) rfl ⟨rfl,_,rfl,Zjb rfl ⟨rfl,fun p H' s _ t=>q p H' s t⟩⟩)
  |after k d=>
   have ha:H a=some _:=ht;refine(ixT rfl (SqT.of ha) rfl ⟨rfl,_,rfl,Zb4 w1 (ixT rfl (SqT.of ha) rfl ⟨rfl,_,rfl,Zjb rfl ?_⟩)⟩);exact(ixT rfl (SqT.of ha) rfl (ixT rfl (SqT.of ha) rfl ⟨k,d,rfl,fun p H' s _ t=>q p H' s t⟩))
  |later x y=>
   obtain⟨p1,p2,ha,t1,t2⟩:=ht;have hdeep:max x.deep y.deep+1<n+1:=hd;refine(ixT rfl (SqT.of ha) rfl ⟨rfl,_,rfl,Zb4 w2 (ixT rfl (SqT.of ha) rfl ⟨rfl,_,rfl,Zb4 w4 (ixT rfl (SqT.of ha) rfl ⟨rfl,_,rfl,Zjb rfl ?_⟩)⟩)⟩);refine(ixT rfl (SqT.of ha) rfl ⟨p1,x,rfl,t1,by omega,fun m1 H1 s1 tm1=> ?_⟩);refine(ixT rfl (SqT.of (s1 _ _ ha)) rfl ⟨p2,y,rfl,t2.same s1,by omega,fun m2 H2 s2 tm2=> ?_⟩);exact⟨m1,m2,x,y,rfl,tm1.same s2,tm2,fun p H3 s3 _ t3=>q p H3 (s1.trans (s2.trans s3)) t3⟩
  |earlier x y=>
   obtain⟨p1,p2,ha,t1,t2⟩:=ht;have hdeep:max x.deep y.deep+1<n+1:=hd;refine(ixT rfl (SqT.of ha) rfl ⟨rfl,_,rfl,Zb4 w3 (ixT rfl (SqT.of ha) rfl ⟨rfl,_,rfl,Zb4 w5 (ixT rfl (SqT.of ha) rfl ⟨rfl,_,rfl,Zb4 w6 ?_⟩)⟩)⟩);refine(ixT rfl (SqT.of ha) rfl ⟨p1,x,rfl,t1,by omega,fun m1 H1 s1 tm1=> ?_⟩);refine(ixT rfl (SqT.of (s1 _ _ ha)) rfl ⟨p2,y,rfl,t2.same s1,by omega,fun m2 H2 s2 tm2=> ?_⟩);exact⟨m1,m2,x,y,rfl,tm1.same s2,tm2,fun p H3 s3 _ t3=>q p H3 (s1.trans (s2.trans s3)) t3⟩
theorem ZmP(k:Int)(h0:0<=k)(h1:k<3):∃m u:Int,atI [V.int 40,.int 12,.int 9] k=some (.int m)/\atI [V.int 1,.int 30,.int 360] k=some (.int u)/\0<m/\m<=40/\0<=u/\u<=360:=by
 have e:k=0\/k=1\/k=2:=by omega
 rcases e with rfl|rfl|rfl
 ·exact⟨40,1,rfl,rfl,by decide,by decide,by decide,by decide⟩
 ·exact⟨12,30,rfl,rfl,by decide,by decide,by decide,by decide⟩
 ·exact⟨9,360,rfl,rfl,by decide,by decide,by decide,by decide⟩
theorem ZaH:ZV ["_law_cell","_law_way"] ["_law_cell"] (Zz JF):=⟨rfl,rfl,rfl,by decide+kernel,rfl,by decide+kernel,by decide+kernel⟩
theorem Zdr{f:Addr}{fd:FuncData}(F:Fun K "_law_length_by" "_law_length_by" JF f fd)(T:Txt K mg t_MOST_CLAUSES Zm Zg Zh Zb Zt ZM Zv ZC Zc ZD Zw Zu Zx Zy ZF ZP):YD P w K mg base CX0 1 f fd ["_law_cell"] Ji:=by
 refine F.ok ZaH (fun vs H Q E h=> ?_) (fun cdv A outer s H vs Q E hr h=> ?_)
 ·obtain⟨c,rfl,_⟩:=h
  rfl
 ·obtain⟨c,rfl,q⟩:=h;have l5:=Jr;have m0:=Int.emod_nonneg c (show(4:Int)≠0 by decide);have m1:=Int.emod_lt_of_pos c (show(0:Int)<4 by decide);refine⟨_,(Zj (ZL (i:=1) ZaH.nd rfl (Or.inl rfl) (ZJ YC (pv 0) Zn)) (Zj (YM (Ym XJ (pv 1) Zn (Yj _)) (Zr (ZQ (ZJ YC (ZJ ZbC (ZJ Xe (pv 0) Zn) Zn) (ZJ Zm9 Zn Zn)))) Yi) (Zr (ZQ (ZJ ZbC (ZJ YC (ZJ Xe (pv 0) Zn) (YH ZaI (Xf (Za Zn (Za Zn (Za Zn Ze)))) (pv 1) (fun _ _=>rfl))) (YH ZaI (Xf (Za Zn (Za Zn (Za Zn Ze)))) (pv 1) (fun _ _=>rfl))))))), ?_⟩
  refine(vI rfl (by show(0:Int)<4;decide) (vEq rfl rfl (ZaK (fun e=> ?_) (fun e=> ?_))))
  ·refine(vI rfl ⟨by decide,by decide⟩ ⟨_,_,rfl,rfl,IntMulOk.of_right (intBits_le_64 (by decide) (by decide)),_,_,rfl,rfl,ZmN (by decide) (by decide),_,_,rfl,rfl,pow_pos _, ?_⟩);have p40:(0:Int)<10^(40:Int).toNat:=pow_pos _;exact q _ H (Int.emod_nonneg _ (Int.ne_of_gt p40)) (Int.emod_lt_of_pos _ p40) (ZK.refl H)
  ·have e:¬c%4=3:=fun z=>e (decide_eq_true (by show V.int (c%4)=V.int 3;rw[z]))
   obtain⟨m,u,e1,e2,b1,b2,b3,b4⟩:=ZmP (c%4) m0 (by omega);refine(vI rfl ⟨by decide,by decide⟩ ⟨(show 3<=sizeLine from sl),fun p1 hp1=>⟨_,rfl,p1,_,_,_,rfl,rfl,SqL.of Zd,e1,_,_,rfl,rfl,b1,(show 3<=sizeLine from sl),fun p2 hp2=>⟨_,rfl,p2,_,_,_,rfl,rfl,SqL.of Zd,e2,_,_,rfl,rfl,IntMulOk.of_right (intBits_le_64 (by omega) (by omega)), ?_⟩⟩⟩);have d0:=Int.emod_nonneg (c/4) (Int.ne_of_gt b1);have d1:=Int.emod_lt_of_pos (c/4) b1
   have p:(14400:Int)<10^40:=by decide+kernel
   have z1:0<=c/4%m*u:=Int.mul_nonneg d0 b3;have z2:c/4%m*u<=40*360:=Int.mul_le_mul (by omega) b4 b3 (by decide);exact q _ _ z1 (by omega) ((Zq hp1).trans (Zq hp2))
theorem Yw.keep{H H':Hp}(s:∀b xs,H b=some (.tup xs)->H' b=some (.tup xs)):∀{t:Tr} {a:Addr},Yw H t a->Yw H' t a
 | .never,a,h=>s _ _ h
 | .after k d,a,h=>s _ _ h
 | .later x y,a,⟨p,q,h,h1,h2⟩=>⟨p,q,s _ _ h,h1.keep s,h2.keep s⟩
 | .earlier x y,a,⟨p,q,h,h1,h2⟩=>⟨p,q,s _ _ h,h1.keep s,h2.keep s⟩
structure Stk (H:Hp) (S:Addr) (ts:List (Tr×Addr)):Prop where
 at_:H S=some (.lst (ts.map fun t=>V.ref t.2))
 all:∀t∈ts,Yw H t.1 t.2
 gd:∀t∈ts,t.1.good
def Zds(ts:List (Tr×Addr)):Nat:=(ts.map fun t=>t.1.cnt).sum
theorem Stk.same{H H':Hp}{S:Addr}{ts:List (Tr×Addr)}(h:Stk H S ts)(s:ZK H H'):Stk H' S ts:=⟨s _ _ h.at_,fun t ht=>(h.all t ht).same s,h.gd⟩
theorem two_last{α:Type}(l:List α)(h:1<l.length):∃us x y,l=us++[x,y]:=by
 have hr:l.reverse.length=l.length:=List.length_reverse;cases e:l.reverse with
 |nil=>rw[e] at hr;simp at hr;omega
 |cons y r=>
  cases r with
  |nil=>rw[e] at hr;simp at hr;omega
  |cons x r=>
   refine⟨r.reverse,x,y, ?_⟩;have:=congrArg List.reverse e
   simpa using this
theorem ZlC{α:Type}(us:List α)(y:α):(us++[y])[(us++[y]).length-1]? =some y:=by
 rw[List.length_append];simp
theorem Zjc{α:Type}(us:List α)(y:α):(us++[y]).dropLast=us:=by simp
theorem Zbt(us ts:List (Tr×Addr)):Zds (us++ts)=Zds us+Zds ts:=by
 unfold Zds;rw[List.map_append,List.sum_append]
theorem Stk.push{H H':Hp}{S t:Addr}{us:List (Tr×Addr)}{z:Tr}(hu:∀u∈us,Yw H u.1 u.2)(kp:∀b xs,H b=some (.tup xs)->H' b=some (.tup xs))(hS:H' S=some (.lst (us.map (fun t=>V.ref t.2)++[.ref t])))(hz:Yw H' z t)(hg:∀u∈us,u.1.good)(gz:z.good):Stk H' S (us++[(z,t)]):=by
 refine⟨by rw[hS,List.map_append];rfl,fun u hm=> ?_,fun u hm=>(List.mem_append.mp hm).elim (hg u) fun m=>by rw[show u=(z,t) by simpa using m];exact gz⟩
 rcases List.mem_append.mp hm with m|m
 ·exact(hu u m).keep kp
 ·have e:u=(z,t):=by simpa using m
  rw[e];exact hz
theorem two_tree{H':Hp}{t:Addr}{x y:Tr×Addr}{w:Str}{z:Tr}(hx:Yw H' x.1 x.2)(hy:Yw H' y.1 y.2)(ht:H' t=some (.tup [.str w,.ref x.2,.ref y.2]))(hz:(w=Str.ofString "later"/\z=.later x.1 y.1)\/(w=Str.ofString "earlier"/\z=.earlier x.1 y.1)):
  Yw H' z t/\z.cnt=x.1.cnt+y.1.cnt/\(x.1.good->y.1.good->z.good):=by
 rcases hz with ⟨rfl,rfl⟩|⟨rfl,rfl⟩
 ·exact⟨⟨x.2,y.2,ht,hx,hy⟩,rfl,fun a b=>⟨a,b⟩⟩
 ·exact⟨⟨x.2,y.2,ht,hx,hy⟩,rfl,fun a b=>⟨a,b⟩⟩
theorem Zfo{H1:Hp}{S p t:Addr}{o1 o2 o3 o4 o5:HO}(hp:upd H1 S o1 p=none)(ht:upd (upd (upd H1 S o1) p o2) S o3 t=none):∀b u,b≠S->H1 b=some u->upd (upd (upd (upd (upd H1 S o1) p o2) S o3) t o4) S o5 b=some u:=fun b u n e=>by
 have e1:upd H1 S o1 b=some u:=by rw[Zf n];exact e
 have e2:upd (upd H1 S o1) p o2 b=some u:=by rw[Zf (Zk e1 hp)];exact e1
 have e3:upd (upd (upd H1 S o1) p o2) S o3 b=some u:=by rw[Zf n];exact e2
 rw[Zf n,Zf (Zk e3 ht)];exact e3
theorem Zky{H1:Hp}{S t:Addr}{o3 o4 o5:HO}(ht:upd H1 S o3 t=none):upd (upd (upd H1 S o3) t o4) S o5 t=some o4:=by
 rw[Zf (Ne.symm (Zk Zd ht)),Zd]
theorem Zkz(k:Int)(h0:0<=k)(h1:k<2)(x y:Tr):∃(w:Str) (z:Tr),atI [V.str (Str.ofString "later"),.str (Str.ofString "earlier")] k=some (.str w)/\((w=Str.ofString "later"/\z=.later x y)\/(w=Str.ofString "earlier"/\z=.earlier x y)):=by
 have e:k=0\/k=1:=by omega
 rcases e with rfl|rfl
 ·exact⟨_,_,rfl,.inl ⟨rfl,rfl⟩⟩
 ·exact⟨_,_,rfl,.inr ⟨rfl,rfl⟩⟩
theorem ZmQ:Nm (Str.ofString "put"):=by
 exact⟨by decide+kernel,by decide+kernel,by decide+kernel⟩
theorem ZmR(z:Str)(b:Bool)(hz:Nm z):∃w:Str,Nm w/\atI [V.str z,.str (Str.ofString "put")] (if b=true then 1 else 0)=some (.str w):=by
 cases b
 ·exact⟨z,hz,rfl⟩
 ·exact⟨_,ZmQ,rfl⟩
theorem ZeA:∀l:List (Tr×Addr),l.length<=Zds l
 |[]=>Nat.zero_le _
 |t::r=>by
  have:=t.1.deep_cnt;have:=ZeA r;show r.length+1<=t.1.cnt+Zds r;omega
theorem ZlD{S:Addr}{H:Hp}{Q:VK}{us:List V}{y:V}(h:H S=some (.lst (us++[y])))(q:Q y (upd H S (.lst us))):Zn9 (.ref S) [] H Q:=⟨S,_,y,rfl,rfl,h,ZlC us y,by rw[Zjc];exact q⟩
theorem Yx:ZV ["_law_cells","_law_names_by","_law_most","_law_some","_law_many","_law_cell","_law_other","_law_kind"] ["_law_cells","_law_names_by","_law_most"] (Zz Zam):=⟨rfl,rfl,rfl,by decide+kernel,rfl,by decide+kernel,by decide+kernel⟩
theorem ZeB{f:Addr}{fd:FuncData}(F:Fun K "_law_tree_by" "_law_tree_by" Zam f fd)(T:Txt K mg t_MOST_CLAUSES Zm Zg Zh Zb Zt ZM Zv ZC Zc ZD Zw Zu Zx Zy ZF ZP)(JG:Cal P w K mg base CX0 1 "_law_length_by" ["_law_cell"] Ji)(Yp:Cal P w K mg base CX0 1 "_law_name_by" ["_law_cell","_law_k"] Xm):YD P w K mg base CX0 2 f fd ["_law_cells","_law_names_by","_law_most"] Za8:=by
 refine F.ok Yx (fun vs H Q E h=> ?_) (fun cdv A outer s H vs Q E hr h=> ?_)
 ·obtain⟨a,ns,b,rfl,_⟩:=h
  rfl
 ·obtain⟨a,ns,b,rfl,ha,hn,q⟩:=h;have l5:=Jr;have hu3:=Zmp hr;refine⟨_,(Zj (ZL (i:=3) Yx.nd rfl (Or.inl rfl) (Xf Ze)) (Zj (ZL (i:=4) Yx.nd rfl (Or.inl rfl) Zn) (Zj (JX PassesOwn.never rfl (Jl (pv 0)) (YB (i:=5) Yx.nd rfl (Or.inl rfl)) (Zr (YM (PW.pt (Zm3 (Ym Zjp (ZJ YC (pv 5) Zn) Zn (Yj _)) (ZkP (Ym ZeZ (ZG XM (by rfl) T.z_len Zai (Za (pv 3) Ze)) Zn (Yj _))))) (Zj (ZL (i:=6) Yx.nd rfl (Or.inl rfl) (Zfz PySem.F.plainAttrs_list PySem.F.slot_list_pop PySem.F.type_list_pop ZfA (pv 3))) (Zr (JN (ZbT PySem.F.plainAttrs_list PySem.F.slot_list_append PySem.F.type_list_append Xq (pv 3) (Za (JB (Za (YH ZaI (Xf (Za Yt (Za Yt Ze))) (ZJ YC (pv 5) Zn) (fun _ _=>rfl)) (Za (Zfz PySem.F.plainAttrs_list PySem.F.slot_list_pop PySem.F.type_list_pop ZfA (pv 3)) (Za (pv 6) Ze)))) Ze))))) (Zr (YM (Ym Zjp (pv 4) (pv 2) (Yj _)) (Zj (ZL (i:=4) Yx.nd rfl (Or.inl rfl) (ZJ Jz (pv 4) Zn)) (Zr (YM (Ym XJ (ZJ YC (ZJ Xe (pv 5) Zn) Zn) Zn (Yj _)) (Zr (JN (ZbT PySem.F.plainAttrs_list PySem.F.slot_list_append PySem.F.type_list_append Xq (pv 3) (Za (JB (Za Yt Ze)) Ze)))) (Zj (ZL (i:=7) Yx.nd rfl (Or.inl rfl) (Yc Yp (hr.mono (by omega)) rfl Yh (Za (pv 1) (Za (ZJ YC (ZJ Xe (pv 5) Zn) Zn) Ze)))) (Zr (JN (ZbT PySem.F.plainAttrs_list PySem.F.slot_list_append PySem.F.type_list_append Xq (pv 3) (Za (JB (Za Yt (Za (YH ZaI (Xf (Za (pv 7) (Za Yt Ze))) (Jd Zaz (by rfl) T.z_int Zed (Za (Xz XJ (ZJ YC (ZJ Xe (pv 5) Zn) Zn) Zn (Yj _)) Ze)) (fun _ _=>rfl)) (Za (Yc JG (hr.mono (by omega)) rfl Yh (Za (ZJ Xe (pv 5) Zn) Ze)) Ze)))) Ze)))))))) Yi))))) (Zj (YM (Ym (ZjU hu3) (pv 3) (Xf Ze) (Yj _)) (Zr (ZQ (JB (Za Yt Ze)))) Yi) (Zj (Zjm PassesOwn.never (Ym ZeZ (ZG XM (by rfl) T.z_len Zai (Za (pv 3) Ze)) Zn (Yj _)) (Zj (ZL (i:=6) Yx.nd rfl (Or.inl rfl) (Zfz PySem.F.plainAttrs_list PySem.F.slot_list_pop PySem.F.type_list_pop ZfA (pv 3))) (Zr (JN (ZbT PySem.F.plainAttrs_list PySem.F.slot_list_append PySem.F.type_list_append Xq (pv 3) (Za (JB (Za (YH ZaI (Xf (Za Yt (Za Yt Ze))) (ZJ YC (ZG XM (by rfl) T.z_len Zai (Za (pv 3) Ze)) Zn) (fun _ _=>rfl)) (Za (Zfz PySem.F.plainAttrs_list PySem.F.slot_list_pop PySem.F.type_list_pop ZfA (pv 3)) (Za (pv 6) Ze)))) Ze)))))) (Zr (ZQ (YH ZaI (pv 3) Zn (fun _ _=>rfl))))))))), ?_⟩
  refine⟨Nat.zero_le _,fun S hS=>⟨_,rfl,a,rfl,⟨_,SqL.of (Zq hS _ _ ha)⟩,Zay (xs:=ns.map V.int) (fun i σ H'=>∃(ts:List (Tr×Addr)) (m:Nat) (v5 v6 v7:Option V),σ=[some (.ref a),some (.int b),some (.int 12),some (.ref S),some (.int (m:Int)),v5,v6,v7]/\Stk H' S ts/\Zds ts=m/\m<=12/\ZK H H') ?_ ?_ ?_ ?_⟩⟩
  ·exact⟨[],0,none,none,none,rfl,⟨Zd,(fun t ht=>nomatch ht),fun t ht=>nomatch ht⟩,rfl,by decide,Zq hS⟩
  ·rintro i σ H1 _ ⟨ts,m,v5,v6,v7,rfl,st,hc,hm,s1⟩;exact SqL.of (s1 _ _ ha)
  ·rintro i x σ H1 hx ⟨ts,m,v5,v6,v7,rfl,st,hc,hm,s1⟩;obtain⟨c,rfl⟩:∃c,x=V.int c:=by
    rw[List.getElem?_map] at hx
    cases q:ns[i]? with
    |none=>rw[q] at hx;cases hx
    |some c=>rw[q] at hx;cases hx;exact⟨c,rfl⟩
   have lts:ts.length<=12:=by
    have:=ZeA ts;omega
   have c0:=Int.emod_nonneg c (show(5:Int)≠0 by decide);refine(vI rfl (by show(0:Int)<5;decide) ⟨_,_,rfl,rfl,_,rfl, ?_⟩)
   refine(fun both=>ZaK (fun e1=>⟨_,rfl,_,_,rfl,.inl ⟨_,SqL.of st.at_,rfl⟩,_,_,rfl,rfl,_,rfl,ZaK (fun e2=> ?b1) (fun e2=>both)⟩) (fun e1=>ZaC both)) ?b2
   case b1=>
    have e1:c%5<2:=of_decide_eq_true e1;have e2:(1:Int)<(((ts.map fun t=>V.ref t.2).length:Nat):Int):=of_decide_eq_true e2;rw[List.length_map] at e2
    obtain⟨us,x,y,rfl⟩:=two_last ts (by omega);obtain⟨w,z,ew,hz⟩:=Zkz (c%5) c0 e1 x.1 y.1;have A1:H1 S=some (.lst ((us++[x]).map (fun t=>V.ref t.2)++[V.ref y.2])):=by rw[st.at_];simp
    refine⟨_,rfl,.inl ⟨rfl,_,SqL.of A1⟩,ZlD A1 ?_⟩;refine⟨_,rfl,.inl ⟨rfl,_,SqL.of Zd⟩,(show 2<=sizeLine from sl),fun p hp=> ?_⟩;have nSp:S≠p:=Zk Zd hp;have A2:upd (upd H1 S (.lst ((us++[x]).map fun t=>V.ref t.2))) p (.lst [.str (Str.ofString "later"),.str (Str.ofString "earlier")]) S=some (.lst (us.map (fun t=>V.ref t.2)++[V.ref x.2])):=by rw[Zf nSp,Zd];simp
    refine(vI rfl (by show(0:Int)<5;decide) ⟨p,_,_,_,rfl,rfl,SqL.of Zd,ew,_,rfl,.inl ⟨rfl,_,SqL.of A2⟩,ZlD A2 ?_⟩)
    refine⟨_,rfl,(show 3<=sizeLine from sl),fun t ht=> ?_⟩;have nSt:S≠t:=Zk Zd ht;refine⟨S,_,V.ref t,rfl,rfl,by rw[Zf nSt];exact Zd, ?_, ?_⟩
    ·rw[List.length_map];have:(us++[x,y]).length=us.length+2:=by simp
     omega
    ·have kp:=Zfo (o1:=.lst ((us++[x]).map fun t=>V.ref t.2)) (o2:=.lst [.str (Str.ofString "later"),.str (Str.ofString "earlier")]) (o3:=.lst (us.map fun t=>V.ref t.2)) (o4:=.tup [.str w,.ref x.2,.ref y.2]) (o5:=.lst (us.map (fun t=>V.ref t.2)++[.ref t])) hp ht;have kt:∀b xs,H1 b=some (.tup xs)->_:=fun b xs e=>kp b _ (Zgg e st.at_ (fun z=>nomatch z)) e;obtain⟨tz,cz,gz⟩:=two_tree ((st.all x (by simp)).keep kt) ((st.all y (by simp)).keep kt) (Zky ht) hz
     refine⟨us++[(z,t)],m,_,_,_,rfl,Stk.push (fun u hu=>st.all u (List.mem_append_left _ hu)) kt Zd tz (fun u hu=>st.gd u (List.mem_append_left _ hu)) (gz (st.gd x (by simp)) (st.gd y (by simp))), ?_,hm,fun b u e=>kp b u (Zk e hS) (s1 b u e)⟩;rw[<-hc,Zbt,Zbt];show Zds us+(z.cnt+0)=Zds us+(x.1.cnt+(y.1.cnt+0));omega
   case b2=>
    refine⟨_,rfl,_,rfl,_,_,rfl,rfl,_,rfl,ZaK (fun e3=> ?_) (fun e3=>⟨ts,m,_,_,_,rfl,st,hc,hm,s1⟩)⟩;have e3:(m:Int)<12:=of_decide_eq_true e3;refine⟨_,rfl,_,_,rfl,rfl,vI rfl ⟨by decide,by decide⟩ ⟨_,_,rfl,rfl,(by show(0:Int)<11;decide),rfl,_,rfl,ZaK (fun _=> ?_) (fun _=> ?_)⟩⟩
    ·refine⟨_,rfl,.inl ⟨rfl,_,SqL.of st.at_⟩,(show 1<=sizeLine from sl),fun t ht=> ?_⟩;have nSt:S≠t:=Zk st.at_ ht;refine⟨S,_,V.ref t,rfl,rfl,by rw[Zf nSt];exact st.at_,(by rw[List.length_map];omega), ?_⟩
     have kp:∀b u,b≠S->H1 b=some u->upd (upd H1 t (.tup [.str (Str.ofString "never")])) S (.lst (ts.map (fun t=>V.ref t.2)++[.ref t])) b=some u:=fun b u n e=>by
      rw[Zf n,Zf (Zk e ht)];exact e
     refine⟨ts++[(.never,t)],m+1,_,_,_,rfl,Stk.push st.all (fun b xs e=>kp b _ (Zgg e st.at_ (fun z=>nomatch z)) e) Zd ?_ st.gd trivial, ?_,by omega,fun b u e=>kp b u (Zk e hS) (s1 b u e)⟩
     ·show upd _ S _ t=_;rw[Zf (Ne.symm nSt),Zd]
     ·rw[Zbt,hc]
      rfl
    ·refine⟨_,rfl,vI rfl ⟨by decide,by decide⟩ ⟨_,_,rfl,rfl,(by show(0:Int)<6;decide),_,_,rfl,fun kz H2 nz s2=> ?_⟩⟩
     have st2:=st.same s2;refine⟨_,rfl,.inl ⟨rfl,_,SqL.of st2.at_⟩,_,rfl,(show 2<=sizeLine from sl),fun p hp=> ?_⟩;obtain⟨w,nw,ew⟩:=ZmR kz (decide (V.int (c/5%9)=V.int 4)) nz;refine(vI rfl ⟨by decide,by decide⟩ ⟨_,_,rfl,rfl,(by show(0:Int)<9;decide),rfl,.inr ⟨_,rfl,p,_,_,_,rfl,rfl,SqL.of Zd,ew, ?_⟩⟩)
     refine(vI rfl ⟨by decide,by decide⟩ ⟨_,rfl,fun d H4 d0 d1 s4=>⟨show 3<=sizeLine from sl,fun t ht=> ?_⟩⟩);have s24:=s2.trans ((Zq hp).trans s4);have st4:=st.same s24;have nSt:S≠t:=Zk st4.at_ ht;refine⟨S,_,V.ref t,rfl,rfl,by rw[Zf nSt];exact st4.at_,(by rw[List.length_map];omega), ?_⟩
     have kp:∀b u,b≠S->H4 b=some u->upd (upd H4 t (.tup [.str (Str.ofString "after"),.str w,.int d])) S (.lst (ts.map (fun t=>V.ref t.2)++[.ref t])) b=some u:=fun b u n e=>by
      rw[Zf n,Zf (Zk e ht)];exact e
     refine⟨ts++[(.after w d,t)],m+1,_,_,_,rfl,Stk.push st4.all (fun b xs e=>kp b _ (Zgg e st4.at_ (fun z=>nomatch z)) e) Zd ?_ st4.gd ⟨nw,d0,d1⟩, ?_,by omega,fun b u e=>kp b u (Zk e hS) (s24 _ _ (s1 b u e))⟩
     ·show upd _ S _ t=_;rw[Zf (Ne.symm nSt),Zd]
     ·rw[Zbt,hc]
      rfl
  ·rintro σ H1 ⟨ts,m,v5,v6,v7,rfl,st,hc,hm,s1⟩;refine⟨_,rfl,Nat.zero_le _,fun D hD=>⟨S,D,_,rfl,rfl,SqL.of (Zq hD _ _ st.at_),SqL.of Zd,_,rfl,ZaK (fun e=> ?_) (fun e=> ?_)⟩⟩
   ·exact⟨show 1<=sizeLine from sl,fun p hp=>q p .never _ (s1.trans ((Zq hD).trans (Zq hp))) Zd (by decide) trivial⟩
   ·have ne:ts≠[]:=fun z=>e (decide_eq_true (by rw[z];rfl))
    refine⟨fun k σ H'=>∃(us:List (Tr×Addr)) (v5 v6 v7:Option V),σ=[some (.ref a),some (.int b),some (.int 12),some (.ref S),some (.int (m:Int)),v5,v6,v7]/\Stk H' S us/\us≠[]/\Zds us<=12/\k=us.length/\ZK H H',⟨ts.length,ts,v5,v6,v7,rfl,st.same (Zq hD),ne,by omega,rfl,s1.trans (Zq hD)⟩, ?_⟩;rintro k σ H2 ⟨us,v5,v6,v7,rfl,st2,ne2,hc2,rfl,s2⟩;refine⟨_,rfl,_,_,rfl,.inl ⟨_,SqL.of st2.at_,rfl⟩,_,_,rfl,rfl,_,rfl,ZaK (fun e=> ?_) (fun e=> ?_)⟩
    ·have e:(1:Int)<(((us.map fun t=>V.ref t.2).length:Nat):Int):=of_decide_eq_true e;rw[List.length_map] at e
     refine⟨fun σ' H'=>∃(us':List (Tr×Addr)) (v5 v6 v7:Option V),σ'=[some (.ref a),some (.int b),some (.int 12),some (.ref S),some (.int (m:Int)),v5,v6,v7]/\Stk H' S us'/\us'≠[]/\Zds us'<=12/\us'.length<us.length/\ZK H H',
      fun σ' H' ⟨us',w5,w6,w7,e',st',ne',hc',hl',s'⟩=>⟨us'.length,hl',us',w5,w6,w7,e',st',ne',hc',rfl,s'⟩, ?_⟩
     obtain⟨vs,x,y,rfl⟩:=two_last us (by omega);have lv:(vs++[x,y]).length=vs.length+2:=by simp
     have lv2:vs.length<=1000:=by
      have:=ZeA (vs++[x,y]);omega
     obtain⟨w,z,ew,hz⟩:=Zkz ((((((vs++[x]).map fun t=>V.ref t.2).length:Nat):Int))%2) (Int.emod_nonneg _ (by decide)) (Int.emod_lt_of_pos _ (by decide)) x.1 y.1;have A1:H2 S=some (.lst ((vs++[x]).map (fun t=>V.ref t.2)++[V.ref y.2])):=by rw[st2.at_];simp
     refine⟨_,rfl,.inl ⟨rfl,_,SqL.of A1⟩,ZlD A1 ?_⟩;refine⟨_,rfl,.inl ⟨rfl,_,SqL.of Zd⟩,(show 2<=sizeLine from sl),fun p hp=> ?_⟩;have nSp:S≠p:=Zk Zd hp;have A2:upd (upd H2 S (.lst ((vs++[x]).map fun t=>V.ref t.2))) p (.lst [.str (Str.ofString "later"),.str (Str.ofString "earlier")]) S=some (.lst ((vs++[x]).map (fun t=>V.ref t.2))):=by rw[Zf nSp,Zd]
     have A3:upd (upd H2 S (.lst ((vs++[x]).map fun t=>V.ref t.2))) p (.lst [.str (Str.ofString "later"),.str (Str.ofString "earlier")]) S=some (.lst (vs.map (fun t=>V.ref t.2)++[V.ref x.2])):=by rw[A2];simp
     refine⟨_,rfl,_,_,rfl,.inl ⟨_,SqL.of A2,rfl⟩,_,_,rfl,rfl,(by show(0:Int)<2;decide),p,_,_,_,rfl,rfl,SqL.of Zd,ew,_,rfl,.inl ⟨rfl,_,SqL.of A3⟩,ZlD A3 ?_⟩
     refine⟨_,rfl,(show 3<=sizeLine from sl),fun t ht=> ?_⟩;have nSt:S≠t:=Zk Zd ht;refine⟨S,_,V.ref t,rfl,rfl,by rw[Zf nSt];exact Zd,(by rw[List.length_map];omega), ?_⟩
     have kp:=Zfo (o1:=.lst ((vs++[x]).map fun t=>V.ref t.2)) (o2:=.lst [.str (Str.ofString "later"),.str (Str.ofString "earlier")]) (o3:=.lst (vs.map fun t=>V.ref t.2)) (o4:=.tup [.str w,.ref x.2,.ref y.2]) (o5:=.lst (vs.map (fun t=>V.ref t.2)++[.ref t])) hp ht;have kt:∀b xs,H2 b=some (.tup xs)->_:=fun b xs e=>kp b _ (Zgg e st2.at_ (fun z=>nomatch z)) e;obtain⟨tz,cz,gz⟩:=two_tree ((st2.all x (by simp)).keep kt) ((st2.all y (by simp)).keep kt) (Zky ht) hz
     refine⟨vs++[(z,t)],_,_,_,rfl,Stk.push (fun u hu=>st2.all u (List.mem_append_left _ hu)) kt Zd tz (fun u hu=>st2.gd u (List.mem_append_left _ hu)) (gz (st2.gd x (by simp)) (st2.gd y (by simp))),by simp, ?_,by rw[lv,List.length_append];show vs.length+1<_;omega,fun b u e=>kp b u (Zk e hS) (s2 b u e)⟩
     rw[Zbt] at hc2⊢
     have h2:Zds vs+(x.1.cnt+(y.1.cnt+0))<=12:=hc2;show Zds vs+(z.cnt+0)<=12;omega
    ·have e:¬(1:Int)<(((us.map fun t=>V.ref t.2).length:Nat):Int):=fun z=>e (decide_eq_true z);rw[List.length_map] at e
     obtain⟨t,rfl⟩:∃t,us=[t]:=by
      cases us with
      |nil=>exact absurd rfl ne2
      |cons t r=>
       cases r with
       |nil=>exact⟨t,rfl⟩
       |cons u r=>simp only [List.length_cons] at e;omega
     refine⟨_,rfl,S,_,_,V.ref t.2,rfl,rfl,SqL.of st2.at_,rfl,q t.2 t.1 H2 s2 (st2.all t (by simp)) ?_ (st2.gd t (by simp))⟩;have h2:t.1.cnt+0<=12:=hc2;omega
theorem Yd.same{H H':Hp}(s:ZK H H'):∀{as:List Addr} {ws:List Tb},Yd H as ws->Yd H' as ws
 |_,_,.nil=> .nil
 |_,_,.cons ⟨c,e,r⟩ t=> .cons ⟨c,s _ _ e,r⟩ (Yd.same s t)
theorem Yd.but{H H':Hp}(s:∀(b:Addr) (kvs:List (Key×V)),H b=some (.dK kvs)->H' b=some (.dK kvs)):∀{as:List Addr} {ws:List Tb},Yd H as ws->Yd H' as ws
 |_,_,.nil=> .nil
 |_,_,.cons ⟨c,e,r⟩ t=> .cons ⟨c,s _ _ e,r⟩ (Yd.but s t)
theorem Yd.app{H:Hp}:∀{as bs:List Addr} {ws us:List Tb},Yd H as ws->Yd H bs us->Yd H (as++bs) (ws++us)
 |_,_,_,_,.nil,k=>k
 |_,_,_,_,.cons r t,k=> .cons r (Yd.app t k)
theorem Yd.get{H:Hp}:∀{as:List Addr} {ws:List Tb},Yd H as ws->∀(i:Nat) (x:V),(as.map V.ref)[i]? =some x->∃a w c,x=.ref a/\as[i]? =some a/\ws[i]? =some w/\H a=some (.dK (kk c))/\M4.Nd c/\M4.Ys c=w
 |_,_,.nil,i,x,h=>by simp at h
 |_,_,.cons ⟨c,e,n,q⟩ t,0,x,h=>⟨_,_,c,(by simpa using h.symm),rfl,rfl,e,n,q⟩
 |_,_,.cons _ t,i+1,x,h=>Yd.get t i x (by simpa using h)
theorem Yd.len{H:Hp}{as:List Addr}{ws:List Tb}(h:Yd H as ws):as.length=ws.length:=Paired.length h
theorem Zip{H:Hp}{a:Addr}{kvs:List (Key×V)}(h:H a=some (.dK kvs)):∀o u,H a≠some (.frz o u):=fun o u e=>by rw[h] at e;cases e
theorem ZkA{c:Tb}(h:c.length<=1000):(kk c).length<=sizeLine:=by
 have l5:=Jr;rw[Yy];omega
theorem ZkB{c:Tb}{kv:Key×V}(h:kv∈kk c):∃p∈c,kv=(Sum.inr p.1,V.int p.2):=
 (List.mem_map.mp h).elim fun p z=>⟨p,z.1,z.2.symm⟩
def ZmS:Key->Str
 | .inr x=>x
 | .inl _=>Str.empty
def ZlV:V->Int
 | .int i=>i
 |_=>0
theorem ZmT{β:Type}(c:Tb)(f:Str->Int->β):((kk c).map fun kv=>f (ZmS kv.1) (ZlV kv.2))=c.map fun p=>f p.1 p.2:=by
 unfold kk;rw[List.map_map]
 rfl
theorem ZkC{c:Tb}{i:Nat}{kv:Key×V}(h:(kk c)[i]? =some kv):∃p,c[i]? =some p/\kv=(Sum.inr p.1,V.int p.2):=by
 unfold kk at h
 rw[List.getElem?_map] at h
 cases q:c[i]? with
 |none=>rw[q] at h;cases h
 |some p=>rw[q] at h;cases h;exact⟨p,rfl,rfl⟩
theorem ZgT:ZV ["one","other"] ["one","other"] (Zz Zc4):=⟨rfl,rfl,rfl,by decide+kernel,rfl,by decide+kernel,by decide+kernel⟩
theorem ZgU{f:Addr}{fd:FuncData}(F:Fun K "is_below" "is_below" Zc4 f fd)(T:Txt K mg t_MOST_CLAUSES Zm Zg Zh Zb Zt ZM Zv ZC Zc ZD Zw Zu Zx Zy ZF ZP):YD P w K mg base CX0 1 f fd ["one","other"] Zbr:=by
 refine F.ok ZgT (fun vs H Q E h=> ?_) (fun cdv A outer s H vs Q E hr h=> ?_)
 ·obtain⟨a,b,c,l,rfl,_⟩:=h
  rfl
 ·obtain⟨a,b,c,l,rfl,ha,hb,hl,q⟩:=h;have hu:=Zi8 hr;refine⟨_,(Zr (ZQ (ZG (Zhj rfl) (by rfl) T.z_all Zmh (Za (Zlc a (Zcr ["kind","length"] [("other",1)] rfl (Zgt (Zef (pv 0))) (by rfl) (by exact⟨rfl,trivial⟩) (by rfl) (by exact⟨⟨rfl,rfl,rfl⟩,trivial⟩) (fun _ _ _ _=>(Zld (K:=K) 2 rfl rfl (Zcm (YB (i:=0) (show(nmY ["kind","length"] [("other",1)]).Nodup by decide+kernel) rfl (Or.inl rfl) (Or.inr rfl)) (Zcm (YB (i:=1) (show(nmY ["kind","length"] [("other",1)]).Nodup by decide+kernel) rfl (Or.inl rfl) (Or.inr rfl)) Zi0)) rfl rfl)) (fun _ _ _ _=>Zcq) (fun _ _ _ _=>(Zd2 (Zm1 (Zmc hu (pv 0) (pv 2))) (Zd1 (Xz ZlJ (pv 1) (ZdQ hu (pv 2) (pv 0) (fun _ _=>rfl)) (Yj _))))))) Ze)))), ?_⟩
  refine Zhq (f:=fun kv=>V.bl (match lk l (ZmS kv.1) with|some u=>decide (ZlV kv.2<=u)|none=>false)) rfl ha (ZkA hl) (Zip ha) (fun v u=>⟨rfl,trivial⟩) (fun kv hm H3 Q3 fs k3=> ?_) fun D3 H3 s3 _ d3=> ?_
  ·obtain⟨p,hp,rfl⟩:=ZkB hm;have hg:=Zdo (fs.rd2 ha hb) p.1;have k4:=k3 H3 (ZK.refl _);rw[show ZmS (Sum.inr p.1)=p.1 from rfl] at k4
   refine⟨_,rfl,_,rfl,b,_,rfl,hg,_,rfl, ?_⟩;rw[Zez];cases ev:lk l p.1 with
   |none=>
    rw[ev] at k4
    exact ZaC k4
   |some u=>
    rw[ev] at k4 hg
    exact JP ⟨_,rfl,_,rfl,_,rfl,b,_,rfl,hg,_,_,rfl,rfl,k4⟩
  ·rw[ZmT c (fun k i=>V.bl (match lk l k with|some u=>decide (i<=u)|none=>false))] at d3
   refine⟨D3,c.map (fun p=>match lk l p.1 with|some u=>decide (p.2<=u)|none=>false),rfl,SqL.of (by rw[d3,List.map_map];rfl), ?_⟩
   have e:(c.map fun p=>match lk l p.1 with|some u=>decide (p.2<=u)|none=>false).all id=ZZ c l:=by
    unfold ZZ;rw[List.all_map]
    rfl
   rw[e];exact q H3 s3
theorem ZgV{H H':Hp}{a:Addr}{xs:List V}(s:ZK H H')(h:SqT K H a xs):SqT K H' a xs:=by
 rcases h with h|h
 ·rcases h with h|⟨o,h⟩
  ·exact .inl (.inl (s _ _ h))
  ·exact .inl (.inr ⟨o,s _ _ h⟩)
 ·exact .inr h
theorem ZkD{H H':Hp}{a:Addr}{xs:List V}(s:ZK H H')(h:SqL K H a xs):SqL K H' a xs:=by
 rcases h with h|h
 ·rcases h with h|⟨o,h⟩
  ·exact .inl (.inl (s _ _ h))
  ·exact .inl (.inr ⟨o,s _ _ h⟩)
 ·exact .inr h
theorem ZlE{H H':Hp}{x:Lf}{v:V}(s:ZK H H')(r:Rep K H (lfD x) v):Rep K H' (lfD x) v:=by
 cases r with
 |tup h r=>
  refine .tup (ZgV s h) ?_;cases r with
  |cons a r=>
   cases r with
   |cons b r=>
    cases r;cases a;cases b;exact .cons (.flat rfl) (.cons (.flat rfl) .nil)
theorem ZgW{H H':Hp}{l:List Lf}{v:V}(s:ZK H H')(r:Rep K H (ZdN l) v):Rep K H' (ZdN l) v:=by
 cases r with
 |lst h r=>
  refine .lst (ZkD s h) ?_;clear h;generalize e:l.map lfD=ds at r
  induction r generalizing l with
  |nil=>exact .nil
  |cons a t ih=>
   cases l with
   |nil=>cases e
   |cons y l=>
    rw[List.map_cons] at e
    injection e with e1 e2
    subst e1;exact .cons (ZlE s a) (ih e2)
theorem ZlF{H H':Hp}{k:Ky}{v:V}(s:ZK H H')(r:Rep K H (kyD k) v):Rep K H' (kyD k) v:=by
 cases r with
 |tup h r=>
  refine .tup (ZgV s h) ?_;cases r with
  |cons a r=>
   cases r with
   |cons b r=>
    cases r;cases a;exact .cons (.flat rfl) (.cons (ZgW s b) .nil)
theorem ZgX:ZV ["clause"] ["clause"] (Zz Zc5):=⟨rfl,rfl,rfl,by decide+kernel,rfl,by decide+kernel,by decide+kernel⟩
theorem ZgY{f:Addr}{fd:FuncData}(F:Fun K "place_of" "place_of" Zc5 f fd)(T:Txt K mg t_MOST_CLAUSES Zm Zg Zh Zb Zt ZM Zv ZC Zc ZD Zw Zu Zx Zy ZF ZP):YD P w K mg base CX0 1 f fd ["clause"] (Ju K):=by
 refine F.ok ZgX (fun vs H Q E h=> ?_) (fun cdv A outer s H vs Q E hr h=> ?_)
 ·obtain⟨a,c,rfl,_⟩:=h
  rfl
 ·obtain⟨a,c,rfl,ha,hl,q⟩:=h;have l5:=Jr;refine⟨_,(Zr (ZQ (JB (Za (ZG ZiN (by rfl) T.z_len Zai (Za (pv 0) Ze)) (Za (ZG (ZeQ (K:=K) rfl rfl) (by rfl) T.z_sorted Zf9 (Za (Zef (pv 0)) Ze)) Ze))))), ?_⟩;refine⟨_,rfl,a,_,rfl,ha,_,rfl,a,_,rfl,ha,fun v hv=>⟨v,a,c,rfl,Zd,by rw[Zf (Zk ha hv)];exact ha,by omega,fun zs pz az p H1 hp s1 rp=>⟨show 2<=sizeLine from sl,fun t ht=> ?_⟩⟩⟩
  have e:zs=M4.Ys c:=M4.ZfS Za3 pz az;subst e;have s2:ZK H1 (upd H1 t (.tup [.int ((kk c).length:Int),.ref p])):=Zq ht;refine q t _ (((Zq hv).trans s1).trans s2) ?_;rw[Yy];exact .tup (SqT.of Zd) (.cons (.flat rfl) (.cons (ZgW (Zq ht) rp) .nil))
theorem Zfp(c:Tb):∀l:Tb,(M4.Yo c l).length<=c.length+l.length:=by
 have go:∀(l d:Tb),(l.foldl (fun x p=>Zcx x p.1 (max p.2 ((lk c p.1).getD p.2))) d).length<=d.length+l.length:=by
  intro l
  induction l with
  |nil=>exact fun d=>Nat.le_refl _
  |cons p r ih=>
   intro d;have h1:=ih (Zcx d p.1 (max p.2 ((lk c p.1).getD p.2)));have h2:=Zhr d p.1 (max p.2 ((lk c p.1).getD p.2));rw[List.length_cons,List.foldl_cons];omega
 exact fun l=>go l c
theorem Zfq{c l:Tb}{i:Nat}{p:Str×Int}(h:l[i]? =some p):M4.Yo c (l.take (i+1))=Zcx (M4.Yo c (l.take i)) p.1 (max p.2 ((lk c p.1).getD p.2)):=by
 unfold M4.Yo;rw[List.take_add_one,h,List.foldl_append]
 rfl
theorem ZbO:ZV ["one","other","clause","kind","length"] ["one","other"] (Zz Zep):=⟨rfl,rfl,rfl,by decide+kernel,rfl,by decide+kernel,by decide+kernel⟩
theorem Zjd{f:Addr}{fd:FuncData}(F:Fun K "joined" "joined" Zep f fd)(T:Txt K mg t_MOST_CLAUSES Zm Zg Zh Zb Zt ZM Zv ZC Zc ZD Zw Zu Zx Zy ZF ZP):YD P w K mg base CX0 1 f fd ["one","other"] Zdn:=by
 refine F.ok ZbO (fun vs H Q E h=> ?_) (fun cdv A outer s H vs Q E hr h=> ?_)
 ·obtain⟨a,b,c,l,rfl,_⟩:=h
  rfl
 ·obtain⟨a,b,c,l,rfl,ha,hb,hc,hl,q⟩:=h;have l5:=Jr;have hu:=Zi8 hr;refine⟨_,(Zj (ZL (i:=2) ZbO.nd rfl (Or.inl rfl) (Jd Zct (by rfl) T.z_dict Zib (Za (pv 0) Ze))) (Zj (Zid b (JX PassesOwn.never rfl (Zgt (Zef (pv 1))) (Zjl rfl (Zcm (YB (i:=3) ZbO.nd rfl (Or.inl rfl)) (Zcm (YB (i:=4) ZbO.nd rfl (Or.inl rfl)) Zi0))) (Zr (Zi4 hu (pv 2) (pv 3) (ZG (ZbA rfl) (by rfl) T.z_max ZfD (Za (pv 4) (Za (Zgo hu (pv 0) (pv 3) (pv 4) ⟨rfl,rfl,rfl,rfl⟩) Ze))) rfl)))) (Zr (ZQ (pv 2))))), ?_⟩
  refine⟨_,rfl,a,_,rfl,ha,fun p hp=> ?_⟩;have npb:b≠p:=Zk hb hp;have hb1:upd H p (.dK (kk c)) b=some (.dK (kk l)):=by rw[Zf npb];exact hb
  refine⟨_,rfl,b,_,rfl,hb1,fun v hv=>⟨v,b,_,rfl,Zd,by rw[Zf (Zk hb1 hv)];exact hb1,fun o=> ?_⟩⟩
  have nvb:b≠v:=Zk hb1 hv;have npv:p≠v:=Zk Zd hv;refine Zho (J:=Iti b o (kk l)) (n:=l.length) (fun i σ H'=>∃v3 v4,σ=[some (.ref a),some (.ref b),some (.ref p),v3,v4]/\H' p=some (.dK (kk (M4.Yo c (l.take i))))/\(∀b' u,b'≠b->H b'=some u->H' b'=some u)/\H' b=some (.frz o (.dK (kk l)))) ?_ ?_ ?_ ?_
  ·exact⟨none,none,rfl,by rw[Zf (Ne.symm npb),Zf npv];exact Zd,fun b' u n e=>by rw[Zf n];exact Zq hv _ _ (Zq hp _ _ e),Zd⟩
  ·rintro i σ H1 hi ⟨v3,v4,rfl,d1,f1,g1⟩;exact⟨g1,by rw[Yy];exact hi⟩
  ·rintro σ H1 ⟨v3,v4,rfl,d1,f1,g1⟩;rw[List.take_of_length_le (Nat.le_refl _)] at d1
   refine⟨⟨g1,by rw[Yy];exact Nat.le_refl _⟩,upd H1 b (.dK (kk l)),⟨Zip hb,o,_,g1,rfl⟩, ?_⟩
   refine⟨_,rfl,q p _ hp (fun b' u e=> ?_) (by rw[Zf (Ne.symm npb)];exact d1)⟩
   by_cases z:b'=b
   ·subst z;rw[hb] at e
    cases e;exact Zd
   ·rw[Zf z];exact f1 b' u z e
  ·rintro i x σ H1 H2 hi ⟨v3,v4,rfl,d1,f1,g1⟩ ⟨kv,pp,e3,hpp,rfl,rfl⟩;obtain⟨pr,e5,rfl⟩:=ZkC e3;have npp:p≠pp:=Zk d1 hpp;refine⟨pp,_,rfl,SqT.of Zd,rfl,_,_,rfl,_,_,rfl,rfl, ?_⟩;have sp:ZK H1 (upd H1 pp (.tup [kV (Sum.inr pr.1),V.int pr.2])):=Zq hpp;have rdA:Rd (upd H1 pp (.tup [kV (Sum.inr pr.1),V.int pr.2])) a (.dK (kk c)):=by
    by_cases z:a=b
    ·subst z;rcases ha with h|⟨o',h⟩
     ·rw[hb] at h
      injection h with h
      injection h with h
      exact .inr ⟨o,by rw[<-h];exact sp _ _ g1⟩
     ·rw[hb] at h;cases h
    ·rcases ha with h|⟨o',h⟩
     ·exact .inl (sp _ _ (f1 _ _ z h))
     ·exact .inr ⟨o',sp _ _ (f1 _ _ z h)⟩
   have ej:((lk c pr.1).map V.int).getD (V.int pr.2)=V.int ((lk c pr.1).getD pr.2):=by cases lk c pr.1<;>rfl
   have len:(kk (M4.Yo c (l.take i))).length<sizeLine:=by
    have:=Zfp c (l.take i);have:=List.length_take_le i l;rw[Yy];omega
   refine⟨_,rfl,_,rfl,a,rfl,.inl ⟨_,rdA⟩,_,rfl,_,rfl,_,Zdo rdA pr.1,pr.2,(lk c pr.1).getD pr.2,by rw[ej],_,rfl,_,rfl,p,_,rfl,ZiJ.k (k:=Sum.inr pr.1) (sp _ _ d1) len, ?_⟩;refine⟨_,_,rfl, ?_,fun b' u n e=> ?_,by rw[Zf npb];exact sp _ _ g1⟩
   ·rw[ZjR,Zd,Zfq e5]
    congr 4
    split<;>omega
   ·have nb:b'≠p:=Zk e hp;rw[Zf nb];exact sp _ _ (f1 b' u n e)
theorem Yd.sizes{H:Hp}{as:List Addr}{ws:List Tb}{i:Nat}{w c:Tb}{n:Nat}(hw:∀w∈ws,w.length<=n)(e:ws[i]? =some w)(q:M4.Ys c=w):c.length<=n:=by
 rw[<-M4.YT c,q];exact hw w (List.mem_of_getElem? e)
theorem Zar:ZV ["ones","others","clauses","one"] ["ones","others"] (Zz ZaQ):=⟨rfl,rfl,rfl,by decide+kernel,rfl,by decide+kernel,by decide+kernel⟩
theorem ZeU{f:Addr}{fd:FuncData}(F:Fun K "all_joined" "all_joined" ZaQ f fd)(T:Txt K mg t_MOST_CLAUSES Zm Zg Zh Zb Zt ZM Zv ZC Zc ZD Zw Zu Zx Zy ZF ZP)(ZeC:Cal P w K mg base CX0 1 "joined" ["one","other"] Zdn):YD P w K mg base CX0 2 f fd ["ones","others"] Zap:=by
 refine F.ok Zar (fun vs H Q E h=> ?_) (fun cdv A outer s H vs Q E hr h=> ?_)
 ·obtain⟨p,q,as,bs,ws,us,rfl,_⟩:=h
  rfl
 ·obtain⟨p,q,as,bs,ws,us,rfl,hp,hq,ca,cb,ln,lb,wa,wb,k⟩:=h;have l5:=Jr;refine⟨_,(Zj (ZL (i:=2) Zar.nd rfl (Or.inl rfl) (Xf Ze)) (Zj (JX PassesOwn.never rfl (Jl (pv 0)) (YB (i:=3) Zar.nd rfl (Or.inr rfl)) (Zr (JN (ZbT PySem.F.plainAttrs_list PySem.F.slot_list_extend PySem.F.type_list_extend ZiI (pv 2) (Za (Zcr ["other"] [("one",3)] rfl (Jl (pv 1)) (by rfl) (by exact⟨rfl,trivial⟩) (by rfl) (by exact⟨⟨rfl,rfl,rfl⟩,trivial⟩) (fun _ _ _ _=>(YB (i:=0) (show(nmY ["other"] [("one",3)]).Nodup by decide+kernel) rfl (Or.inl rfl))) (fun _ _ _ _=>Zcq) (fun _ _ _ _=>(Yc ZeC (hr.mono (by omega)) rfl Yh (Za (pv 1) (Za (pv 0) Ze))))) Ze))))) (Zr (ZQ (pv 2))))), ?_⟩
  refine⟨Nat.zero_le _,fun S hS=>⟨_,rfl,p,rfl,⟨_,SqL.of (Zq hS _ _ hp)⟩,Zay (xs:=as.map V.ref) (fun i σ H'=>∃(ds:List Addr) (v3:Option V),σ=[some (.ref p),some (.ref q),some (.ref S),v3]/\H' S=some (.lst (ds.map V.ref))/\Yd H' ds ((ws.take i).flatMap fun x=>us.map fun y=>M4.Ys (M4.Yo x y))/\(∀d∈ds,H d=none)/\ZK H H'/\ds.length=i*bs.length) ?_ ?_ ?_ ?_⟩⟩
  ·exact⟨[],none,rfl,Zd,by rw[List.take_zero];exact .nil,(fun d hd=>nomatch hd),Zq hS,by simp⟩
  ·rintro i σ H1 _ ⟨ds,v3,rfl,d1,c1,n1,s1,l1⟩;exact SqL.of (s1 _ _ hp)
  ·rintro i x σ H1 hx ⟨ds,v3,rfl,d1,c1,n1,s1,l1⟩;obtain⟨a,w,c,rfl,e1,e2,e3,e4,e5⟩:=Yd.get (ca.same s1) i x hx;have hi:i<as.length:=(List.getElem?_eq_some_iff.mp e1).1;have hc:=Yd.sizes (H:=H1) (as:=as) wa e2 e5;refine⟨_,rfl,.inl ⟨rfl,_,SqL.of d1⟩,_,rfl,q,rfl,⟨_,SqL.of (s1 _ _ hq)⟩,Zeg fun D hD=>⟨bs.length,fun j ys H2=>∃es:List Addr,ys=es.map V.ref/\Yd H2 es ((us.take j).map fun y=>M4.Ys (M4.Yo w y))/\(∀d∈es,H1 d=none)/\ZK H1 H2/\es.length=j, ?_⟩⟩
   have hSD:S≠D:=Zk d1 hD;refine⟨by omega,⟨[],rfl,by rw[List.take_zero];exact .nil,(fun d hd=>nomatch hd),Zq hD,rfl⟩,fun j ys H2 z=> ?_,fun j ys zs H2 H3 e kp z=> ?_,fun j ys H2 z lt=> ?_,fun ys H2 z e=> ?_,fun j y ys H2 H3 z e lt yl RT RF rt rf=> ?_⟩
   ·obtain⟨es,rfl,_,_,_,le⟩:=z;rw[List.length_map,le];exact Nat.le_refl _
   ·obtain⟨es,rfl,c2,n2,s2,le⟩:=z;refine⟨es,rfl,Yd.but (fun b u h1=>kp b _ (fun w=>by rw[w,e] at h1;cases h1) h1) c2,n2,fun b u h1=>kp b u (Zk h1 hD) (s2 b u h1),le⟩
   ·obtain⟨es,rfl,c2,n2,s2,le⟩:=z;exact⟨_,_,SqL.of (s2 _ _ (s1 _ _ hq)),List.getElem?_eq_getElem (by rw[List.length_map];exact lt)⟩
   ·obtain⟨es,rfl,c2,n2,s2,le⟩:=z;refine⟨⟨_,SqL.of (s2 _ _ (s1 _ _ hq)),by rw[List.length_map];exact Nat.le_refl _⟩, ?_⟩
    rw[cb.len,List.take_of_length_le (Nat.le_refl _)] at c2
    have d2:=s2 _ _ d1;have nDS:D≠S:=fun z=>hSD z.symm;refine⟨S,D,_,_,rfl,rfl,d2,e, ?_,ds++es,_,rfl, ?_, ?_,fun d hd=> ?_,fun b u h1=> ?_, ?_⟩
    ·rw[List.length_map,List.length_map,l1,le];have:i*bs.length<=as.length*bs.length:=Nat.mul_le_mul_right _ (Nat.le_of_lt hi);omega
    ·rw[Zd,List.map_append]
    ·have e6:(ws.take (i+1)).flatMap (fun x=>us.map fun y=>M4.Ys (M4.Yo x y))=(ws.take i).flatMap (fun x=>us.map fun y=>M4.Ys (M4.Yo x y))++us.map fun y=>M4.Ys (M4.Yo w y):=by
      rw[List.take_add_one,e2,List.flatMap_append];simp
     rw[e6];exact Yd.but (fun b u h1=>by rw[Zf (fun w=>by rw[w,d2] at h1;cases h1)];exact h1) (Yd.app (c1.same s2) c2)
    ·rcases List.mem_append.mp hd with z|z
     ·exact n1 d z
     ·cases q2:H d with
      |none=>rfl
      |some u=>have:=s1 d u q2;rw[n2 d z] at this;cases this
    ·rw[Zf (Zk h1 hS)];exact s2 b u (s1 b u h1)
    ·rw[List.length_append,l1,le,Nat.succ_mul]
   ·obtain⟨es,rfl,c2,n2,s2,le⟩:=z;obtain⟨rfl,yl⟩:=yl;have hy:=yl _ (SqL.of (s2 _ _ (s1 _ _ hq)));obtain⟨a',w',c',rfl,f1,f2,f3,f4,f5⟩:=Yd.get (cb.same (s1.trans s2)) j y hy;have hc':=Yd.sizes (H:=H1) (as:=as) wb f2 f5;refine⟨⟨rfl,trivial⟩, ?_⟩;unfold ZdE;refine JP ⟨_,rfl,_,rfl,a,a',c,c',rfl,.inl (s2 _ _ e3),f3,by omega,by omega,fun pd H6 hpd s6 d6=>rt _ H6 (s6 _ _ e) ⟨es++[pd],by rw[List.map_append];rfl, ?_,fun d hd=> ?_,s2.trans s6,by rw[List.length_append,le];rfl⟩⟩
    ·rw[List.take_add_one,f2,List.map_append];exact Yd.app (c2.same s6) (.cons ⟨_,d6,M4.Zaf e4,by rw[<-e5,<-f5];exact M4.Zfk e4 f4 (M4.ZcK e4) (M4.ZcK f4) (M4.ZbL c).symm (M4.ZbL c').symm⟩ .nil)
    ·rcases List.mem_append.mp hd with z|z
     ·exact n2 d z
     ·have e7:d=pd:=by simpa using z
      subst e7;cases q2:H1 d with
      |none=>rfl
      |some u=>have:=s2 d u q2;rw[hpd] at this;cases this
  ·rintro σ H1 ⟨ds,v3,rfl,d1,c1,n1,s1,l1⟩;rw[List.length_map,ca.len,List.take_of_length_le (Nat.le_refl _)] at c1
   exact⟨_,rfl,k S ds H1 hS s1 d1 c1 n1⟩
theorem ZlG(c:Tb):((c.length:Int),M4.Ys c)=M4.Zc3 (M4.Ys c):=by
 unfold M4.Zc3;rw[M4.YT]
theorem ZgZ{H:Hp}:∀{kk ll:List Ky} {xs ys:List V},Paired (fun y x=>Rep K H (kyD y) x) kk xs->Paired (fun y x=>Rep K H (kyD y) x) ll ys->Paired (fun y x=>Rep K H (kyD y) x) (kk++ll) (xs++ys)
 |_,_,_,_,.nil,k=>k
 |_,_,_,_,.cons r t,k=> .cons r (ZgZ t k)
theorem Zfr{H H':Hp}(s:ZK H H'):∀{kk:List Ky} {xs:List V},Paired (fun y x=>Rep K H (kyD y) x) kk xs->Paired (fun y x=>Rep K H' (kyD y) x) kk xs
 |_,_,.nil=> .nil
 |_,_,.cons r t=> .cons (ZlF s r) (Zfr s t)
theorem ZkE{R:List V->Hp->Prop}:∀{as:List Addr} {ws:List Tb} {H:Hp} {kk:List Ky} {ks:List V},Yd H as ws->(∀w∈ws,w.length<64)->Paired (fun y x=>Rep K H (kyD y) x) kk ks->
  (∀kx H2,ZK H H2->Paired (fun y x=>Rep K H2 (kyD y) x) (kk++ws.map M4.Zc3) kx->R kx H2)->kys (Ju K) (as.map V.ref) ks H R
 |_,_,H,kk,ks,.nil,_,rp,q=>q ks H (ZK.refl H) (by rw[List.map_nil,List.append_nil];exact rp)
 |_,_,H,kk,ks,.cons (a:=a) (b:=w) ⟨c,e,n,e2⟩ t,hl,rp,q=>by
  have lc:c.length<64:=by rw[<-M4.YT c,e2];exact hl w (List.mem_cons_self ..)
  refine⟨a,c,rfl,e,lc,fun pt H' s' r'=> ?_⟩;rw[ZlG c,e2] at r'
  refine ZkE (Yd.same s' t) (fun w' hw=>hl w' (List.mem_cons_of_mem _ hw)) (ZgZ (Zfr s' rp) (.cons r' .nil)) fun kx H2 s2 r2=>q kx H2 (s'.trans s2) ?_;rw[List.append_assoc] at r2
  exact r2
theorem ZkF{H:Hp}{as:List Addr}:∀zs:List (V×Ky),(∀z∈zs,∃a w,z=(V.ref a,M4.Zc3 w)/\a∈as/\∃c,H a=some (.dK (kk c))/\M4.Nd c/\M4.Ys c=w)->∃bs:List Addr,zs.map (·.1)=bs.map V.ref/\Yd H bs (zs.map (·.2.2))/\∀b∈bs,b∈as
 |[],_=>⟨[],rfl,.nil,fun b hb=>nomatch hb⟩
 |z::zs,h=>by
  obtain⟨a,w,rfl,m,c,e⟩:=h z (List.mem_cons_self ..);obtain⟨bs,e1,e2,e3⟩:=ZkF zs fun y hy=>h y (List.mem_cons_of_mem _ hy);refine⟨a::bs,by rw[List.map_cons,List.map_cons,e1],.cons ⟨c,e⟩ e2,fun b hb=> ?_⟩;obtain rfl|hb:=List.mem_cons.mp hb
  ·exact m
  ·exact e3 b hb
theorem ZkG{H:Hp}:∀{as:List Addr} {ws:List Tb},Yd H as ws->∀z∈(as.map V.ref).zip (ws.map M4.Zc3),∃a w,z=(V.ref a,M4.Zc3 w)/\a∈as/\∃c,H a=some (.dK (kk c))/\M4.Nd c/\M4.Ys c=w
 |_,_,.nil,z,hz=>by simp at hz
 |_,_,.cons (a:=a) (b:=w) r t,z,hz=>by
  rw[List.map_cons,List.map_cons,List.zip_cons_cons] at hz
  obtain rfl|hz:=List.mem_cons.mp hz
  ·exact⟨a,w,rfl,List.mem_cons_self ..,r⟩
  ·obtain⟨a',w',e,m,r'⟩:=ZkG t z hz;exact⟨a',w',e,List.mem_cons_of_mem _ m,r'⟩
theorem ZkH{H:Hp}{as:List Addr}{ws:List Tb}(h:Yd H as ws){zs:List (V×Ky)}(pz:zs.Perm ((as.map V.ref).zip (ws.map M4.Zc3)))(az:zs.Pairwise fun a b=>ZcB b.2 a.2=false):
  ∃bs:List Addr,zs.map (·.1)=bs.map V.ref/\Yd H bs (M4.Yl M4.YL ws)/\∀b∈bs,b∈as:=by
 have each:=fun z (hz:z∈zs)=>ZkG h z (pz.mem_iff.mp hz);obtain⟨bs,e1,e2,e3⟩:=ZkF zs each;refine⟨bs,e1, ?_,e3⟩;have e:zs.map (·.2.2)=M4.Yl M4.YL ws:=by
  refine M4.ZfS M4.Zbl ?_ ?_
  ·have:=pz.map (·.2.2);have e4:((as.map V.ref).zip (ws.map M4.Zc3)).map (·.2.2)=ws:=by
    have e5:((as.map V.ref).zip (ws.map M4.Zc3)).map (·.2.2)=(((as.map V.ref).zip (ws.map M4.Zc3)).map (·.2)).map (·.2):=by rw[List.map_map];rfl
    rw[e5,List.map_snd_zip (by rw[List.length_map,List.length_map,h.len];exact Nat.le_refl _),List.map_map]
    exact List.map_id' ws
   rw[e4] at this
   exact this
  ·unfold M4.Asc;rw[List.pairwise_map];refine az.imp_of_mem fun{x y} hx hy z=> ?_;obtain⟨a,w,rfl,_⟩:=each x hx;obtain⟨a',w',rfl,_⟩:=each y hy;exact z
 rw[e] at e2
 exact e2
theorem Zje(cs:List Tb)(i:Nat):((cs.take i).foldl M4.keep []).length<=(M4.Zab cs).length:=by
 obtain⟨r,e,_⟩:=M4.Za5 (cs.drop i) ((cs.take i).foldl M4.keep []);have z:M4.Zab cs=(cs.take i).foldl M4.keep []++r:=by
  rw[<-e,<-List.foldl_append,List.take_append_drop]
  rfl
 rw[z,List.length_append];exact Nat.le_add_right _ _
theorem Zh0{β:Type}(l:List β)(f:β->Bool):(l.map f).any id=l.any f:=by rw[List.any_map];rfl
theorem Zce:ZV ["clauses","kept","clause"] ["clauses"] (Zz Zdg):=⟨rfl,rfl,rfl,by decide+kernel,rfl,by decide+kernel,by decide+kernel⟩
theorem ZhP{f:Addr}{fd:FuncData}(F:Fun K "thinned" "thinned" Zdg f fd)(T:Txt K mg t_MOST_CLAUSES Zm Zg Zh Zb Zt ZM Zv ZC Zc ZD Zw Zu Zx Zy ZF ZP)(o_TooWide:Zmu "TooWide" Zc mg base)(Zcf:Cal P w K mg base CX0 1 "is_below" ["one","other"] Zbr)(Jj:Cal P w K mg base CX0 1 "place_of" ["clause"] (Ju K)):YD P w K mg base (CXr P w) 4 f fd ["clauses"] (Zc9 Zc):=by
 refine okX F Zce (fun vs H Q E h=> ?_) (fun cdv A outer s H vs Q E hr h=> ?_)
 ·obtain⟨p,as,ws,rfl,_⟩:=h
  rfl
 ·obtain⟨p,as,ws,rfl,hp,ca,lw,sw,k,kw⟩:=h;have l5:=Jr;refine⟨_,(Zj (ZL (i:=1) Zce.nd rfl (Or.inl rfl) (Xf Ze)) (Zj (JX PassesOwn.leaving rfl (Jl (ZhH Jj (hr.mono (by omega)) (by rfl) T.z_sorted (by rfl) (Za (pv 0) Ze))) (YB (i:=2) Zce.nd rfl (Or.inr rfl)) (Zj (YM (Ze8 (Zb6 (ZG (Zeh rfl) (by rfl) T.z_any ZjL (Za (Zcr ["low"] [("clause",2)] rfl (Jl (pv 1)) (by rfl) (by exact⟨rfl,trivial⟩) (by rfl) (by exact⟨⟨rfl,rfl,rfl⟩,trivial⟩) (fun _ _ _ _=>(YB (i:=0) (show(nmY ["low"] [("clause",2)]).Nodup by decide+kernel) rfl (Or.inl rfl))) (fun _ _ _ _=>Zcq) (fun _ _ _ _=>(Yc Zcf (hr.mono (by omega)) rfl Yh (Za (pv 0) (Za (pv 1) Ze))))) Ze)))) (Zr (JN (ZbT PySem.F.plainAttrs_list PySem.F.slot_list_append PySem.F.type_list_append Xq (pv 1) (Za (pv 2) Ze)))) Yi) (Zr (YM (Ym ZeZ (ZG XM (by rfl) T.z_len Zai (Za (pv 1) Ze)) (Xd (v:=.int 40) rfl T.g_MOST_CLAUSES ⟨_,rfl⟩) (Yj _)) (Zr (ZjZ Zhw o_TooWide rfl rfl (Za (Zlb (ZfE ZjF (ZfE (ZmM (Xd (v:=.int 40) rfl T.g_MOST_CLAUSES ⟨_,rfl⟩)) (ZfE ZjF Zmi)))) Ze))) Yi)))) (Zr (ZQ (pv 1))))), ?_⟩
  refine⟨Nat.zero_le _,fun S hS=> ?_⟩;have s0:ZK H (upd H S (.lst [])):=Zq hS;refine⟨_,rfl,p,as.map V.ref,rfl,SqL.of (s0 _ _ hp),by rw[List.length_map,ca.len];omega,ZkE (ca.same s0) sw .nil fun kx H2 s2 rp=>⟨ws.map M4.Zc3,rp,fun zs pz az D hD=> ?_⟩⟩
  obtain⟨bs,e1,cb,mb⟩:=ZkH (ca.same (s0.trans s2)) pz az;have s3:=(s0.trans s2).trans (Zq (o:=.lst (zs.map (·.1))) hD);have dS:upd H2 D (.lst (zs.map (·.1))) S=some (.lst []):=Zq hD _ _ (s2 _ _ Zd);have dD:upd H2 D (.lst (zs.map (·.1))) D=some (.lst (bs.map V.ref)):=by rw[Zd,e1]
  have cb:=cb.same (Zq (o:=.lst (zs.map (·.1))) hD);have lb:bs.length=ws.length:=by rw[cb.len,ZbN]
  have nSD:S≠D:=Zk (s2 _ _ Zd) hD;generalize upd H2 D (.lst (zs.map (·.1)))=H3 at s3 dS dD cb
  refine⟨D,rfl,⟨_,SqL.of dD⟩,Zay (xs:=bs.map V.ref) (fun i σ H'=>∃(ds:List Addr) (v2:Option V),σ=[some (.ref p),some (.ref S),v2]/\H' S=some (.lst (ds.map V.ref))/\Yd H' ds (((M4.Yl M4.YL ws).take i).foldl M4.keep [])/\(∀d∈ds,d∈as)/\(((M4.Yl M4.YL ws).take i).foldl M4.keep []).length<=40/\∀b u,b≠S->H3 b=some u->H' b=some u) ?_ ?_ ?_ ?_⟩
  ·exact⟨[],none,rfl,dS,by rw[List.take_zero];exact .nil,(fun d hd=>nomatch hd),Nat.zero_le _,fun b u _ e=>e⟩
  ·rintro i σ H1 _ ⟨ds,v2,rfl,d1,c1,n1,lk,k1⟩;exact SqL.of (k1 _ _ (Ne.symm nSD) dD)
  ·rintro i x σ H1 hx ⟨ds,v2,rfl,d1,c1,n1,lk,k1⟩;have cb1:Yd H1 bs (M4.Yl M4.YL ws):=Yd.but (fun b u h1=>k1 b _ (fun z=>by rw[z,dS] at h1;cases h1) h1) cb
   obtain⟨a,w,c,rfl,e1,e2,e3,e4,e5⟩:=Yd.get cb1 i x hx;have hi:i<(M4.Yl M4.YL ws).length:=(List.getElem?_eq_some_iff.mp e2).1;rw[ZbN] at hi
   have enx:((M4.Yl M4.YL ws).take (i+1)).foldl M4.keep []=M4.keep (((M4.Yl M4.YL ws).take i).foldl M4.keep []) w:=by
    rw[List.take_add_one,e2,List.foldl_append]
    rfl
   have lk2:=Zje (M4.Yl M4.YL ws) (i+1);rw[enx] at lk2
   have wl:∀u∈((M4.Yl M4.YL ws).take i).foldl M4.keep [],u.length<64:=fun u hu=>by
    obtain⟨r,e,s⟩:=M4.Za5 ((M4.Yl M4.YL ws).take i) [];rw[e,List.nil_append] at hu
    exact sw u (Xj.mp (List.mem_of_mem_take (s.subset hu)))
   rw[enx];generalize ((M4.Yl M4.YL ws).take i).foldl M4.keep []=kf at c1 lk lk2 wl
   refine⟨_,rfl,S,rfl,⟨_,SqL.of d1⟩,ZdR ds.length (fun j=>[((kf[j]?).map fun low=>V.bl (ZZ low w)).getD .non]) (by rw[c1.len];omega) (fun j=>Nat.le_refl 1) (fun j H4 s4 lt=>⟨_,_,SqL.of (s4 _ _ d1),List.getElem?_eq_getElem (by rw[List.length_map];exact lt)⟩) (fun H4 s4=>⟨_,SqL.of (s4 _ _ d1),by rw[List.length_map];exact Nat.le_refl _⟩) (fun j y H4 H5 s4 lt yl RT RF rt rf=> ?_) fun D4 H4 hD4 s4 d4=> ?_⟩
   ·obtain⟨rfl,yl⟩:=yl;have hy:=yl _ (SqL.of (s4 _ _ d1));obtain⟨a',w',c',rfl,f1,f2,f3,f4,f5⟩:=Yd.get (c1.same s4) j y hy;have lc':c'.length<=1000:=by
     have:=wl w' (List.mem_of_getElem? f2);rw[<-f5,M4.YT] at this
     omega
    refine⟨⟨rfl,trivial⟩, ?_⟩;unfold ZdE;refine JP ⟨_,rfl,_,rfl,a',a,c',c,rfl,f3,.inl (s4 _ _ e3),lc',fun H6 s6=>rt _ H6 ?_ s6⟩;rw[f2,<-e5,<-f5];show[V.bl (ZZ (M4.Ys c') (M4.Ys c))]=_;rw[M4.Zem e4]
   ·have e6:(List.range ds.length).flatMap (fun j=>[((kf[j]?).map fun low=>V.bl (ZZ low w)).getD .non])=(kf.map fun low=>ZZ low w).map V.bl:=by
     rw[Zad,c1.len,Zf8 kf (fun low=>V.bl (ZZ low w)) .non,List.map_map]
     rfl
    rw[e6] at d4
    refine⟨D4,_,rfl,SqL.of d4,_,rfl, ?_⟩;rw[Zh0];have dS4:=s4 _ _ d1;cases ea:kf.any fun low=>ZZ low w with
    |true=>
     have ek:M4.keep kf w=kf:=if_pos ea;rw[ek];refine ZaC ?_;refine⟨_,rfl,_,_,rfl,.inl ⟨_,SqL.of dS4,rfl⟩,_,_,rfl,rfl,_,rfl,ZaK (fun e=> ?_) (fun e=>⟨ds,_,rfl,dS4,c1.same s4,n1,lk,fun b u n z=>s4 _ _ (k1 b u n z)⟩)⟩;have e:=of_decide_eq_true e;rw[List.length_map,c1.len] at e
     exact absurd e (by omega)
    |false=>
     have ek:M4.keep kf w=kf++[w]:=if_neg (by rw[ea];exact Bool.false_ne_true)
     rw[ek,List.length_append] at lk2
     rw[ek];refine JP ?_;have l6:(ds.map V.ref).length<sizeLine:=by rw[List.length_map,c1.len];omega
     have dS5:upd H4 S (.lst (ds.map V.ref++[V.ref a])) S=some (.lst ((ds++[a]).map V.ref)):=by rw[Zd,List.map_append];rfl
     refine⟨_,rfl,.inl ⟨rfl,_,SqL.of dS4⟩,_,rfl,S,_,_,rfl,rfl,dS4,l6, ?_⟩;have c5:Yd (upd H4 S (.lst (ds.map V.ref++[V.ref a]))) (ds++[a]) (kf++[w]):=Yd.but (fun b u h1=>by rw[Zf (fun z=>by rw[z,dS4] at h1;cases h1)];exact h1) (Yd.app (c1.same s4) (.cons ⟨c,s4 _ _ e3,e4,e5⟩ .nil))
     have l7:((ds++[a]).map V.ref).length=kf.length+1:=by rw[List.length_map,List.length_append,c1.len];rfl
     refine⟨_,rfl,_,_,rfl,.inl ⟨_,SqL.of dS5,rfl⟩,_,_,rfl,rfl,_,rfl,ZaK (fun e=> ?_) (fun e=>⟨ds++[a],_,rfl,dS5,c5,fun d hd=> ?_, ?_,fun b u n z=>by rw[Zf n];exact s4 _ _ (k1 b u n z)⟩)⟩
     ·have e:=of_decide_eq_true e;rw[l7] at e
      have big:40<(M4.Zab (M4.Yl M4.YL ws)).length:=by
       have lk2:kf.length+1<=(M4.Zab (M4.Yl M4.YL ws)).length:=lk2;omega
      have sm:ZK H (upd H4 S (.lst (ds.map V.ref++[V.ref a]))):=fun b u e=>by
       rw[Zf (Zk e hS)];exact s4 _ _ (k1 b u (Zk e hS) (s3 b u e))
      have rx:=kw big _ sm;exact⟨Nat.le_trans (show(Str.empty++Str.ofString "a part of the term has more than ").length<=100 by decide+kernel) (by omega),40,rfl,by decide+kernel,Nat.le_trans (show(Str.empty++Str.ofString "a part of the term has more than "++Str.ofString (toString (40:Int))).length<=100 by decide+kernel) (by omega),Nat.le_trans (show(Str.empty++Str.ofString "a part of the term has more than "++Str.ofString (toString (40:Int))++Str.ofString " least clauses").length<=100 by decide+kernel) (by omega),Nat.le_trans (show(Str.empty++Str.ofString "a part of the term has more than "++Str.ofString (toString (40:Int))++Str.ofString " least clauses").length<=100 by decide+kernel) (by omega),show 1<=sizeLine from sl,rx⟩
     ·rcases List.mem_append.mp hd with z|z
      ·exact n1 d z
      ·have e7:d=a:=by simpa using z
       subst e7;exact mb d (List.mem_of_getElem? e1)
     ·have e:¬(40:Int)<((((ds++[a]).map V.ref).length:Nat):Int):=fun z=>e (decide_eq_true z);rw[l7] at e
      show(kf++[w]).length<=40;rw[List.length_append];show kf.length+1<=40;omega
  ·rintro σ H1 ⟨ds,v2,rfl,d1,c1,n1,lk,k1⟩;rw[List.length_map,cb.len,List.take_of_length_le (Nat.le_refl _)] at c1 lk
   exact⟨_,rfl,k lk S ds H1 hS (fun b u e=>k1 b u (Zk e hS) (s3 b u e)) d1 c1 n1⟩
theorem none_of{H H':Hp}{r:Addr}(s:ZK H H')(h:H' r=none):H r=none:=by
 cases z:H r with
 |none=>rfl
 |some u=>rw[s r u z] at h;cases h
theorem ZcS{x y:Tr}:Xo (.later x y)=(Xo x&&Xo y&&decide ((ZX (.later x y)).length<=40)):=rfl
theorem Zbu{x y:Tr}:Xo (.earlier x y)=(Xo x&&Xo y&&decide ((ZX (.earlier x y)).length<=40)):=rfl
theorem ZkI:ZV ["term"] ["term"] (Zz ZfX):=⟨rfl,rfl,rfl,by decide+kernel,rfl,by decide+kernel,by decide+kernel⟩
theorem ZkJ{f:Addr}{fd:FuncData}(F:Fun K "least" "least" ZfX f fd)(T:Txt K mg t_MOST_CLAUSES Zm Zg Zh Zb Zt ZM Zv ZC Zc ZD Zw Zu Zx Zy ZF ZP)(n:Nat)(ZaX:Cal P w K mg base CX0 2 "all_joined" ["ones","others"] Zap)(XD:Cal P w K mg base (CXr P w) (4+n+1) "least" ["term"] (ZaG Zm Zg Zh Zb Zc n))(ZbP:Cal P w K mg base (CXr P w) 4 "thinned" ["clauses"] (Zc9 Zc)):YD P w K mg base (CXr P w) (4+n+1+1) f fd ["term"] (ZaG Zm Zg Zh Zb Zc (n+1)):=by
 refine okX F ZkI (fun vs H Q E h=> ?_) (fun cdv A outer s H vs Q E hr h=> ?_)
 ·obtain⟨a,t,rfl,_⟩:=h
  rfl
 ·obtain⟨a,t,rfl,ht,hd,hc,q,qx⟩:=h;have l5:=Jr;refine⟨_,(Zj (YM (Zb6 (ZG Zbb (by rfl) T.z_isinstance ZS (Za (pv 0) (Za (Xd (v:=.ref Zg) rfl T.mg_After rfl) Ze)))) (Zr (ZQ (Xf (Za (Zi6 (Zgn (Zd6 (pv 0) rfl) (Zd6 (pv 0) rfl) Zi5) rfl rfl (by simp) (by decide)) Ze)))) Yi) (Zj (YM (Zb6 (ZG Zbb (by rfl) T.z_isinstance ZS (Za (pv 0) (Za (Xd (v:=.ref Zb) rfl T.mg_Earlier rfl) Ze)))) (Zr (ZQ (Yc ZbP (hr.mono (by omega)) rfl Zae (Za (ZJ Zcp (Yc XD (hr.mono (by omega)) rfl Zae (Za (Zd6 (pv 0) rfl) Ze)) (Yc XD (hr.mono (by omega)) rfl Zae (Za (Zd6 (pv 0) rfl) Ze))) Ze)))) Yi) (Zj (YM (Zb6 (ZG Zbb (by rfl) T.z_isinstance ZS (Za (pv 0) (Za (Xd (v:=.ref Zh) rfl T.mg_Later rfl) Ze)))) (Zr (ZQ (Yc ZbP (hr.mono (by omega)) rfl Zae (Za (Yc ZaX (hr.mono (by omega)) rfl Yh (Za (Yc XD (hr.mono (by omega)) rfl Zae (Za (Zd6 (pv 0) rfl) Ze)) (Za (Yc XD (hr.mono (by omega)) rfl Zae (Za (Zd6 (pv 0) rfl) Ze)) Ze))) Ze)))) Yi) (Zr (ZQ (Xf Ze)))))), ?_⟩
  cases t with
  |never=>
   have q:=q rfl;obtain⟨dx,h0⟩:=ht;refine⟨_,rfl,_,_,_,_,_,rfl,rfl,T.ty_Never.of h0,T.k_Never_After,_,rfl,ZaC ?_⟩;refine⟨_,rfl,_,_,_,_,_,rfl,rfl,T.ty_Never.of h0,T.k_Never_Earlier,_,rfl,ZaC ?_⟩;refine⟨_,rfl,_,_,_,_,_,rfl,rfl,T.ty_Never.of h0,T.k_Never_Later,_,rfl,ZaC ?_⟩;exact⟨Nat.zero_le _,fun r hr=>q r [] _ hr (Zq hr) Zd .nil fun d hd=>nomatch hd⟩
  |after k d=>
   have q:=q rfl;obtain⟨dx,h0⟩:=ht;refine⟨_,rfl,_,_,_,_,_,rfl,rfl,T.ty_After.of h0,T.k_After_After,_,rfl,JP fun p hp=> ?_⟩;have h1:=Zq (o:=.dK []) hp _ _ h0;have e0:upd H p (.dK []) p=some (.dK []):=Zd;refine⟨_,rfl,a,_,dx,_,_,rfl,h1,T.cl_After,T.n_After_kind,ZlA k d,_,rfl,a,_,dx,_,_,rfl,h1,T.cl_After,T.n_After_days,ZlB k d,e0,[(Sum.inr k,.int d)],rfl,(show 1<=15 by decide),show 1<=sizeLine from sl,fun r hr=> ?_⟩
   have d2:upd (upd (upd H p (.dK [])) p (.dK (Zah [] [(Sum.inr k,V.int d)]))) r (.lst [V.ref p]) p=some (.dK (kk [(k,d)])):=by rw[Zf (Zk Zd hr)];exact Zd
   have s2:ZK H (upd (upd (upd H p (.dK [])) p (.dK (Zah [] [(Sum.inr k,V.int d)]))) r (.lst [V.ref p])):=fun b u e=>by
    have n1:=Zk e hp;have e1:upd (upd H p (.dK [])) p (.dK (Zah [] [(Sum.inr k,V.int d)])) b=some u:=by rw[Zf n1,Zf n1];exact e
    rw[Zf (Zk e1 hr)];exact e1
   have hr0:H r=none:=by
    cases z:H r with
    |none=>rfl
    |some u=>
     have n1:=Zk z hp;rw[Zf n1,Zf n1,z] at hr
     cases hr
   exact q r [p] _ hr0 s2 Zd (.cons ⟨[(k,d)],d2,List.nodup_cons.mpr ⟨(fun z=>nomatch z),List.nodup_nil⟩,rfl⟩ .nil) fun d' hd'=>by
    have e7:d'=p:=by simpa using hd'
    subst e7;exact hp
  |later x y=>
   obtain⟨dx,p1,p2,h0,t1,t2⟩:=ht;refine⟨_,rfl,_,_,_,_,_,rfl,rfl,T.ty_Later.of h0,T.k_Later_After,_,rfl,ZaC ?_⟩;refine⟨_,rfl,_,_,_,_,_,rfl,rfl,T.ty_Later.of h0,T.k_Later_Earlier,_,rfl,ZaC ?_⟩;refine⟨_,rfl,_,_,_,_,_,rfl,rfl,T.ty_Later.of h0,T.k_Later_Later,_,rfl,JP ?_⟩;have hdeep:max x.deep y.deep+1<n+1:=hd;obtain⟨o1,o2,pr,z1,z2,z3,z4⟩:=ZdI hc;rw[ZcS] at q qx
   refine⟨_,rfl,a,_,dx,_,_,rfl,h0,T.cl_Later,T.n_Later_one,Zkr p1 p2,p1,x,rfl,t1,by omega,o1,fun w1 r1 ds1 H1 hr1 s1 d1 c1 n1=> ?_,fun w1 H1 s1=>qx (by rw[w1];rfl) H1 s1⟩
   refine⟨_,rfl,a,_,dx,_,_,rfl,s1 _ _ h0,T.cl_Later,T.n_Later_other,ZgQ p1 p2,p2,y,rfl,t2.same s1,by omega,o2,fun w2 r2 ds2 H2 hr2 s2 d2 c2 n2=> ?_,fun w2 H2 s2=>qx (by rw[w2,Bool.and_false];rfl) H2 (s1.trans s2)⟩
   rw[w1,w2] at q qx
   refine⟨r1,r2,ds1,ds2,ZX x,ZX y,rfl,s2 _ _ d1,d2,c1.same s2,c2,by rw[c1.len,c2.len];omega,by rw[c2.len];omega,fun w hw=> ?_,fun w hw=> ?_,fun r3 ds3 H3 hr3 s3 d3 c3 n3=> ?_⟩
   ·have:=z3 w hw;omega
   ·have:=z4 w hw;omega
   refine⟨r3,ds3,_,rfl,d3,c3,by rw[ZcQ];omega,fun w hw=> ?_,fun tl r ds H4 hr s4 d4 c4 n4=> ?_,fun tl H4 s4=>qx ?_ H4 ((s1.trans s2).trans (s3.trans s4))⟩
   ·obtain⟨u,hu,v,hv,rfl⟩:=Zbp hw;have k1:=z3 u hu;have k2:=z4 v hv;have k3:=Zdl (YX x u hu).1.nd (YX y v hv).1.nd;rw[M4.YT];omega
   ·have s13:=(s1.trans s2).trans s3;exact q (decide_eq_true tl) r ds H4 (none_of s13 hr) (s13.trans s4) d4 c4 fun d hd=>none_of (s1.trans s2) (n3 d (n4 d hd))
   ·exact decide_eq_false (Nat.not_le.mpr tl)
  |earlier x y=>
   obtain⟨dx,p1,p2,h0,t1,t2⟩:=ht;refine⟨_,rfl,_,_,_,_,_,rfl,rfl,T.ty_Earlier.of h0,T.k_Earlier_After,_,rfl,ZaC ?_⟩;refine⟨_,rfl,_,_,_,_,_,rfl,rfl,T.ty_Earlier.of h0,T.k_Earlier_Earlier,_,rfl,JP ?_⟩;have hdeep:max x.deep y.deep+1<n+1:=hd;obtain⟨o1,o2,pr,z3,z4⟩:=ZbW hc;rw[Zbu] at q qx
   refine⟨_,rfl,a,_,dx,_,_,rfl,h0,T.cl_Earlier,T.n_Earlier_one,Zkr p1 p2,p1,x,rfl,t1,by omega,o1,fun w1 r1 ds1 H1 hr1 s1 d1 c1 n1=> ?_,fun w1 H1 s1=>qx (by rw[w1];rfl) H1 s1⟩
   refine⟨_,rfl,a,_,dx,_,_,rfl,s1 _ _ h0,T.cl_Earlier,T.n_Earlier_other,ZgQ p1 p2,p2,y,rfl,t2.same s1,by omega,o2,fun w2 r2 ds2 H2 hr2 s2 d2 c2 n2=> ?_,fun w2 H2 s2=>qx (by rw[w2,Bool.and_false];rfl) H2 (s1.trans s2)⟩
   rw[w1,w2] at q qx
   have l1:=c1.len;have l2:=c2.len;refine⟨r1,r2,ds1.map V.ref,ds2.map V.ref,rfl,rfl,SqL.of (s2 _ _ d1),SqL.of d2,by rw[List.length_map,List.length_map];omega,fun r3 hr3=> ?_⟩
   have s3:=Zq (o:=.lst (ds1.map V.ref++ds2.map V.ref)) hr3;refine⟨r3,ds1++ds2,ZX x++ZX y,rfl,by rw[Zd,List.map_append],(Yd.app (c1.same s2) c2).same s3,by rw[List.length_append];omega,fun w hw=> ?_,fun tl r ds H4 hr s4 d4 c4 n4=> ?_,fun tl H4 s4=>qx ?_ H4 ((s1.trans s2).trans (s3.trans s4))⟩
   ·rcases List.mem_append.mp hw with z|z
    ·have:=z3 w z;omega
    ·have:=z4 w z;omega
   ·have s13:=(s1.trans s2).trans s3;refine q (decide_eq_true tl) r ds H4 (none_of s13 hr) (s13.trans s4) d4 c4 fun d hd=> ?_;rcases List.mem_append.mp (n4 d hd) with z|z
    ·exact n1 d z
    ·exact none_of s1 (n2 d z)
   ·exact decide_eq_false (Nat.not_le.mpr tl)
theorem ZhQ:ZV ["ones","others"] ["ones","others"] (Zz Zdi):=⟨rfl,rfl,rfl,by decide+kernel,rfl,by decide+kernel,by decide+kernel⟩
theorem ZhR{f:Addr}{fd:FuncData}(F:Fun K "only_in" "only_in" Zdi f fd)(T:Txt K mg t_MOST_CLAUSES Zm Zg Zh Zb Zt ZM Zv ZC Zc ZD Zw Zu Zx Zy ZF ZP):YD P w K mg base CX0 1 f fd ["ones","others"] Zca:=by
 refine F.ok ZhQ (fun vs H Q E h=> ?_) (fun cdv A outer s H vs Q E hr h=> ?_)
 ·exact h.elim
 ·exact h.elim
theorem ZhS:ZV ["clause","latest","life","kind","length"] ["clause"] (Zz Zdj):=⟨rfl,rfl,rfl,by decide+kernel,rfl,by decide+kernel,by decide+kernel⟩
theorem ZhT{f:Addr}{fd:FuncData}(F:Fun K "life_of" "life_of" Zdj f fd)(T:Txt K mg t_MOST_CLAUSES Zm Zg Zh Zb Zt ZM Zv ZC Zc ZD Zw Zu Zx Zy ZF ZP):YD P w K mg base CX0 1 f fd ["clause"] Zcb:=by
 refine F.ok ZhS (fun vs H Q E h=> ?_) (fun cdv A outer s H vs Q E hr h=> ?_)
 ·exact h.elim
 ·exact h.elim
theorem ZaY:ZV ["one","other","ones","others","clauses"] ["one","other"] (Zz Zdh):=⟨rfl,rfl,rfl,by decide+kernel,rfl,by decide+kernel,by decide+kernel⟩
theorem ZhU{f:Addr}{fd:FuncData}(F:Fun K "parting" "parting" Zdh f fd)(T:Txt K mg t_MOST_CLAUSES Zm Zg Zh Zb Zt ZM Zv ZC Zc ZD Zw Zu Zx Zy ZF ZP)(Jj:Cal P w K mg base CX0 1 "place_of" ["clause"] (Ju K))(XD:Cal P w K mg base (CXr P w) 23 "least" ["term"] (ZaG Zm Zg Zh Zb Zc 18))(Zdt:Cal P w K mg base CX0 1 "life_of" ["clause"] Zcb)(ZbQ:Cal P w K mg base CX0 1 "only_in" ["ones","others"] Zca):YD P w K mg base (CXr P w) 24 f fd ["one","other"] (Zcc Zm Zg Zh Zb Zc):=by
 refine okX F ZaY (fun vs H Q E h=> ?_) (fun cdv A outer s H vs Q E hr h=> ?_)
 ·obtain⟨a,b,t,u,rfl,_⟩:=h
  rfl
 ·obtain⟨a,b,t,u,rfl,ta,tb,dt,du,ot,ou,nw,qx⟩:=h;have hu3:=Zmp hr;refine⟨_,(Zj (ZL (i:=2) ZaY.nd rfl (Or.inl rfl) (Yc XD (hr.mono (by omega)) rfl Zae (Za (pv 0) Ze))) (Zj (ZL (i:=3) ZaY.nd rfl (Or.inl rfl) (Yc XD (hr.mono (by omega)) rfl Zae (Za (pv 1) Ze))) (Zj (ZL (i:=4) ZaY.nd rfl (Or.inl rfl) (ZJ Zcp (Yc ZbQ (hr.mono (by omega)) rfl Yh (Za (pv 2) (Za (pv 3) Ze))) (Yc ZbQ (hr.mono (by omega)) rfl Yh (Za (pv 3) (Za (pv 2) Ze))))) (Zj (YM (Ym XJ (ZG XM (by rfl) T.z_len Zai (Za (pv 4) Ze)) Zn (Yj _)) (Zr (ZQ Zd0)) Yi) (Zr (ZQ (Yc Zdt (hr.mono (by omega)) rfl Yh (Za (Zlu Jj (hr.mono (by omega)) (by rfl) T.z_min (by rfl) (Za (pv 4) Ze)) Ze)))))))), ?_⟩
  refine⟨_,rfl,a,t,rfl,ta,dt,ot,fun w1 r1 ds1 H1 hr1 s1 d1 c1 n1=> ?_,fun w1 H1 s1=>qx H1 s1⟩;refine⟨_,rfl,b,u,rfl,tb.same s1,du,ou,fun w2 r2 ds2 H2 hr2 s2 d2 c2 n2=> ?_,fun w2 H2 s2=>qx H2 (s1.trans s2)⟩;rw[w1,w2] at nw
  rcases nw with z|z<;>cases z
theorem Zo3{σ:L2.St}(h:σ.length=4):∃a b c d,σ=[a,b,c,d]:=by
 match σ,h with
 |[a,b,c,d],_=>exact⟨a,b,c,d,rfl⟩
theorem XX:ZV ["_law_one","_law_other","_law_kept","refusal"] ["_law_one","_law_other"] (Zz Zan):=⟨rfl,rfl,rfl,by decide+kernel,rfl,by decide+kernel,by decide+kernel⟩
theorem ZeD{f:Addr}{fd:FuncData}(F:Fun K "_law_refused" "_law_refused" Zan f fd)(T:Txt K mg t_MOST_CLAUSES Zm Zg Zh Zb Zt ZM Zv ZC Zc ZD Zw Zu Zx Zy ZF ZP)(Zdu:Cal P w K mg base (CXr P w) 24 "parting" ["one","other"] (Zcc Zm Zg Zh Zb Zc)):YD P w K mg base CX0 25 f fd ["_law_one","_law_other"] (Za7 Zm Zg Zh Zb Zc):=by
 refine F.ok XX (fun vs H Q E h=> ?_) (fun cdv A outer s H vs Q E hr h=> ?_)
 ·obtain⟨a,b,t,u,rfl,_⟩:=h
  rfl
 ·obtain⟨a,b,t,u,rfl,ta,tb,dt,du,ot,ou,nw,q⟩:=h;refine⟨_,(Zj (ZL (i:=2) XX.nd rfl (Or.inl rfl) Zd0) (Zj (Zkm (CX:=CX0) (i:=3) (by rfl) (fun o_k _ _=>(Zr (JN (Yc Zdu (hr.mono (by omega)) rfl (Zkk o_k) (Za (pv 0) (Za (pv 1) Ze)))))) XX.nd (by rfl) T.mg_TooWide (by rfl) (by rfl) (fun _=>(Zr (ZL (i:=2) XX.nd rfl (Or.inl rfl) (pv 3))))) (Zr (ZQ (Xz ZkT (pv 2) Zd0 (Yj _)))))), ?_⟩;refine⟨_,rfl,_,rfl,a,b,t,u,rfl,ta,tb,dt,du,ot,ou,nw,fun H1 s1 σ' e len he=>⟨_,rfl,T.xm_w, ?_⟩⟩
  obtain⟨x0,x1,x2,x3,rfl⟩:=Zo3 len;exact⟨_,rfl,_,rfl,rfl,q _ (s1.trans (Zq he))⟩
theorem Ziq{H:Hp}:∀{as:List Addr} {ws:List Tb},Yd H as ws->∃cs:List Tb,Paired (Rep K H) (cs.map fun c=>Dt.dct (kk c)) (as.map V.ref)/\cs.map M4.Ys=ws/\∀c∈cs,M4.Nd c
 |_,_,.nil=>⟨[],.nil,rfl,fun c hc=>nomatch hc⟩
 |_,_,.cons ⟨c,e,n,q⟩ t=>by
  obtain⟨cs,r,e1,n1⟩:=Ziq t;refine⟨c::cs,.cons (.dct (.inl e) (ZdU c)) r,by rw[List.map_cons,e1,q],fun d hd=> ?_⟩;obtain rfl|hd:=List.mem_cons.mp hd
  ·exact n
  ·exact n1 d hd
theorem ZkK{a b:Tb}(ha:M4.Nd a)(hb:M4.Nd b)(h:M4.Ys a=M4.Ys b):dEq (kk a) (kk b)=true:=by
 unfold dEq;have le:(kk a).length=(kk b).length:=by rw[Yy,Yy,<-M4.YT a,h,M4.YT]
 rw[le,beq_self_eq_true,Bool.true_and,List.all_eq_true];intro kv hm;obtain⟨p,hp,rfl⟩:=ZkB hm;have e:ZaJ (kk b) (Sum.inr p.1)=some (V.int p.2):=by rw[ZfF,<-M4.ZfT ha hb h,ZaL ha hp];rfl
 show(match ZaJ (kk b) (Sum.inr p.1) with|some u=>eqV (V.int p.2) u|none=>false)=true;rw[e];exact Zcv rfl
theorem Zir{a b:Tb}(ha:M4.Nd a)(hb:M4.Nd b):dEq (kk a) (kk b)=decide (M4.Ys a=M4.Ys b):=by
 by_cases h:M4.Ys a=M4.Ys b
 ·rw[ZkK ha hb h,decide_eq_true h]
 ·rw[decide_eq_false h];cases e:dEq (kk a) (kk b) with
  |false=>rfl
  |true=>
   exfalso
   unfold dEq at e
   rw[Bool.and_eq_true,List.all_eq_true] at e
   obtain⟨e1,e2⟩:=e;have le:a.length=b.length:=by have:=eq_of_beq e1;rw[Yy,Yy] at this;exact this
   have sub:∀p∈a,p∈b:=fun p hp=>by
    have m:(Sum.inr p.1,V.int p.2)∈kk a:=List.mem_map.mpr ⟨p,hp,rfl⟩;have z:(match ZaJ (kk b) (Sum.inr p.1) with|some u=>eqV (V.int p.2) u|none=>false)=true:=e2 _ m;rw[ZfF] at z
    cases el:lk b p.1 with
    |none=>rw[el] at z;cases z
    |some u=>
     rw[el] at z
     have z:(p.2==u)=true:=z;have z:=eq_of_beq z;have:=(M4.XR hb).mp el;rw[<-z] at this
     exact this
   have pm:a.Perm b:=M4.Zbk (M4.ZbK ha) (M4.ZbK hb) fun x=>⟨sub x,(M4.Ze2 (M4.ZbK ha) sub).2 (M4.ZbK hb) le x⟩
   exact h (M4.ZaF Za3 pm)
theorem Zh1{c:Tb}(hc:M4.Nd c):∀cs:List Tb,(∀d∈cs,M4.Nd d)->((cs.map fun d=>Dt.dct (kk d)).any fun e=>YQ 1 e (.dct (kk c)))=((cs.map M4.Ys).any fun u=>decide (u=M4.Ys c))
 |[],_=>rfl
 |d::cs,h=>by
  rw[List.map_cons,List.map_cons,List.any_cons,List.any_cons,Zh1 hc cs fun e he=>h e (List.mem_cons_of_mem _ he)];show(dEq (kk d) (kk c)||_)=_;rw[Zir (h d (List.mem_cons_self ..)) hc]
theorem ZeE{c l:Tb}{p:Str×Int}(hp:p∈c)(h:(match lk l p.1 with|some u=>decide (p.2<=u)|none=>false)=false):ZZ c l=false:=by
 unfold ZZ;rw[List.all_eq_false];exact⟨p,hp,fun z=>Bool.false_ne_true (h.symm.trans z)⟩
theorem ZcT:ZV ["_law_one","_law_other","_law_kind"] ["_law_one","_law_other"] (Zz Zbm):=⟨rfl,rfl,rfl,by decide+kernel,rfl,by decide+kernel,by decide+kernel⟩
theorem Zg5{f:Addr}{fd:FuncData}(F:Fun K "_law_below" "_law_below" Zbm f fd)(T:Txt K mg t_MOST_CLAUSES Zm Zg Zh Zb Zt ZM Zv ZC Zc ZD Zw Zu Zx Zy ZF ZP):YD P w K mg base CX0 1 f fd ["_law_one","_law_other"] ZaU:=by
 refine F.ok ZcT (fun vs H Q E h=> ?_) (fun cdv A outer s H vs Q E hr h=> ?_)
 ·obtain⟨a,b,c,l,rfl,_⟩:=h
  rfl
 ·obtain⟨a,b,c,l,rfl,ha,hb,hl,nd,q⟩:=h;have hu:=Zi8 hr;refine⟨_,(Zj (Zid a (JX PassesOwn.never rfl (Zic (pv 0)) (YB (i:=2) ZcT.nd rfl (Or.inl rfl)) (Zr (YM (PW.pt (ZlH (Zm2 (ZiM hu (pv 2) (pv 1))) (Zjj (Ym ZeZ (ZdQ hu (pv 0) (pv 2) (fun _ _=>rfl)) (ZdQ hu (pv 1) (pv 2) (fun _ _=>rfl)) (Yj _))))) (Zr (ZQ Zgh)) Yi)))) (Zr (ZQ Zgh))), ?_⟩;refine⟨_,rfl,a,_,rfl,ha,fun o=> ?_⟩;refine Zho (J:=Itk a o (kk c)) (n:=c.length) (fun i σ H'=>∃v2,σ=[some (.ref a),some (.ref b),v2]/\Zcu a (kk c) H H'/\H' a=some (.frz o (.dK (kk c)))/\((c.take i).all fun p=>match lk l p.1 with|some u=>decide (p.2<=u)|none=>false)=true) ?_ ?_ ?_ ?_
  ·exact⟨none,rfl,⟨fun b' u n e=>by rw[Zf n];exact e,o,Zd⟩,Zd,rfl⟩
  ·rintro i σ H1 hi ⟨v3,rfl,f1,g1,_⟩;exact⟨g1,by rw[Yy];exact hi⟩
  ·rintro σ H1 ⟨v3,rfl,f1,g1,al⟩;rw[List.take_of_length_le (Nat.le_refl _)] at al
   obtain⟨t1,t2⟩:=f1.thaw ha (Zip ha);refine⟨⟨g1,by rw[Yy];exact Nat.le_refl _⟩,_,t1, ?_⟩
   have e:ZZ c l=true:=al;rw[e] at q
   exact q _ t2
  ·rintro i x σ H1 H2 hi ⟨v3,rfl,f1,g1,al⟩ ⟨e2,kv,e3,e4⟩;subst e2 e4;obtain⟨p,e5,e6⟩:=ZkC e3;subst e6;have pm:=List.mem_of_getElem? e5;have hg:=Zdo (f1.rd2 ha hb) p.1;have hs:=Zdo f1.rd p.1;rw[ZaL nd pm] at hs
   obtain⟨t1,t2⟩:=f1.thaw ha (Zip ha);refine⟨_,rfl,_,rfl,b,_,rfl,hg,_,rfl, ?_⟩;rw[Zez];cases ev:lk l p.1 with
   |none=>
    refine JP (JP ?_);rw[ZeE pm (by rw[ev])] at q
    exact⟨_,t1,q _ t2⟩
   |some u=>
    rw[ev] at hg
    refine ZaC ⟨_,rfl,_,rfl,a,_,rfl,hs,_,rfl,_,rfl,b,_,rfl,hg,_,_,rfl,rfl,_,rfl,ZaK (fun e=> ?_) (fun e=> ?_)⟩
    ·have e:u<p.2:=of_decide_eq_true e;rw[ZeE pm (by rw[ev];exact decide_eq_false (by omega))] at q
     exact⟨_,t1,q _ t2⟩
    ·have e:¬u<p.2:=fun z=>e (decide_eq_true z);refine⟨_,rfl,f1,g1, ?_⟩;rw[List.take_add_one,e5,List.all_append,al];show(true&&((match lk l p.1 with|some u=>decide (p.2<=u)|none=>false)&&true))=true;rw[ev];show(true&&(decide (p.2<=u)&&true))=true;rw[decide_eq_true (show p.2<=u by omega)]
     rfl
def Ja(kept:List Tb)(w:Tb):List Tb:=if(kept.any fun u=>decide (u=w))=true then kept else kept++[w]
theorem Zis{kept:List Tb}{w:Tb}:(kept.any fun u=>decide (u=w))=true↔w∈kept:=by
 rw[List.any_eq_true];exact⟨fun⟨u,hu,e⟩=>(of_decide_eq_true e)▸hu,fun h=>⟨w,h,decide_eq_true rfl⟩⟩
theorem Ze4:∀(ws kept:List Tb),kept.Nodup->(ws.foldl Ja kept).Nodup/\(∀x,x∈ws.foldl Ja kept↔x∈kept\/x∈ws)/\(ws.foldl Ja kept).length<=kept.length+ws.length
 |[],kept,h=>⟨h,fun x=>⟨.inl,fun z=>z.resolve_right (fun y=>nomatch y)⟩,Nat.le_refl _⟩
 |w::ws,kept,h=>by
  rw[List.foldl_cons];unfold Ja
  split
  ·rename_i e
   obtain⟨h1,h2,h3⟩:=Ze4 ws kept h;refine⟨h1,fun x=>(h2 x).trans ⟨fun z=>z.imp_right (List.mem_cons_of_mem _),fun z=> ?_⟩,by rw[List.length_cons];exact Nat.le_trans h3 (by omega)⟩
   rcases z with z|z
   ·exact .inl z
   ·rcases List.mem_cons.mp z with rfl|z
    ·exact .inl (Zis.mp e)
    ·exact .inr z
  ·rename_i e
   have hn:w∉kept:=fun z=>e (Zis.mpr z);have nd:(kept++[w]).Nodup:=List.nodup_append.mpr ⟨h,List.nodup_cons.mpr ⟨(fun z=>nomatch z),List.nodup_nil⟩,fun a ha b hb=>by
    have eb:b=w:=by simpa using hb
    subst eb;exact fun z=>hn (z▸ha)⟩
   obtain⟨h1,h2,h3⟩:=Ze4 ws (kept++[w]) nd;refine⟨h1,fun x=>(h2 x).trans ⟨fun z=> ?_,fun z=> ?_⟩, ?_⟩
   ·rcases z with z|z
    ·rcases List.mem_append.mp z with z|z
     ·exact .inl z
     ·have e2:x=w:=by simpa using z
      subst e2;exact .inr (List.mem_cons_self ..)
    ·exact .inr (List.mem_cons_of_mem _ z)
   ·rcases z with z|z
    ·exact .inl (List.mem_append_left _ z)
    ·rcases List.mem_cons.mp z with rfl|z
     ·exact .inl (List.mem_append_right _ (List.mem_singleton_self _))
     ·exact .inr z
   ·rw[List.length_append,List.length_singleton] at h3
    rw[List.length_cons];exact Nat.le_trans h3 (by omega)
theorem Zh2{a b c:Tb}(hb:M4.Nd b)(h1:ZZ a b=true)(h2:ZZ b c=true):ZZ a c=true:=M4.Jg.mpr fun p hp=>by
 obtain⟨u,e,q⟩:=M4.Jg.mp h1 p hp;obtain⟨v,e2,q2⟩:=M4.Jg.mp h2 (p.1,u) ((M4.XR hb).mp e);exact⟨v,e2,Int.le_trans q q2⟩
theorem ZcU:∀(cs kept:List Tb) (c:Tb),(∀d∈kept++cs,M4.Nd d)->c∈kept++cs->∃low∈cs.foldl M4.keep kept,ZZ low c=true
 |[],kept,c,nd,h=>⟨c,by simpa using h,M4.Zc2 (nd c h)⟩
 |d::cs,kept,c,nd,h=>by
  rw[List.foldl_cons];unfold M4.keep;have stay:∀(kp:List Tb) (x:Tb),x∈kp->x∈cs.foldl M4.keep kp:=fun kp x hx=>by
   obtain⟨r,e,_⟩:=M4.Za5 cs kp;rw[e];exact List.mem_append_left _ hx
  split
  ·rename_i m
   have sub:∀x∈kept++cs,M4.Nd x:=fun x hx=>nd x (by
    rcases List.mem_append.mp hx with inK|inC
    ·exact List.mem_append_left _ inK
    ·exact List.mem_append_right _ (List.mem_cons_of_mem _ inC))
   rcases List.mem_append.mp h with z|z
   ·exact ZcU cs kept c sub (List.mem_append_left _ z)
   ·rcases List.mem_cons.mp z with rfl|z
    ·obtain⟨low,hl,b⟩:=List.any_eq_true.mp m;exact⟨low,stay kept low hl,b⟩
    ·exact ZcU cs kept c sub (List.mem_append_right _ z)
  ·have e:kept++d::cs=(kept++[d])++cs:=by simp
   rw[e] at nd h
   exact ZcU cs _ c nd h
def Zdv(ws:List Tb):List Tb:=ws.filter fun w=> !(ws.any fun o=>decide (o≠w)&&ZZ o w)
theorem ZkL{ws:List Tb}{x:Tb}:x∈Zdv ws↔x∈ws/\∀o∈ws,o≠x->ZZ o x=false:=by
 unfold Zdv;rw[List.mem_filter];refine and_congr_right fun _=> ?_;rw[Bool.not_eq_true',List.any_eq_false];exact⟨fun h o ho n=>by
  have:=h o ho;rw[decide_eq_true n,Bool.true_and] at this
  simpa using this,fun h o ho=>by
  by_cases n:o≠x
  ·rw[h o ho n,Bool.and_false];exact Bool.false_ne_true
  ·rw[decide_eq_false n,Bool.false_and];exact Bool.false_ne_true⟩
theorem ZhV{ws us:List Tb}(nf:∀w∈ws,M4.Nf w)(nd:us.Nodup)(mem:∀x,x∈us↔x∈ws):(Zdv us).Perm (M4.Zab (M4.Yl M4.YL ws)):=by
 have g:∀c∈([]:List Tb)++M4.Yl M4.YL ws,M4.Nf c:=fun c hc=>nf c (Xj.mp (by simpa using hc));have anti:=M4.Zen (Good:=M4.Nf) (fun c h=>h.nd) (fun a b l ha hb h=>M4.Zfl l ha hb h) (M4.Yl M4.YL ws) [] g (by simpa using M4.ZaE M4.Zbl ws) List.Pairwise.nil;have one:∀a∈M4.Zab (M4.Yl M4.YL ws),∀b∈M4.Zab (M4.Yl M4.YL ws),ZZ a b=true->a=b:=fun a ha b hb h=>by
  obtain⟨m,hm,rfl⟩:=List.getElem_of_mem ha;obtain⟨k,hk,rfl⟩:=List.getElem_of_mem hb;have p:=List.pairwise_iff_getElem.mp anti;rcases Nat.lt_trichotomy m k with z|z|z
  ·have:=(p m k hm hk z).1;exact absurd (h.symm.trans this) (by simp)
  ·subst z;rfl
  ·have:=(p k m hk hm z).2;exact absurd (h.symm.trans this) (by simp)
 have has:∀c∈ws,∃low∈M4.Zab (M4.Yl M4.YL ws),ZZ low c=true:=fun c hc=>ZcU (M4.Yl M4.YL ws) [] c (fun d hd=>(g d hd).nd) (by simpa using Xj.mpr hc);have inw:∀c∈M4.Zab (M4.Yl M4.YL ws),c∈ws:=fun c hc=>Xj.mp (Za6 hc);have ndt:(M4.Zab (M4.Yl M4.YL ws)).Nodup:=by
  refine List.pairwise_iff_getElem.mpr fun i j hi hj lt z=> ?_;have this:ZZ (M4.Zab (M4.Yl M4.YL ws))[i] (M4.Zab (M4.Yl M4.YL ws))[j]=false:=(List.pairwise_iff_getElem.mp anti i j hi hj lt).1;have r:=M4.Zc2 (nf _ (inw _ (List.getElem_mem hi))).nd;rw[<-z] at this
  exact absurd (r.symm.trans this) (by simp)
 refine M4.Zbk (nd.sublist List.filter_sublist) ndt fun x=> ?_;rw[ZkL]
 constructor
 ·rintro⟨hx,h⟩;have hx:=(mem x).mp hx;obtain⟨low,hl,b⟩:=has x hx
  by_cases e:low=x
  ·exact e▸hl
  ·exact absurd (b.symm.trans (h low ((mem low).mpr (inw low hl)) e)) (by simp)
 ·intro hx;refine⟨(mem x).mpr (inw x hx),fun o ho n=> ?_⟩;have ho:=(mem o).mp ho;cases b:ZZ o x with
  |false=>rfl
  |true=>
   obtain⟨low,hl,b2⟩:=has o ho;have e:=one low hl x hx (Zh2 (nf o ho).nd b2 b);subst e;exact absurd (M4.Zfl (M4.ZdF (nf o ho) (nf low (inw low hl)) b2) (nf low (inw low hl)) (nf o ho) b).symm n
theorem ZlW{H:Hp}:∀{as:List Addr} {ws:List Tb},Yd H as ws->∀w∈ws,M4.Nf w
 |_,_,.nil,w,h=>nomatch h
 |_,_,.cons ⟨c,e,n,q⟩ t,w,h=>by
  obtain rfl|more:=List.mem_cons.mp h
  ·exact q▸M4.Zio n
  ·exact ZlW t w more
theorem ZeF{H:Hp}(P:Tb->Bool):∀{as:List Addr} {ws:List Tb},Yd H as ws->∃ds:List Addr,((as.zip ws).flatMap fun z=>if P z.2=true then[V.ref z.1] else[])=ds.map V.ref/\Yd H ds (ws.filter P)/\∀d∈ds,d∈as
 |_,_,.nil=>⟨[],rfl,.nil,fun d h=>h⟩
 |_,_,.cons (a:=a) (b:=w) h t=>by
  obtain⟨ds,e,c,m⟩:=ZeF P t;cases hp:P w with
  |true=>
   refine⟨a::ds, ?_,by rw[List.filter_cons_of_pos hp];exact .cons h c,fun d hd=> ?_⟩
   ·rw[List.zip_cons_cons,List.flatMap_cons,e,if_pos hp]
    rfl
   ·obtain rfl|more:=List.mem_cons.mp hd
    ·exact List.mem_cons_self ..
    ·exact List.mem_cons_of_mem _ (m d more)
  |false=>
   refine⟨ds, ?_,by rw[List.filter_cons_of_neg (by rw[hp];simp)];exact c,fun d hd=>List.mem_cons_of_mem _ (m d hd)⟩
   rw[List.zip_cons_cons,List.flatMap_cons,e,if_neg (by rw[hp];simp)]
   rfl
theorem Zas:ZV ["_law_some","_law_found","_law_clause"] ["_law_some"] (Zz ZaR):=⟨rfl,rfl,rfl,by decide+kernel,rfl,by decide+kernel,by decide+kernel⟩
theorem ZeV{f:Addr}{fd:FuncData}(F:Fun K "_law_fewest" "_law_fewest" ZaR f fd)(T:Txt K mg t_MOST_CLAUSES Zm Zg Zh Zb Zt ZM Zv ZC Zc ZD Zw Zu Zx Zy ZF ZP)(Zbv:Cal P w K mg base CX0 1 "_law_below" ["_law_one","_law_other"] ZaU):YD P w K mg base CX0 2 f fd ["_law_some"] Zaq:=by
 refine F.ok Zas (fun vs H Q E h=> ?_) (fun cdv A outer s H vs Q E hr h=> ?_)
 ·obtain⟨p,as,ws,rfl,_⟩:=h
  rfl
 ·obtain⟨p,as,ws,rfl,hp,ca,lw,sw,k⟩:=h;have l5:=Jr;have hu3:=Zmp hr;refine⟨_,(Zj (ZL (i:=1) Zas.nd rfl (Or.inr rfl) (Xf Ze)) (Zj (JX PassesOwn.never rfl (Jl (pv 0)) (YB (i:=2) Zas.nd rfl (Or.inl rfl)) (Zr (YM (Ym (ZhI (K:=K) rfl hu3) (pv 2) (pv 1) rfl) (Zr (JN (ZbT PySem.F.plainAttrs_list PySem.F.slot_list_append PySem.F.type_list_append Xq (pv 1) (Za (pv 2) Ze)))) Yi))) (Zr (ZQ (Zkj "_law_one" ["_law_one"] [("_law_found",1)] (fun _=>rfl) (fun _=>rfl) (by decide) rfl (Jl (pv 1)) (by rfl) (by exact⟨rfl,trivial⟩) (by rfl) (by exact⟨⟨rfl,rfl,rfl⟩,trivial⟩) (fun _ _ _ _=>(YB (i:=0) (show(nmY ["_law_one"] [("_law_found",1)]).Nodup by decide+kernel) rfl (Or.inr rfl))) (fun _ _ _ _=>(Zl9 (Ze8 (Zb6 (ZG (ZgM (K:=K) rfl rfl) (by rfl) T.z_any ZjL (Za (Zcr ["_law_other"] [("_law_one",0)] rfl (Zki (K:=K) rfl (pv 1)) (by rfl) (by exact⟨rfl,trivial⟩) (by rfl) (by exact⟨⟨rfl,rfl,rfl⟩,trivial⟩) (fun _ _ _ _=>(YB (i:=0) (show(nmY ["_law_other"] [("_law_one",0)]).Nodup by decide+kernel) rfl (Or.inl rfl))) (fun _ _ _ _=>Zcq) (fun _ _ _ _=>(Zd2 (Xz (Zlw (K:=K) rfl hu3) (pv 0) (pv 1) (Yj _)) (Zd1 (Yc Zbv (hr.mono (by omega)) rfl Yh (Za (pv 0) (Za (pv 1) Ze))))))) Ze)))))) (fun _ _ _ _=>(pv 0))))))), ?_⟩
  refine⟨Nat.zero_le _,fun S hS=> ?_⟩;have s0:ZK H (upd H S (.lst [])):=Zq hS;have dS:upd H S (.lst []) S=some (.lst []):=Zd;have nSp:p≠S:=Zk hp hS;have ca0:=ca.same s0;have hp0:=s0 _ _ hp;generalize upd H S (.lst [])=H0 at s0 dS ca0 hp0
  refine⟨_,rfl,p,rfl,⟨_,SqL.of hp0⟩,Zay (xs:=as.map V.ref) (fun i σ H'=>∃(ds:List Addr) (v2:Option V),σ=[some (.ref p),some (.ref S),v2]/\H' S=some (.lst (ds.map V.ref))/\Yd H' ds ((ws.take i).foldl Ja [])/\(∀d∈ds,d∈as)/\∀b u,b≠S->H0 b=some u->H' b=some u) ?_ ?_ ?_ ?_⟩
  ·exact⟨[],none,rfl,dS,by rw[List.take_zero];exact .nil,(fun d hd=>nomatch hd),fun b u _ e=>e⟩
  ·rintro i σ H1 _ ⟨ds,v2,rfl,d1,c1,n1,k1⟩;exact SqL.of (k1 _ _ nSp hp0)
  ·rintro i x σ H1 hx ⟨ds,v2,rfl,d1,c1,n1,k1⟩;have ca1:Yd H1 as ws:=Yd.but (fun b u h1=>k1 b _ (fun z=>by rw[z,dS] at h1;cases h1) h1) ca0
   obtain⟨a,w,c,rfl,e1,e2,e3,e4,e5⟩:=Yd.get ca1 i x hx;have enx:(ws.take (i+1)).foldl Ja []=Ja ((ws.take i).foldl Ja []) w:=by
    rw[List.take_add_one,e2,List.foldl_append]
    rfl
   have lk:((ws.take i).foldl Ja []).length<=ws.length:=by
    have h1:=(Ze4 (ws.take i) [] List.nodup_nil).2.2;have h2:=List.length_take_le' i ws;rw[List.length_nil] at h1
    omega
   rw[enx];generalize (ws.take i).foldl Ja []=kf at c1 lk
   obtain⟨cs,r1,m1,k2⟩:=Ziq c1;refine⟨_,rfl,_,rfl,S,1,.dct (kk c),_,_,rfl,by decide,SqL.of d1,.dct (.inl e3) (ZdU c),r1,fun e he=> ?_,_,rfl, ?_⟩
   ·obtain⟨d,_,rfl⟩:=List.mem_map.mp he
    rfl
   ·have en:=Zh1 e4 cs k2;rw[m1,e5] at en
    show if(!(cs.map fun d=>Dt.dct (kk d)).any fun e=>YQ 1 e (.dct (kk c)))=true then _ else _;rw[en];unfold Ja;cases ea:kf.any fun u=>decide (u=w) with
    |true=>
     refine ZaC ?_;rw[if_pos rfl];exact⟨ds,_,rfl,d1,c1,n1,k1⟩
    |false=>
     refine JP ?_;rw[if_neg Bool.false_ne_true];have l6:(ds.map V.ref).length<sizeLine:=by rw[List.length_map,c1.len];omega
     have dS5:upd H1 S (.lst (ds.map V.ref++[V.ref a])) S=some (.lst ((ds++[a]).map V.ref)):=by rw[Zd,List.map_append];rfl
     refine⟨_,rfl,.inl ⟨rfl,_,SqL.of d1⟩,_,rfl,S,_,_,rfl,rfl,d1,l6, ?_⟩;have c5:Yd (upd H1 S (.lst (ds.map V.ref++[V.ref a]))) (ds++[a]) (kf++[w]):=Yd.but (fun b u h1=>by rw[Zf (fun z=>by rw[z,d1] at h1;cases h1)];exact h1) (Yd.app c1 (.cons ⟨c,e3,e4,e5⟩ .nil))
     refine⟨ds++[a],_,rfl,dS5,c5,fun d hd=> ?_,fun b u n z=>by rw[Zf n];exact k1 b u n z⟩
     rcases List.mem_append.mp hd with z|z
     ·exact n1 d z
     ·have e7:d=a:=by simpa using z
      subst e7;exact List.mem_of_getElem? e1
  ·rintro σ H1 ⟨ds,v2,rfl,d1,c1,n1,k1⟩;rw[List.length_map,ca.len,List.take_of_length_le (Nat.le_refl _)] at c1
   obtain⟨nd,me,ln⟩:=Ze4 ws [] List.nodup_nil;have me:∀x,x∈ws.foldl Ja []↔x∈ws:=fun x=>(me x).trans ⟨fun z=>z.resolve_left (fun y=>nomatch y),.inr⟩;have pm:=ZhV (ZlW ca) nd me;rw[List.length_nil,Nat.zero_add] at ln
   have sl:∀w∈ws.foldl Ja [],w.length<=100:=fun w hw=>(sw w ((me w).mp hw)).1;generalize ws.foldl Ja []=kf at c1 nd me pm ln sl
   have le:=c1.len;have lz:(ds.zip kf).length=ds.length:=by rw[List.length_zip];omega
   have s01:ZK H H1:=fun b u e=>k1 b u (Zk e hS) (s0 b u e);refine⟨_,rfl,S,rfl,⟨_,SqL.of d1⟩,ZdR (ds.zip kf).length (fun j=>(((ds.zip kf)[j]?).map fun z=>if(!(kf.any fun o=>decide (o≠z.2)&&ZZ o z.2))=true then[V.ref z.1] else[]).getD []) (by omega) (fun j=> ?_) (fun j H2 s2 lt=>⟨_,_,SqL.of (s2 _ _ d1),List.getElem?_eq_getElem (by rw[List.length_map];omega)⟩) (fun H2 s2=>⟨_,SqL.of (s2 _ _ d1),by rw[List.length_map];omega⟩) (fun j y H2 H3 s2 lt yl RT RF rt rf=> ?_) fun D H2 hD s2 d2=> ?_⟩
   ·cases(ds.zip kf)[j]? with
    |none=>exact Nat.zero_le 1
    |some z=>
     show(if _ then[V.ref z.1] else[]).length<=1
     split
     ·exact Nat.le_refl 1
     ·exact Nat.zero_le 1
   ·obtain⟨rfl,yl⟩:=yl;have hy:=yl _ (SqL.of (s2 _ _ d1));have c2:=c1.same s2;have d2:=s2 _ _ d1;obtain⟨a,w,c,rfl,e1,e2,e3,e4,e5⟩:=Yd.get c2 j y hy;have ez:(ds.zip kf)[j]? =some (a,w):=List.getElem?_zip_eq_some.mpr ⟨e1,e2⟩;rw[ez] at rt rf
    refine⟨⟨rfl,trivial⟩, ?_⟩;refine⟨_,rfl,S,rfl,⟨_,SqL.of d2⟩,ZdR ds.length (fun j=>[((kf[j]?).map fun o=>V.bl (decide (o≠w)&&ZZ o w)).getD .non]) (by omega) (fun j=>Nat.le_refl 1) (fun j H4 s4 lt=>⟨_,_,SqL.of (s4 _ _ d2),List.getElem?_eq_getElem (by rw[List.length_map];exact lt)⟩) (fun H4 s4=>⟨_,SqL.of (s4 _ _ d2),by rw[List.length_map];exact Nat.le_refl _⟩) (fun i y H4 H5 s4 lt yl RT2 RF2 rt2 rf2=> ?_) fun D4 H4 hD4 s4 d4=> ?_⟩
    ·obtain⟨rfl,yl⟩:=yl;have hy:=yl _ (SqL.of (s4 _ _ d2));obtain⟨a',w',c',rfl,f1,f2,f3,f4,f5⟩:=Yd.get (c2.same s4) i y hy;have lc':c'.length<=1000:=by
      have:=sl w' (List.mem_of_getElem? f2);rw[<-f5,M4.YT] at this
      omega
     refine⟨⟨rfl,trivial⟩, ?_⟩;unfold ZdE;refine JP ?_;have en:(if true=true then !YQ 1 (.dct (kk c')) (.dct (kk c)) else YQ 1 (.dct (kk c')) (.dct (kk c)))=decide (w'≠w):=by
      rw[if_pos rfl];show(!dEq (kk c') (kk c))=_;rw[Zir f4 e4,f5,e5]
      by_cases z:w'=w
      ·rw[decide_eq_true z,decide_eq_false (fun y=>y z)];rfl
      ·rw[decide_eq_false z,decide_eq_true z];rfl
     refine⟨_,rfl,_,rfl,1,.dct (kk c'),.dct (kk c),by decide,rfl,.dct (.inl f3) (ZdU c'),.dct (.inl (s4 _ _ e3)) (ZdU c),rfl,_,rfl, ?_⟩;rw[en];have out:[((kf[i]?).map fun o=>V.bl (decide (o≠w)&&ZZ o w)).getD .non]=[V.bl (decide (w'≠w)&&ZZ w' w)]:=by rw[f2];rfl
     rw[out] at rt2
     refine ZaK (fun z=>⟨_,rfl,_,rfl,a',a,c',c,rfl,f3,.inl (s4 _ _ e3),lc',f4,fun H6 s6=>rt2 _ H6 ?_ s6⟩) (fun z=>rt2 _ _ ?_ (ZK.refl _))
     ·rw[z,Bool.true_and,<-f5,<-e5,M4.Zem e4]
     ·rw[Bool.eq_false_iff.mpr z,Bool.false_and]
    ·have e6:(List.range ds.length).flatMap (fun j=>[((kf[j]?).map fun o=>V.bl (decide (o≠w)&&ZZ o w)).getD .non])=(kf.map fun o=>decide (o≠w)&&ZZ o w).map V.bl:=by
      rw[Zad,c1.len,Zf8 kf (fun o=>V.bl (decide (o≠w)&&ZZ o w)) .non,List.map_map]
      rfl
     rw[e6] at d4
     refine⟨D4,_,rfl,SqL.of d4,_,rfl, ?_⟩;rw[Zh0];have out:(((ds.zip kf)[j]?).map fun z=>if(!(kf.any fun o=>decide (o≠z.2)&&ZZ o z.2))=true then[V.ref z.1] else[]).getD []=if(!(kf.any fun o=>decide (o≠w)&&ZZ o w))=true then[V.ref a] else[]:=by rw[ez];rfl
     refine ZaK (fun z=>⟨_,rfl,rt _ _ ?_ s4⟩) (fun z=>rf _ ?_ s4)
     ·exact if_pos z
     ·exact if_neg z
   ·rw[Zc0 (fun z=>if(!(kf.any fun o=>decide (o≠z.2)&&ZZ o z.2))=true then[V.ref z.1] else[]) (ds.zip kf)] at d2
    obtain⟨es,e,c,m⟩:=ZeF (fun w=> !(kf.any fun o=>decide (o≠w)&&ZZ o w)) (c1.same s2);rw[e] at d2
    exact k D es _ H2 (none_of s01 hD) (s01.trans s2) d2 c pm fun d hd=>n1 d (m d hd)
theorem el3:¬V.str (Str.ofString "later")=V.str (Str.ofString "earlier"):=by decide+kernel
theorem Zfs{cs ds:List Tb}(f:Tb->Tb->Tb)(k:cs.Perm ds):∀bs:List Tb,(bs.flatMap fun x=>cs.map fun y=>f x y).Perm (bs.flatMap fun x=>ds.map fun y=>f x y)
 |[]=>List.Perm.refl _
 |b::bs=>by
  rw[List.flatMap_cons,List.flatMap_cons];exact(k.map _).append (Zfs f k bs)
theorem ZhW{as bs cs ds:List Tb}(f:Tb->Tb->Tb)(h:as.Perm bs)(k:cs.Perm ds):(as.flatMap fun x=>cs.map fun y=>f x y).Perm (bs.flatMap fun x=>ds.map fun y=>f x y):=
 (h.flatMap_right _).trans (Zfs f k bs)
theorem Zbw:∀(t:Tr),Nn t->∀c∈ZX t,∀p∈c,0<=p.2
 | .never,_,c,h=>nomatch h
 | .after k d,n,c,h=>by
  have e:c=[(k,d)]:=by simpa [ZX] using h
  subst e;intro p hp;have e:p=(k,d):=by simpa using hp
  subst e;exact n
 | .later x y,n,c,h=>by
  obtain⟨u,hu,v,hv,rfl⟩:=Zbp (Xj.mp (Za6 h));intro p hp;have hp:=(M4.XH _).mem_iff.mp hp;have nu:=(YX x u hu).1.nd;have nv:=(YX y v hv).1.nd;have e:=(M4.XR (M4.Zaf (b:=v) nu) (k:=p.1) (d:=p.2)).mpr hp;rw[M4.ZbM nv] at e
  cases ev:lk v p.1 with
  |none=>
   rw[ev] at e
   exact Zbw x n.1 u hu p ((M4.XR nu).mp e)
  |some d=>
   rw[ev] at e
   have hd:=Zbw y n.2 v hv (p.1,d) ((M4.XR nv).mp ev);have e:max d ((lk u p.1).getD d)=p.2:=Option.some.inj e;have hd:0<=d:=hd;omega
 | .earlier x y,n,c,h=>by
  rcases List.mem_append.mp (Xj.mp (Za6 h)) with z|z
  ·exact Zbw x n.1 c z
  ·exact Zbw y n.2 c z
theorem Zjf{c l:Tb}{m:Nat}{p:Str×Int}(nl:M4.Nd l)(h:l[m]? =some p):lk (M4.Yo c (l.take m)) p.1=lk c p.1:=by
 have nt:M4.Nd (l.take m):=by
  show((l.take m).map (·.1)).Nodup;rw[List.map_take];exact nl.sublist (List.take_sublist _ _)
 have no:p.1∉(l.take m).map (·.1):=fun z=>by
  obtain⟨p2,hp2,e⟩:=List.mem_map.mp z;obtain⟨j,hj,e6⟩:=List.getElem_of_mem hp2;rw[List.getElem_take] at e6
  have hj':j<m:=by rw[List.length_take] at hj;omega
  obtain⟨hm',e7⟩:=List.getElem?_eq_some_iff.mp h;have:=(List.pairwise_iff_getElem.mp nl) j m (by rw[List.length_map];omega) (by rw[List.length_map];omega) hj'
  rw[List.getElem_map,List.getElem_map,e6,e7] at this
  exact this e
 rw[M4.ZbM nt,M4.Ze0 no]
theorem ZmU{g:Option Int}{d:Int}(h:0<=d):(if g.getD 0>d then g.getD 0 else d)=max d (g.getD d):=by
 cases g with
 |none=>
  show(if(0:Int)>d then 0 else d)=max d d
  split<;>omega
 |some u=>
  show(if u>d then u else d)=max d u
  split<;>omega
theorem YZ:ZV ["_law_tree","_law_left","_law_right","_law_some","_law_one","_law_other","_law_clause","_law_kind"] ["_law_tree"] (Zz Zbn):=⟨rfl,rfl,rfl,by decide+kernel,rfl,by decide+kernel,by decide+kernel⟩
theorem Zg6{f:Addr}{fd:FuncData}(F:Fun K "_law_least" "_law_least" Zbn f fd)(T:Txt K mg t_MOST_CLAUSES Zm Zg Zh Zb Zt ZM Zv ZC Zc ZD Zw Zu Zx Zy ZF ZP)(n:Nat)(JS:Cal P w K mg base CX0 2 "_law_fewest" ["_law_some"] Zaq)(Xa:Cal P w K mg base CX0 (2+n+1) "_law_least" ["_law_tree"] (Xr n)):YD P w K mg base CX0 (2+n+1+1) f fd ["_law_tree"] (Xr (n+1)):=by
 refine F.ok YZ (fun vs H Q E h=> ?_) (fun cdv A outer s H vs Q E hr h=> ?_)
 ·obtain⟨a,t,rfl,_⟩:=h
  rfl
 ·obtain⟨a,t,rfl,ht,hd,hc,nn,q⟩:=h;have l5:=Jr;have hu:=Zi8 hr;refine⟨_,(Zj (YM (Ym XJ (YH YJ (pv 0) Zn (fun _ _=>rfl)) Yt (Yj _)) (Zr (ZQ (Xf Ze))) Yi) (Zj (YM (Ym XJ (YH YJ (pv 0) Zn (fun _ _=>rfl)) Yt (Yj _)) (Zr (ZQ (Xf (Za (Zi6 (Zgn (YH YJ (pv 0) Zn (fun _ _=>rfl)) (YH YJ (pv 0) Zn (fun _ _=>rfl)) Zi5) rfl rfl (by simp) (by decide)) Ze)))) Yi) (Zj (ZL (i:=1) YZ.nd rfl (Or.inl rfl) (Yc Xa (hr.mono (by omega)) rfl Yh (Za (YH YJ (pv 0) Zn (fun _ _=>rfl)) Ze))) (Zj (ZL (i:=2) YZ.nd rfl (Or.inl rfl) (Yc Xa (hr.mono (by omega)) rfl Yh (Za (YH YJ (pv 0) Zn (fun _ _=>rfl)) Ze))) (Zj (YM (Ym XJ (YH YJ (pv 0) Zn (fun _ _=>rfl)) Yt (Yj _)) (Zr (ZQ (Yc JS (hr.mono (by omega)) rfl Yh (Za (ZJ Zcp (pv 1) (pv 2)) Ze)))) Yi) (Zj (ZL (i:=3) YZ.nd rfl (Or.inl rfl) (Xf Ze)) (Zj (JX PassesOwn.never rfl (Jl (pv 1)) (YB (i:=4) YZ.nd rfl (Or.inl rfl)) (Zr (JX PassesOwn.never rfl (Jl (pv 2)) (YB (i:=5) YZ.nd rfl (Or.inl rfl)) (Zj (ZL (i:=6) YZ.nd rfl (Or.inl rfl) (Jd Zct (by rfl) T.z_dict Zib (Za (pv 4) Ze))) (Zj (Zk9 (JX PassesOwn.never rfl (Zic (pv 5)) (YB (i:=7) YZ.nd rfl (Or.inl rfl)) (Zr (Zi4 hu (pv 6) (pv 7) (ZG (ZbA rfl) (by rfl) T.z_max ZfD (Za (ZdQ hu (pv 5) (pv 7) (fun _ _=>rfl)) (Za (Zgo hu (pv 6) (pv 7) Zn ⟨rfl,rfl,rfl,rfl⟩) Ze))) rfl)))) (Zr (JN (ZbT PySem.F.plainAttrs_list PySem.F.slot_list_append PySem.F.type_list_append Xq (pv 3) (Za (pv 6) Ze))))))))) (Zr (ZQ (Yc JS (hr.mono (by omega)) rfl Yh (Za (pv 3) Ze))))))))))), ?_⟩
  cases t with
  |never=>
   have ha:H a=some _:=ht;exact ixT rfl (SqT.of ha) rfl ⟨rfl,_,rfl,Zjb rfl ⟨Nat.zero_le _,fun r hr=>q r [] [] _ hr (Zq hr) Zd .nil (List.Perm.refl _) fun d hd=>nomatch hd⟩⟩
  |after k d=>
   have ha:H a=some _:=ht;refine ixT rfl (SqT.of ha) rfl ⟨rfl,_,rfl,Zb4 w1 (ixT rfl (SqT.of ha) rfl ⟨rfl,_,rfl,Zjb rfl fun p hp=> ?_⟩)⟩;have h1:=Zq (o:=.dK []) hp _ _ ha;have e0:upd H p (.dK []) p=some (.dK []):=Zd;refine ixT rfl (SqT.of h1) rfl (ixT rfl (SqT.of h1) rfl ⟨e0,[(Sum.inr k,.int d)],rfl,(show 1<=15 by decide),show 1<=sizeLine from sl,fun r hr=> ?_⟩);have d2:upd (upd (upd H p (.dK [])) p (.dK (Zah [] [(Sum.inr k,V.int d)]))) r (.lst [V.ref p]) p=some (.dK (kk [(k,d)])):=by rw[Zf (Zk Zd hr)];exact Zd
   have s1:ZK H (upd (upd H p (.dK [])) p (.dK (Zah [] [(Sum.inr k,V.int d)]))):=fun b u e=>by
    have n1:=Zk e hp;rw[Zf n1,Zf n1];exact e
   exact q r [p] [[(k,d)]] _ (none_of s1 hr) (s1.trans (Zq hr)) Zd (.cons ⟨[(k,d)],d2,List.nodup_cons.mpr ⟨(fun z=>nomatch z),List.nodup_nil⟩,rfl⟩ .nil) (List.Perm.refl _) fun d' hd'=>by
    have e7:d'=p:=by simpa using hd'
    subst e7;exact hp
  |earlier x y=>
   obtain⟨p1,p2,ha,t1,t2⟩:=ht;have hdeep:max x.deep y.deep+1<n+1:=hd;obtain⟨o1,o2,pr,z3,z4⟩:=ZbW hc;refine ixT rfl (SqT.of ha) rfl ⟨rfl,_,rfl,Zb4 w3 (ixT rfl (SqT.of ha) rfl ⟨rfl,_,rfl,Zb4 w5 ?_⟩)⟩;refine ixT rfl (SqT.of ha) rfl ⟨p1,x,rfl,t1,by omega,o1,nn.1,fun r1 ds1 us1 H1 hr1 s1 h1 c1 pu1 n1=> ?_⟩;refine ixT rfl (SqT.of (s1 _ _ ha)) rfl ⟨p2,y,rfl,t2.same s1,by omega,o2,nn.2,fun r2 ds2 us2 H2 hr2 s2 h2 c2 pu2 n2=> ?_⟩
   have l1:=c1.len;have l2:=c2.len;have k1:=pu1.length_eq;have k2:=pu2.length_eq;have s02:=s1.trans s2;refine ixT rfl (SqT.of (s02 _ _ ha)) rfl ⟨rfl,_,rfl,Zjb rfl ?_⟩;refine⟨_,rfl,_,rfl,r1,r2,ds1.map V.ref,ds2.map V.ref,rfl,rfl,SqL.of (s2 _ _ h1),SqL.of h2,by rw[List.length_map,List.length_map];omega,fun r3 hr3=> ?_⟩
   have s3:=Zq (o:=.lst (ds1.map V.ref++ds2.map V.ref)) hr3;refine⟨r3,ds1++ds2,us1++us2,rfl,by rw[Zd,List.map_append],(Yd.app (c1.same s2) c2).same s3,by rw[List.length_append];omega,fun w hw=> ?_,fun r ds us H4 hr s4 h4 c4 pu sub=> ?_⟩
   ·rcases List.mem_append.mp hw with m|m
    ·have m:=pu1.mem_iff.mp m;exact⟨by have:=z3 w m;omega,(YX x w m).2⟩
    ·have m:=pu2.mem_iff.mp m;exact⟨by have:=z4 w m;omega,(YX y w m).2⟩
   ·have e:M4.Yl M4.YL (us1++us2)=M4.Yl M4.YL (ZX x++ZX y):=M4.ZaF M4.Zbl (pu1.append pu2);rw[e] at pu
    refine q r ds us H4 (none_of (s02.trans s3) hr) (s02.trans (s3.trans s4)) h4 c4 pu fun d hd=> ?_;rcases List.mem_append.mp (sub d hd) with m|m
    ·exact n1 d m
    ·exact none_of s1 (n2 d m)
  |later x y=>
   obtain⟨p1,p2,ha,t1,t2⟩:=ht;have hdeep:max x.deep y.deep+1<n+1:=hd;obtain⟨o1,o2,pr,z1,z2,z3,z4⟩:=ZdI hc;refine ixT rfl (SqT.of ha) rfl ⟨rfl,_,rfl,Zb4 w2 (ixT rfl (SqT.of ha) rfl ⟨rfl,_,rfl,Zb4 w4 ?_⟩)⟩;refine ixT rfl (SqT.of ha) rfl ⟨p1,x,rfl,t1,by omega,o1,nn.1,fun r1 ds1 us1 H1 hr1 s1 h1 c1 pu1 n1=> ?_⟩;refine ixT rfl (SqT.of (s1 _ _ ha)) rfl ⟨p2,y,rfl,t2.same s1,by omega,o2,nn.2,fun r2 ds2 us2 H2 hr2 s2 h2 c2 pu2 n2=> ?_⟩
   have l1:=c1.len;have l2:=c2.len;have k1:=pu1.length_eq;have k2:=pu2.length_eq;have s02:=s1.trans s2;have c12:=c1.same s2;refine ixT rfl (SqT.of (s02 _ _ ha)) rfl ⟨rfl,_,rfl,Zb4 el3 ?_⟩;refine⟨Nat.zero_le _,fun S hS=> ?_⟩;have s3:ZK H2 (upd H2 S (.lst [])):=Zq hS;have hS3:upd H2 S (.lst []) S=some (.lst (([]:List Addr).map V.ref)):=Zd;generalize upd H2 S (.lst [])=H3 at s3 hS3
   have pro:us1.length*us2.length<=120:=by rw[k1,k2];exact pr
   refine⟨_,rfl,r1,rfl,⟨_,SqL.of (s3 _ _ (s2 _ _ h1))⟩,Zay (xs:=ds1.map V.ref) (fun i σ H'=>∃(es:List Addr) (v4 v5 v6 v7:Option V),σ=[some (.ref a),some (.ref r1),some (.ref r2),some (.ref S),v4,v5,v6,v7]/\H' S=some (.lst (es.map V.ref))/\Yd H' es ((us1.take i).flatMap fun x=>us2.map fun y=>M4.Ys (M4.Yo x y))/\(∀e∈es,H2 e=none)/\ZK H2 H') ?_ ?_ ?_ ?_⟩
   ·exact⟨[],none,none,none,none,rfl,hS3,by rw[List.take_zero];exact .nil,(fun e he=>nomatch he),s3⟩
   ·rintro i σ H4 _ ⟨es,_,_,_,_,rfl,_,_,_,s4⟩;exact SqL.of (s4 _ _ (s2 _ _ h1))
   ·rintro i xv σ H4 hx ⟨es,v4,v5,v6,v7,rfl,h4,ce,fr,s4⟩;obtain⟨q1,w1',cc,rfl,e1,e2,e3,e4,e5⟩:=Yd.get c12 i xv hx;have li:i<us1.length:=(List.getElem?_eq_some_iff.mp e2).1;have lf:((us1.take i).flatMap fun x=>us2.map fun y=>M4.Ys (M4.Yo x y)).length<=120:=by
     rw[ZcQ,List.length_take];exact Nat.le_trans (Nat.mul_le_mul (Nat.min_le_right _ _) (Nat.le_refl _)) pro
    refine⟨_,rfl,r2,rfl,⟨_,SqL.of (s4 _ _ h2)⟩,Zay (xs:=ds2.map V.ref) (fun j σ H'=>∃(es:List Addr) (v5 v6 v7:Option V),σ=[some (.ref a),some (.ref r1),some (.ref r2),some (.ref S),some (.ref q1),v5,v6,v7]/\H' S=some (.lst (es.map V.ref))/\Yd H' es (((us1.take i).flatMap fun x=>us2.map fun y=>M4.Ys (M4.Yo x y))++(us2.take j).map fun y=>M4.Ys (M4.Yo w1' y))/\(∀e∈es,H2 e=none)/\ZK H2 H') ⟨es,_,_,_,rfl,h4,by rw[List.take_zero,List.map_nil,List.append_nil];exact ce,fr,s4⟩ (fun j σ H' _ ⟨_,_,_,_,_,_,_,_,sh⟩=>SqL.of (sh _ _ h2)) ?_ ?_⟩
    ·rintro j yv σ H5 hy ⟨es,u5,u6,u7,rfl,h5,ce,fr,s5⟩;obtain⟨q2,w2',ll,rfl,f1,f2,f3,f4,f5⟩:=Yd.get c2 j yv hy;have lj:j<us2.length:=(List.getElem?_eq_some_iff.mp f2).1;have le:=ce.len;have lm:=List.length_take_le j us2;rw[List.length_append,List.length_map] at le
     refine⟨_,rfl,q1,_,rfl,.inl (s5 _ _ e3),fun pc hpc=> ?_⟩;have hpc2:H2 pc=none:=none_of s5 hpc;have s6:ZK H5 (upd H5 pc (.dK (kk cc))):=Zq hpc;have h6:upd H5 pc (.dK (kk cc)) pc=some (.dK (kk cc)):=Zd;have nSp:S≠pc:=Zk h5 hpc;generalize upd H5 pc (.dK (kk cc))=H6 at s6 h6
     have b6:=s6 _ _ (s5 _ _ f3);have nbp:q2≠pc:=Zk f3 hpc2;have nSb:S≠q2:=fun z=>by rw[<-z,hS] at f3;cases f3
     have lcc:cc.length<=31:=by
      have:=z3 w1' (pu1.mem_iff.mp (List.mem_of_getElem? e2));rw[<-M4.YT,e5];omega
     have lll:ll.length<=31:=by
      have:=z4 w2' (pu2.mem_iff.mp (List.mem_of_getElem? f2));rw[<-M4.YT,f5];omega
     have nnl:∀p∈ll,0<=p.2:=fun p hp=>Zbw y nn.2 w2' (pu2.mem_iff.mp (List.mem_of_getElem? f2)) p (by rw[<-f5];exact(M4.XH ll).mem_iff.mpr hp)
     refine⟨_,rfl,q2,_,rfl,b6,fun o=>Zho (J:=Itk q2 o (kk ll)) (n:=ll.length) (fun m σ H'=>∃(v7:Option V),σ=[some (.ref a),some (.ref r1),some (.ref r2),some (.ref S),some (.ref q1),some (.ref q2),some (.ref pc),v7]/\H' pc=some (.dK (kk (M4.Yo cc (ll.take m))))/\(∀b u,b≠q2->b≠pc->H6 b=some u->H' b=some u)/\H' q2=some (.frz o (.dK (kk ll)))) ?_ ?_ ?_ ?_⟩
     ·exact⟨_,rfl,by rw[Zf (Ne.symm nbp)];exact h6,fun b u n _ e=>by rw[Zf n];exact e,Zd⟩
     ·rintro m σ H7 hm ⟨w7,rfl,p7,k7,g7⟩;exact⟨g7,by rw[Yy];exact hm⟩
     ·rintro σ H7 ⟨w7,rfl,p7,k7,g7⟩;rw[List.take_of_length_le (Nat.le_refl _)] at p7
      have nf:∀o u,H q2≠some (.frz o u):=fun o u z=>by
       have:=s02 _ _ z;rw[f3] at this
       cases this
      refine⟨⟨g7,by rw[Yy];exact Nat.le_refl _⟩,q2,upd H7 q2 (.dK (kk ll)),⟨nf,o,_,g7,rfl⟩, ?_⟩
      have h8:upd H7 q2 (.dK (kk ll)) S=some (.lst (es.map V.ref)):=by rw[Zf nSb];exact k7 S _ nSb nSp (s6 _ _ h5)
      have kb:∀b u,b≠S->H5 b=some u->upd (upd H7 q2 (.dK (kk ll))) S (.lst (es.map V.ref++[V.ref pc])) b=some u:=fun b u nb e=>by
       rw[Zf nb]
       by_cases z:b=q2
       ·subst z;rw[s5 _ _ f3] at e
        cases e;exact Zd
       ·rw[Zf z];exact k7 b u z (Zk e hpc) (s6 _ _ e)
      refine⟨_,rfl,.inl ⟨rfl,_,SqL.of h8⟩,_,rfl,S,_,_,rfl,rfl,h8,by rw[List.length_map];omega, ?_⟩
      refine⟨es++[pc],_,_,_,rfl,by rw[Zd,List.map_append];rfl, ?_,fun e he=> ?_,fun b u e=>kb b u (Zk e hS) (s5 _ _ e)⟩
      ·rw[List.take_add_one,f2,List.map_append,<-List.append_assoc];refine Yd.app (Yd.but (fun b kvs e=>kb b _ (fun z=>by rw[z,h5] at e;cases e) e) ce) (.cons ⟨M4.Yo cc ll,by rw[Zf (Ne.symm nSp),Zf (Ne.symm nbp)];exact p7,M4.Zaf e4, ?_⟩ .nil)
       exact M4.Zfk e4 f4 (by rw[<-e5];exact M4.ZcK e4) (by rw[<-f5];exact M4.ZcK f4) (by rw[<-e5,M4.ZbL]) (by rw[<-f5,M4.ZbL])
      ·rcases List.mem_append.mp he with m1|m1
       ·exact fr e m1
       ·have e7:e=pc:=by simpa using m1
        subst e7;exact hpc2
     ·rintro m xv σ H7 H7' hm ⟨w7,rfl,p7,k7,g7⟩ ⟨e6,kv,e7,e8⟩;subst e6 e8;obtain⟨pr,e9,e10⟩:=ZkC e7;subst e10;have pm:=List.mem_of_getElem? e9;have hs:=Zdo (.inr ⟨o,g7⟩) pr.1;rw[ZaL f4 pm] at hs
      have hg:=Zdo (.inl p7) pr.1;rw[Zjf f4 e9] at hg
      have eg:((lk cc pr.1).map V.int).getD (V.int 0)=V.int ((lk cc pr.1).getD 0):=by cases lk cc pr.1<;>rfl
      have len:(kk (M4.Yo cc (ll.take m))).length<sizeLine:=by
       have:=Zfp cc (ll.take m);have:=List.length_take_le m ll;rw[Yy];omega
      refine⟨_,rfl,_,rfl,q2,_,rfl,hs,_,rfl,pc,rfl,.inl ⟨_,.inl p7⟩,_,rfl,_,hg,pr.2,(lk cc pr.1).getD 0,by rw[eg],_,rfl,_,rfl,pc,_,rfl,ZiJ.k (k:=Sum.inr pr.1) p7 len, ?_⟩;refine⟨_,rfl, ?_,fun b u n1 n2 e=>by rw[Zf n2];exact k7 b u n1 n2 e,by rw[Zf nbp];exact g7⟩
      rw[ZjR,Zd,Zfq e9,ZmU (nnl pr pm)]
    ·rintro σ H5 ⟨es,u5,u6,u7,rfl,h5,ce,fr,s5⟩;rw[List.length_map,l2,List.take_of_length_le (Nat.le_refl _)] at ce
     refine⟨es,_,_,_,_,rfl,h5, ?_,fr,s5⟩;rw[List.take_add_one,e2,List.flatMap_append];show Yd H5 es (_++([w1'].flatMap fun x=>us2.map fun y=>M4.Ys (M4.Yo x y)));rw[List.flatMap_cons,List.flatMap_nil,List.append_nil];exact ce
   ·rintro σ H4 ⟨es,v4,v5,v6,v7,rfl,h4,ce,fr,s4⟩;rw[List.length_map,l1,List.take_of_length_le (Nat.le_refl _)] at ce
    refine⟨_,rfl,S,es,_,rfl,h4,ce,by rw[ZcQ];omega,fun w hw=> ?_,fun r ds us H6 hr s6 h6 c6 pu sub=> ?_⟩
    ·obtain⟨u,hu1,v,hv1,rfl⟩:=Zbp hw;have m1:=pu1.mem_iff.mp hu1;have m2:=pu2.mem_iff.mp hv1;have b1:=z3 u m1;have b2:=z4 v m2;have nu:=(YX x u m1)
     have nv:=(YX y v m2)
     have b3:=Zdl nu.1.nd nv.1.nd;refine⟨by rw[M4.YT];omega,fun z=>M4.Zin nu.2 nv.1.nd nu.1.nd ?_⟩
     have:=M4.YT (M4.Yo u v);rw[z] at this
     exact List.eq_nil_of_length_eq_zero this.symm
    ·have e:M4.Yl M4.YL (us1.flatMap fun x=>us2.map fun y=>M4.Ys (M4.Yo x y))=M4.Yl M4.YL ((ZX x).flatMap fun x=>(ZX y).map fun y=>M4.Ys (M4.Yo x y)):=M4.ZaF M4.Zbl (ZhW (fun x y=>M4.Ys (M4.Yo x y)) pu1 pu2);rw[e] at pu
     exact q r ds us H6 (none_of (s02.trans s4) hr) (s02.trans (s4.trans s6)) h6 c6 pu fun d hd=>none_of s02 (fr d (sub d hd))
theorem Zh3:inV (V.str (Str.ofString "never")) [.str (Str.ofString "never"),.str (Str.ofString "after")]=true:=by decide+kernel
theorem Zh4:inV (V.str (Str.ofString "after")) [.str (Str.ofString "never"),.str (Str.ofString "after")]=true:=by decide+kernel
theorem Zh5:inV (V.str (Str.ofString "later")) [.str (Str.ofString "never"),.str (Str.ofString "after")]=false:=by decide+kernel
theorem ZeG:inV (V.str (Str.ofString "earlier")) [.str (Str.ofString "never"),.str (Str.ofString "after")]=false:=by decide+kernel
theorem ZbX:ZV ["_law_tree","_law_most"] ["_law_tree"] (Zz ZaS):=⟨rfl,rfl,rfl,by decide+kernel,rfl,by decide+kernel,by decide+kernel⟩
theorem ZeW{f:Addr}{fd:FuncData}(F:Fun K "_law_widest" "_law_widest" ZaS f fd)(T:Txt K mg t_MOST_CLAUSES Zm Zg Zh Zb Zt ZM Zv ZC Zc ZD Zw Zu Zx Zy ZF ZP)(n:Nat)(Xa:Cal P w K mg base CX0 21 "_law_least" ["_law_tree"] (Xr 18))(Xu:Cal P w K mg base CX0 (21+n+1) "_law_widest" ["_law_tree"] (Xy n)):YD P w K mg base CX0 (21+n+1+1) f fd ["_law_tree"] (Xy (n+1)):=by
 refine F.ok ZbX (fun vs H Q E h=> ?_) (fun cdv A outer s H vs Q E hr h=> ?_)
 ·obtain⟨a,t,rfl,_⟩:=h
  rfl
 ·obtain⟨a,t,rfl,ht,hd,hd2,hc,nn,q⟩:=h;have l5:=Jr;refine⟨_,(Zj (YM (Ym Zf4 (YH YJ (pv 0) Zn (fun _ _=>rfl)) (Xf (Za Yt (Za Yt Ze))) rfl) (Zr (ZQ (Jd Zaz (by rfl) T.z_int Zed (Za (Xz XJ (YH YJ (pv 0) Zn (fun _ _=>rfl)) Yt (Yj _)) Ze)))) Yi) (Zj (ZL (i:=1) ZbX.nd rfl (Or.inl rfl) (ZG (ZbA rfl) (by rfl) T.z_max ZfD (Za (Yc Xu (hr.mono (by omega)) rfl Yh (Za (YH YJ (pv 0) Zn (fun _ _=>rfl)) Ze)) (Za (Yc Xu (hr.mono (by omega)) rfl Yh (Za (YH YJ (pv 0) Zn (fun _ _=>rfl)) Ze)) Ze)))) (Zj (YM (Ym ZeZ (pv 1) Zn (Yj _)) (Zr (ZQ (pv 1))) Yi) (Zr (ZQ (ZG (ZbA rfl) (by rfl) T.z_max ZfD (Za (pv 1) (Za (ZG XM (by rfl) T.z_len Zai (Za (Yc Xa (hr.mono (by omega)) rfl Yh (Za (pv 0) Ze)) Ze)) Ze)))))))), ?_⟩
  cases t with
  |never=>
   have ha:H a=some _:=ht;refine ixT rfl (SqT.of ha) rfl ⟨(show 2<=sizeLine from sl),fun L hL=>⟨L,_,rfl,.inl (SqL.of Zd),rfl,rfl,_,rfl, ?_⟩⟩;rw[Zh3];refine JP (ixT rfl (SqT.of (Zq hL _ _ ha)) rfl ⟨rfl,.inr ⟨_,rfl,q _ _ (Zq hL) ?_⟩⟩);exact decide_eq_true (by split<;>omega)
  |after k d=>
   have ha:H a=some _:=ht;refine ixT rfl (SqT.of ha) rfl ⟨(show 2<=sizeLine from sl),fun L hL=>⟨L,_,rfl,.inl (SqL.of Zd),rfl,rfl,_,rfl, ?_⟩⟩;rw[Zh4];refine JP (ixT rfl (SqT.of (Zq hL _ _ ha)) rfl ⟨rfl,.inr ⟨_,rfl,q _ _ (Zq hL) ?_⟩⟩);exact decide_eq_true (by split<;>omega)
  |later x y=>
   obtain⟨p1,p2,ha,t1,t2⟩:=ht;have hdeep:max x.deep y.deep+1<n+1:=hd;have hd18:max x.deep y.deep+1<18:=hd2;obtain⟨o1,o2⟩:=Zdm hc;refine ixT rfl (SqT.of ha) rfl ⟨(show 2<=sizeLine from sl),fun L hL=>⟨L,_,rfl,.inl (SqL.of Zd),rfl,rfl,_,rfl, ?_⟩⟩;rw[Zh5];refine ZaC ?_;have s0:ZK H (upd H L (.lst [.str (Str.ofString "never"),.str (Str.ofString "after")])):=Zq hL;generalize upd H L (.lst [.str (Str.ofString "never"),.str (Str.ofString "after")])=H0 at s0
   refine ixT rfl (SqT.of (s0 _ _ ha)) rfl ⟨p1,x,rfl,t1.same s0,by omega,by omega,o1,nn.1,fun W1 H1 s1 e1=> ?_⟩;have s01:=s0.trans s1;refine ixT rfl (SqT.of (s01 _ _ ha)) rfl ⟨p2,y,rfl,t2.same s01,by omega,by omega,o2,nn.2,fun W2 H2 s2 e2=> ?_⟩;have s02:=s01.trans s2;refine⟨_,_,rfl, ?_⟩;rw[ZcS,<-e1,<-e2] at q
   refine⟨_,rfl,_,_,rfl,rfl,_,rfl,ZaK (fun e=>⟨_,rfl,q _ H2 s02 ?_⟩) (fun e=> ?_)⟩
   ·have e:(40:Int)<(if W2>W1 then W2 else W1):=of_decide_eq_true e;rw[decide_eq_false (by omega)]
    by_cases z:W2>W1
    ·rw[if_pos z] at e
     rw[decide_eq_false (show¬W2<=40 by omega),Bool.and_false,Bool.false_and]
    ·rw[if_neg z] at e
     rw[decide_eq_false (show¬W1<=40 by omega),Bool.false_and,Bool.false_and]
   ·have e:¬(40:Int)<(if W2>W1 then W2 else W1):=fun z=>e (decide_eq_true z);have b1:W1<=40:=by split at e<;>omega
    have b2:W2<=40:=by split at e<;>omega
    rw[decide_eq_true b1,decide_eq_true b2] at q
    refine⟨_,rfl,_,rfl,a,.later x y,rfl,⟨p1,p2,s02 _ _ ha,t1.same s02,t2.same s02⟩,hd18,hc,nn,fun r ds us H3 hr3 s3 h3 c3 pu n3=>⟨_,ds.length,rfl,.inl ⟨_,SqL.of h3,by rw[List.length_map]⟩,_,_,rfl,q _ H3 (s02.trans s3) ?_⟩⟩;have l1:=c3.len;have l2:=pu.length_eq;rw[Bool.true_and,Bool.true_and];generalize hM:(if W2>W1 then W2 else W1)=M at e⊢
    by_cases z:(ZX (.later x y)).length<=40
    ·rw[decide_eq_true z];exact decide_eq_true (by split<;>omega)
    ·rw[decide_eq_false z];exact decide_eq_false (by split<;>omega)
  |earlier x y=>
   obtain⟨p1,p2,ha,t1,t2⟩:=ht;have hdeep:max x.deep y.deep+1<n+1:=hd;have hd18:max x.deep y.deep+1<18:=hd2;obtain⟨o1,o2⟩:=Zbq hc;refine ixT rfl (SqT.of ha) rfl ⟨(show 2<=sizeLine from sl),fun L hL=>⟨L,_,rfl,.inl (SqL.of Zd),rfl,rfl,_,rfl, ?_⟩⟩;rw[ZeG];refine ZaC ?_;have s0:ZK H (upd H L (.lst [.str (Str.ofString "never"),.str (Str.ofString "after")])):=Zq hL;generalize upd H L (.lst [.str (Str.ofString "never"),.str (Str.ofString "after")])=H0 at s0
   refine ixT rfl (SqT.of (s0 _ _ ha)) rfl ⟨p1,x,rfl,t1.same s0,by omega,by omega,o1,nn.1,fun W1 H1 s1 e1=> ?_⟩;have s01:=s0.trans s1;refine ixT rfl (SqT.of (s01 _ _ ha)) rfl ⟨p2,y,rfl,t2.same s01,by omega,by omega,o2,nn.2,fun W2 H2 s2 e2=> ?_⟩;have s02:=s01.trans s2;refine⟨_,_,rfl, ?_⟩;rw[Zbu,<-e1,<-e2] at q
   refine⟨_,rfl,_,_,rfl,rfl,_,rfl,ZaK (fun e=>⟨_,rfl,q _ H2 s02 ?_⟩) (fun e=> ?_)⟩
   ·have e:(40:Int)<(if W2>W1 then W2 else W1):=of_decide_eq_true e;rw[decide_eq_false (by omega)]
    by_cases z:W2>W1
    ·rw[if_pos z] at e
     rw[decide_eq_false (show¬W2<=40 by omega),Bool.and_false,Bool.false_and]
    ·rw[if_neg z] at e
     rw[decide_eq_false (show¬W1<=40 by omega),Bool.false_and,Bool.false_and]
   ·have e:¬(40:Int)<(if W2>W1 then W2 else W1):=fun z=>e (decide_eq_true z);have b1:W1<=40:=by split at e<;>omega
    have b2:W2<=40:=by split at e<;>omega
    rw[decide_eq_true b1,decide_eq_true b2] at q
    refine⟨_,rfl,_,rfl,a,.earlier x y,rfl,⟨p1,p2,s02 _ _ ha,t1.same s02,t2.same s02⟩,hd18,hc,nn,fun r ds us H3 hr3 s3 h3 c3 pu n3=>⟨_,ds.length,rfl,.inl ⟨_,SqL.of h3,by rw[List.length_map]⟩,_,_,rfl,q _ H3 (s02.trans s3) ?_⟩⟩;have l1:=c3.len;have l2:=pu.length_eq;rw[Bool.true_and,Bool.true_and];generalize hM:(if W2>W1 then W2 else W1)=M at e⊢
    by_cases z:(ZX (.earlier x y)).length<=40
    ·rw[decide_eq_true z];exact decide_eq_true (by split<;>omega)
    ·rw[decide_eq_false z];exact decide_eq_false (by split<;>omega)
theorem ZaZ:ZV ["_law_many","_law_begin","_law_names_by","_law_by","_law_tree","_law_k"] ["_law_many","_law_begin","_law_names_by","_law_by"] (Zz Zdk):=⟨rfl,rfl,rfl,by decide+kernel,rfl,by decide+kernel,by decide+kernel⟩
theorem ZhX{f:Addr}{fd:FuncData}(F:Fun K "_law_row" "_law_row" Zdk f fd)(T:Txt K mg t_MOST_CLAUSES Zm Zg Zh Zb Zt ZM Zv ZC Zc ZD Zw Zu Zx Zy ZF ZP)(Yp:Cal P w K mg base CX0 1 "_law_name_by" ["_law_cell","_law_k"] Xm):YD P w K mg base CX0 2 f fd ["_law_many","_law_begin","_law_names_by","_law_by"] Zcd:=by
 refine F.ok ZaZ (fun vs H Q E h=> ?_) (fun cdv A outer s H vs Q E hr h=> ?_)
 ·obtain⟨m,b,n,y,rfl,_⟩:=h
  rfl
 ·obtain⟨m,b,n,y,rfl,m1,m8,q⟩:=h;have l5:=Jr;have day:∀z:Int,0<=z%30/\z%30<10^40:=fun z=>⟨Int.emod_nonneg _ (by decide),Int.lt_trans (Int.emod_lt_of_pos z (show(0:Int)<30 by decide)) (by decide+kernel)⟩
  refine⟨_,(Zj (ZL (i:=4) ZaZ.nd rfl (Or.inl rfl) (JB (Za Yt (Za (Yc Yp (hr.mono (by omega)) rfl Yh (Za (pv 2) (Za (pv 1) Ze))) (Za (ZJ YC (pv 3) Zn) Ze))))) (Zj (JX PassesOwn.never rfl (Ziz rfl T.z_range (Za Zn (Za (pv 0) Ze))) (YB (i:=5) ZaZ.nd rfl (Or.inl rfl)) (Zr (ZL (i:=4) ZaZ.nd rfl (Or.inl rfl) (JB (Za Yt (Za (pv 4) (Za (JB (Za Yt (Za (Yc Yp (hr.mono (by omega)) rfl Yh (Za (pv 2) (Za (ZJ Jz (pv 1) (pv 5)) Ze))) (Za (ZJ YC (ZJ Xe (pv 3) (ZJ Jz (pv 5) Zn)) Zn) Ze)))) Ze))))))) (Zr (ZQ (pv 4))))), ?_⟩
  refine⟨_,rfl,_,rfl,n,b,rfl,fun k H1 nk s1=>vI rfl (by show(0:Int)<30;decide) ⟨(show 3<=sizeLine from sl),fun p hp=> ?_⟩⟩
  have s2:=s1.trans (Zq (o:=.tup [.str (Str.ofString "after"),.str k,.int (y%30)]) hp);have h2:upd H1 p (.tup [.str (Str.ofString "after"),.str k,.int (y%30)]) p=some (.tup [.str (Str.ofString "after"),.str k,.int (y%30)]):=Zd;generalize upd H1 p (.tup [.str (Str.ofString "after"),.str k,.int (y%30)])=H2 at s2 h2
  refine⟨_,rfl,1,(m:Int),rfl,⟨by decide,by decide,by omega,by omega⟩,ZeY (fun i σ H'=>∃(p:Addr) (t:Tr) (v5:Option V),σ=[some (.int (m:Int)),some (.int b),some (.int n),some (.int y),some (.ref p),v5]/\ZK H H'/\Yw H' t p/\t.cnt=i+1/\t.wd=i+1/\t.good/\t.deep<=i) ⟨p,.after k (y%30),none,rfl,s2,h2,rfl,rfl,⟨nk,day y⟩,Nat.le_refl _⟩ ?_ ?_⟩
  ·rintro i σ H3 hi ⟨p3,t,v5,rfl,s3,tt,c1,c2,gd,dp⟩;refine⟨_,rfl,_,rfl,_,rfl,_,rfl,_,_,rfl,rfl,n,_,rfl,fun k H4 nk s4=> ?_⟩;refine⟨_,rfl,_,rfl,_,_,rfl,rfl,_,_,rfl,rfl,⟨by omega,by omega⟩,_,_,rfl,rfl,(by show(0:Int)<30;decide),(show 3<=sizeLine from sl),fun p4 hp4=>⟨(show 3<=sizeLine from sl),fun p5 hp5=> ?_⟩⟩
   have s5:∀o:HO,ZK H3 (upd _ p5 o):=fun o=>s4.trans ((Zq hp4).trans (Zq hp5));refine⟨p5,.earlier t (.after k _),_,rfl,s3.trans (s5 _),⟨p3,p4,Zd,tt.same (s5 _),Zq hp5 _ _ Zd⟩, ?_, ?_,⟨gd,nk,day _⟩, ?_⟩
   ·show t.cnt+1=i+1+1;omega
   ·show t.wd+1=i+1+1;omega
   ·show max t.deep 0+1<=i+1;omega
  ·rintro σ H3 ⟨p3,t,v5,rfl,s3,tt,c1,c2,gd,dp⟩;have em:((m:Int)-1).toNat=m-1:=by omega
   rw[em] at c1 c2 dp
   exact⟨_,rfl,q p3 t H3 s3 tt (by omega) (by omega) gd (by omega)⟩
theorem Jw:ZV ["_law_by","_law_names_by","_law_many","_law_size","_law_other","_law_tree"] ["_law_by","_law_names_by"] (Zz Zc7):=⟨rfl,rfl,rfl,by decide+kernel,rfl,by decide+kernel,by decide+kernel⟩
theorem Zh6{f:Addr}{fd:FuncData}(F:Fun K "_law_wide" "_law_wide" Zc7 f fd)(T:Txt K mg t_MOST_CLAUSES Zm Zg Zh Zb Zt ZM Zv ZC Zc ZD Zw Zu Zx Zy ZF ZP)(Yp:Cal P w K mg base CX0 1 "_law_name_by" ["_law_cell","_law_k"] Xm)(ZbR:Cal P w K mg base CX0 2 "_law_row" ["_law_many","_law_begin","_law_names_by","_law_by"] Zcd):YD P w K mg base CX0 3 f fd ["_law_by","_law_names_by"] Zbs:=by
 refine F.ok Jw (fun vs H Q E h=> ?_) (fun cdv A outer s H vs Q E hr h=> ?_)
 ·obtain⟨y,n,rfl,_⟩:=h
  rfl
 ·obtain⟨y,n,rfl,q⟩:=h;have l5:=Jr;have a0:=Int.emod_nonneg y (show(5:Int)≠0 by decide);have a1:=Int.emod_lt_of_pos y (show(0:Int)<5 by decide);have b0:=Int.emod_nonneg (y/5) (show(6:Int)≠0 by decide);have b1:=Int.emod_lt_of_pos (y/5) (show(0:Int)<6 by decide);obtain⟨m,em⟩:∃m:Nat,4+y%5=(m:Int):=⟨(4+y%5).toNat,by omega⟩
  obtain⟨z,ez⟩:∃z:Nat,(if 14-(4+y%5)<3+y/5%6 then 14-(4+y%5) else 3+y/5%6)=(z:Int):=⟨(if 14-(4+y%5)<3+y/5%6 then 14-(4+y%5) else 3+y/5%6).toNat,by split<;>omega⟩
  have mz:4<=m/\m<=8/\1<=z/\z<=8/\z+m<=14:=by split at ez<;>omega
  refine⟨_,(Zj (ZL (i:=2) Jw.nd rfl (Or.inl rfl) (ZJ Jz Zn (ZJ YC (pv 0) Zn))) (Zj (ZL (i:=3) Jw.nd rfl (Or.inl rfl) (ZG (ZiB rfl) (by rfl) T.z_min ZjD (Za (ZJ Jz Zn (ZJ YC (ZJ Xe (pv 0) Zn) Zn)) (Za (ZJ Zm8 Zn (pv 2)) Ze)))) (Zj (ZL (i:=4) Jw.nd rfl (Or.inl rfl) (Yc ZbR (hr.mono (by omega)) rfl Yh (Za (pv 3) (Za (ZJ ZbC (pv 2) (Jd Zaz (by rfl) T.z_int Zed (Za (Xz ZeZ (ZJ YC (pv 0) Zn) Zn (Yj _)) Ze))) (Za (pv 1) (Za (ZJ Xe (pv 0) Zn) Ze)))))) (Zj (ZL (i:=5) Jw.nd rfl (Or.inl rfl) (JB (Za Yt (Za (Yc ZbR (hr.mono (by omega)) rfl Yh (Za (pv 2) (Za Zn (Za (pv 1) (Za (pv 0) Ze))))) (Za (pv 4) Ze))))) (Zj (YM (Ym XJ (ZJ YC (ZJ Xe (pv 0) Zn) Zn) Zn (Yj _)) (Zr (ZQ (JB (Za Yt (Za (pv 5) (Za (JB (Za Yt (Za (Yc Yp (hr.mono (by omega)) rfl Yh (Za (pv 1) (Za (ZJ ZbC Zn (Jd Zaz (by rfl) T.z_int Zed (Za (Xz XJ (ZJ YC (ZJ Xe (pv 0) Zn) Zn) Zn (Yj _)) Ze))) Ze))) (Za Zn Ze)))) Ze)))))) Yi) (Zr (ZQ (pv 5)))))))), ?_⟩
  refine⟨_,rfl,_,_,rfl,rfl,(by show(0:Int)<5;decide),_,_,rfl,rfl, ?_⟩
  refine⟨_,rfl,_,_,rfl,rfl,⟨by decide,by decide⟩,_,_,rfl,rfl,(by show(0:Int)<6;decide),_,_,rfl,rfl,_,rfl,_,_,rfl,rfl,_,_,rfl, ?_⟩
  refine⟨_,rfl,_,rfl,_,rfl,_,_,rfl,rfl,(by show(0:Int)<3;decide),_,_,rfl,rfl,.inr ⟨_,rfl,_,_,rfl,rfl,IntMulOk.of_right (intBits_le_64 (by split<;>decide) (by split<;>decide)),_,rfl,_,rfl,_,_,rfl,rfl,⟨by decide,by decide⟩, ?_⟩⟩
  refine⟨z,_,n,_,congrArg (fun v=>[V.int v,_,_,_]) ez,by omega,by omega,fun po t1 H1 s1 tt1 c1 w1 g1 d1=> ?_⟩;refine⟨_,rfl,_,rfl,_,rfl,m,_,n,_,congrArg (fun v=>[V.int v,_,_,_]) em,by omega,by omega,fun pm t2 H2 s2 tt2 c2 w2 g2 d2=>⟨_,rfl,(show 3<=sizeLine from sl),fun p hp=> ?_⟩⟩;have s3:=s1.trans (s2.trans (Zq (o:=.tup [.str (Str.ofString "later"),.ref pm,.ref po]) hp));have tt3:Yw (upd H2 p (.tup [.str (Str.ofString "later"),.ref pm,.ref po])) (.later t2 t1) p:=⟨pm,po,Zd,tt2.same (Zq hp),tt1.same (s2.trans (Zq hp))⟩
  generalize upd H2 p (.tup [.str (Str.ofString "later"),.ref pm,.ref po])=H3 at s3 tt3
  have prod:t2.wd*t1.wd<=8*8:=Nat.mul_le_mul (by omega) (by omega);refine vI rfl ⟨by decide,by decide⟩ ⟨_,_,rfl,rfl,(by show(0:Int)<3;decide),rfl,_,rfl,ZaK (fun _=> ?_) (fun _=>⟨_,rfl,q p (.later t2 t1) H3 s3 tt3 ⟨?_, ?_⟩ ⟨g2,g1⟩ ?_⟩)⟩
  ·refine⟨_,rfl,_,rfl,_,rfl,_,_,rfl,rfl,⟨by decide,by decide⟩,_,_,rfl,rfl,(by show(0:Int)<2;decide),rfl,.inr ⟨_,rfl,_,_,rfl,rfl,IntMulOk.of_right (intBits_le_64 (by split<;>decide) (by split<;>decide)),n,_,rfl,fun k H4 nk s4=>⟨(show 3<=sizeLine from sl),fun p4 hp4=>⟨(show 3<=sizeLine from sl),fun p5 hp5=> ?_⟩⟩⟩⟩
   have s5:∀o:HO,ZK H3 (upd _ p5 o):=fun o=>s4.trans ((Zq hp4).trans (Zq hp5));refine q p5 (.earlier (.later t2 t1) (.after k 0)) _ (s3.trans (s5 _)) ⟨p,p4,Zd,tt3.same (s5 _),Zq hp5 _ _ Zd⟩ ⟨?_, ?_⟩ ⟨⟨g2,g1⟩,nk,by decide,by decide+kernel⟩ ?_
   ·show t2.wd*t1.wd+1<=120;omega
   ·show t2.cnt+t1.cnt+1<=31;omega
   ·show max (max t2.deep t1.deep+1) 0+1<16;omega
  ·show t2.wd*t1.wd<=120;omega
  ·show t2.cnt+t1.cnt<=31;omega
  ·show max t2.deep t1.deep+1<16;omega
theorem YF:ZV ["_law_tree","_law_term","_law_kept","_law_found","refusal","_law_some"] ["_law_tree"] (Zz Zbo):=⟨rfl,rfl,rfl,by decide+kernel,rfl,by decide+kernel,by decide+kernel⟩
theorem Zg7{f:Addr}{fd:FuncData}(F:Fun K "_law_holds" "_law_holds" Zbo f fd)(T:Txt K mg t_MOST_CLAUSES Zm Zg Zh Zb Zt ZM Zv ZC Zc ZD Zw Zu Zx Zy ZF ZP)(Xa:Cal P w K mg base CX0 21 "_law_least" ["_law_tree"] (Xr 18))(Xp:Cal P w K mg base CX0 22 "_law_made" ["_law_tree"] (Js Zm Zg Zh Zb 18))(Jm:Cal P w K mg base CX0 25 "_law_refused" ["_law_one","_law_other"] (Za7 Zm Zg Zh Zb Zc))(Xu:Cal P w K mg base CX0 40 "_law_widest" ["_law_tree"] (Xy 18))(XD:Cal P w K mg base (CXr P w) 23 "least" ["term"] (ZaG Zm Zg Zh Zb Zc 18))(ZaW:Cal P w K mg base CX0 1 "never" [] (ZcP Zm Zg Zh Zb)):YD P w K mg base CX0 41 f fd ["_law_tree"] (ZaV Zm Zg Zh Zb Zc):=by
 refine F.ok YF (fun vs H Q E h=> ?_) (fun cdv A outer s H vs Q E hr h=> ?_)
 ·obtain⟨a,t,rfl,_⟩:=h
  rfl
 ·obtain⟨a,t,rfl,ht,hd,hc,nn,q⟩:=h;have l5:=Jr;refine⟨_,(Zj (ZL (i:=1) YF.nd rfl (Or.inl rfl) (Yc Xp (hr.mono (by omega)) rfl Yh (Za (pv 0) Ze))) (Zj (ZL (i:=2) YF.nd rfl (Or.inl rfl) Zd0) (Zj (ZL (i:=3) YF.nd rfl (Or.inl rfl) Zd0) (Zj (Zgy (CX:=CX0) (iy:=3) (i:=4) (by rfl) XD (hr.mono (by omega)) (by rfl) (Za (pv 1) Ze) YF.nd (by rfl) (by rfl) (by rfl) T.mg_HallError (by rfl) (by rfl) (fun _=>(Zr (ZL (i:=2) YF.nd rfl (Or.inl rfl) (pv 4))))) (Zj (YM (Ym ZlJ (Yc Xu (hr.mono (by omega)) rfl Yh (Za (pv 0) Ze)) Zn (Yj _)) (Zr (ZQ (Zd2 (Xz Zmb (pv 2) Zd0 (Yj _)) (Zd1 (Xz XJ (ZG XM (by rfl) T.z_len Zai (Za (pv 3) Ze)) (ZG XM (by rfl) T.z_len Zai (Za (Yc Xa (hr.mono (by omega)) rfl Yh (Za (pv 0) Ze)) Ze)) (Yj _)))))) Yi) (Zj (YM (PW.pt (ZlH (Ze8 (Zb6 (Yc Jm (hr.mono (by omega)) rfl Yh (Za (pv 1) (Za (Zhk ZaW (hr.mono (by omega)) rfl Yh) Ze))))) (Zjj (Ze8 (Zb6 (Yc Jm (hr.mono (by omega)) rfl Yh (Za (Zhk ZaW (hr.mono (by omega)) rfl Yh) (Za (pv 1) Ze)))))))) (Zr (ZQ Zgh)) Yi) (Zj (ZL (i:=5) YF.nd rfl (Or.inl rfl) (Xf (Za (ZG Yg (by rfl) T.z_isinstance ZS (Za (pv 2) (Za (Xd (v:=.ref ZM) rfl T.mg_NoDay rfl) Ze))) (Za (ZG Yg (by rfl) T.z_isinstance ZS (Za (pv 2) (Za (Xd (v:=.ref Zv) rfl T.mg_NoLength rfl) Ze))) (Za (ZG Yg (by rfl) T.z_isinstance ZS (Za (pv 2) (Za (Xd (v:=.ref ZC) rfl T.mg_NoTerm rfl) Ze))) (Za (ZG Yg (by rfl) T.z_isinstance ZS (Za (pv 2) (Za (Xd (v:=.ref ZD) rfl T.mg_NoBook rfl) Ze))) Ze)))))) (Zj (ZL (i:=5) YF.nd rfl (Or.inl rfl) (ZJ Zcp (pv 5) (Xf (Za (ZG Yg (by rfl) T.z_isinstance ZS (Za (pv 2) (Za (Xd (v:=.ref Zw) rfl T.mg_PutTwice rfl) Ze))) (Za (ZG Yg (by rfl) T.z_isinstance ZS (Za (pv 2) (Za (Xd (v:=.ref Zu) rfl T.mg_HeldTwice rfl) Ze))) (Za (ZG Yg (by rfl) T.z_isinstance ZS (Za (pv 2) (Za (Xd (v:=.ref Zx) rfl T.mg_NoSeries rfl) Ze))) Ze)))))) (Zj (ZL (i:=5) YF.nd rfl (Or.inl rfl) (ZJ Zcp (pv 5) (Xf (Za (ZG Yg (by rfl) T.z_isinstance ZS (Za (pv 2) (Za (Xd (v:=.ref Zy) rfl T.mg_RunBack rfl) Ze))) (Za (ZG Yg (by rfl) T.z_isinstance ZS (Za (pv 2) (Za (Xd (v:=.ref ZF) rfl T.mg_Unlike rfl) Ze))) (Za (ZG Yg (by rfl) T.z_isinstance ZS (Za (pv 2) (Za (Xd (v:=.ref ZP) rfl T.mg_NoRow rfl) Ze))) Ze)))))) (Zr (ZQ (Zd2 (ZG Yg (by rfl) T.z_isinstance ZS (Za (pv 2) (Za (Xd (v:=.ref Zc) rfl T.mg_TooWide rfl) Ze))) (Zd2 (ZG Yg (by rfl) T.z_isinstance ZS (Za (pv 2) (Za (ZkO (v:=.ty "ValueError") rfl T.z_ValueError ZeP rfl) Ze))) (Zd1 (Xz XJ (ZbT PySem.F.plainAttrs_list PySem.F.slot_list_count PySem.F.type_list_count Zkn (pv 5) (Za Zgh Ze)) Zn (Yj _)))))))))))))))), ?_⟩
  refine⟨_,rfl,a,t,rfl,ht,by omega,fun m H1 s1 tm=> ?_⟩;refine⟨_,rfl,m,t,rfl,tm,by omega,hc,fun nw r ds H2 hr2 s2 h2 c2 n2=> ?_,fun nw H2 s2 e he=>⟨_,rfl,T.xm_h, ?_⟩⟩
  ·have s02:=s1.trans s2;refine⟨_,rfl,a,t,rfl,ht.same s02,by omega,by omega,hc,nn,fun W H3 s3 e3=> ?_⟩;rw[nw] at e3
   refine⟨_,_,rfl,rfl,_,rfl, ?_⟩;rw[e3];refine JP ?_;refine⟨_,rfl,rfl,_,rfl,JP ⟨_,rfl,_,ds.length,rfl,.inl ⟨_,SqL.of (s3 _ _ h2),by rw[List.length_map]⟩,_,rfl,a,t,rfl,ht.same (s02.trans s3),by omega,hc,nn,fun r4 ds4 us H4 hr4 s4 h4 c4 pu n4=>⟨_,ds4.length,rfl,.inl ⟨_,SqL.of h4,by rw[List.length_map]⟩,rfl, ?_⟩⟩⟩;have l2:=c2.len;have l4:=c4.len;have lp:=pu.length_eq;have qq:=q H4 (s02.trans (s3.trans s4))
   rw[show ds.length=ds4.length by omega];show Q (V.bl (decide (V.int (ds4.length:Int)=V.int (ds4.length:Int)))) H4;rw[decide_eq_true rfl];exact qq
  ·have s3:=s2.trans (Zq (o:=XO e Zc none) he);have he3:upd H2 e (XO e Zc none) e=some (XO e Zc none):=Zd;generalize upd H2 e (XO e Zc none)=H3 at s3 he3
   have s03:=s1.trans s3;refine⟨_,rfl, ?_⟩;refine⟨_,rfl,a,t,rfl,ht.same s03,by omega,by omega,hc,nn,fun W H4 s4 e4=> ?_⟩;rw[nw] at e4
   refine⟨_,_,rfl,rfl,_,rfl, ?_⟩;rw[e4];refine ZaC ?_;refine⟨_,rfl,rfl,fun pn H5 s5 hn tn=> ?_⟩;unfold ZkX;have okn:okT .never:=⟨by decide,by decide⟩
   refine⟨m,pn,t,.never,rfl,tm.same (s3.trans (s4.trans s5)),tn,by omega,by decide,hc,okn,.inl nw,fun H6 s6=>⟨true,rfl,ZaC ?_⟩⟩;refine⟨rfl,fun pn2 H7 s7 hn2 tn2=>⟨_,rfl,pn2,m,.never,t,rfl,tn2,tm.same (s3.trans (s4.trans (s5.trans (s6.trans s7)))),by decide,by omega,okn,hc,.inr nw,fun H8 s8=>⟨true,rfl,ZaC ?_⟩⟩⟩;have s38:=s4.trans (s5.trans (s6.trans (s7.trans s8)));have s08:=s03.trans s38;have e8:=s38 _ _ he3
   refine⟨_,rfl,e,_,_,_,false,rfl,e8,T.xc_TooWide,rfl,T.i_w_NoDay,_,rfl,e,_,_,_,false,rfl,e8,T.xc_TooWide,rfl,T.i_w_NoLength,_,rfl,e,_,_,_,false,rfl,e8,T.xc_TooWide,rfl,T.i_w_NoTerm,_,rfl,e,_,_,_,false,rfl,e8,T.xc_TooWide,rfl,T.i_w_NoBook,show 4<=sizeLine from sl,fun p1 h1=> ?_⟩;have u1:=Zq h1 (o:=.lst [.bl false,.bl false,.bl false,.bl false]);have g1:upd H8 p1 (.lst [.bl false,.bl false,.bl false,.bl false]) p1=some (.lst [.bl false,.bl false,.bl false,.bl false]):=Zd
   generalize upd H8 p1 (.lst [.bl false,.bl false,.bl false,.bl false])=K1 at u1 g1⊢
   have he1:=u1 _ _ e8;refine⟨_,rfl,_,rfl,e,_,_,_,false,rfl,he1,T.xc_TooWide,rfl,T.i_w_PutTwice,_,rfl,e,_,_,_,false,rfl,he1,T.xc_TooWide,rfl,T.i_w_HeldTwice,_,rfl,e,_,_,_,false,rfl,he1,T.xc_TooWide,rfl,T.i_w_NoSeries,show 3<=sizeLine from sl,fun t0 ht0=>⟨p1,t0,_,_,rfl,rfl,SqL.of (Zq ht0 _ _ g1),SqL.of Zd,(by show 7<=sizeLine;omega),fun p2 h2=> ?_⟩⟩
   have u2:=u1.trans ((Zq ht0 (o:=.lst [.bl false,.bl false,.bl false])).trans (Zq h2 (o:=.lst ([.bl false,.bl false,.bl false,.bl false]++[.bl false,.bl false,.bl false]))));have g2:upd (upd K1 t0 (.lst [.bl false,.bl false,.bl false])) p2 (.lst ([.bl false,.bl false,.bl false,.bl false]++[.bl false,.bl false,.bl false])) p2=some (.lst [.bl false,.bl false,.bl false,.bl false,.bl false,.bl false,.bl false]):=Zd
   generalize upd (upd K1 t0 (.lst [.bl false,.bl false,.bl false])) p2 (.lst ([.bl false,.bl false,.bl false,.bl false]++[.bl false,.bl false,.bl false]))=K2 at u2 g2⊢
   have he2:=u2 _ _ e8;refine⟨_,rfl,_,rfl,e,_,_,_,false,rfl,he2,T.xc_TooWide,rfl,T.i_w_RunBack,_,rfl,e,_,_,_,false,rfl,he2,T.xc_TooWide,rfl,T.i_w_Unlike,_,rfl,e,_,_,_,false,rfl,he2,T.xc_TooWide,rfl,T.i_w_NoRow,show 3<=sizeLine from sl,fun t1 ht1=>⟨p2,t1,_,_,rfl,rfl,SqL.of (Zq ht1 _ _ g2),SqL.of Zd,(by show 10<=sizeLine;omega),fun p3 h3=> ?_⟩⟩
   have u3:=u2.trans ((Zq ht1 (o:=.lst [.bl false,.bl false,.bl false])).trans (Zq h3 (o:=.lst ([.bl false,.bl false,.bl false,.bl false,.bl false,.bl false,.bl false]++[.bl false,.bl false,.bl false]))));have g3:upd (upd K2 t1 (.lst [.bl false,.bl false,.bl false])) p3 (.lst ([.bl false,.bl false,.bl false,.bl false,.bl false,.bl false,.bl false]++[.bl false,.bl false,.bl false])) p3=some (.lst [.bl false,.bl false,.bl false,.bl false,.bl false,.bl false,.bl false,.bl false,.bl false,.bl false]):=Zd
   generalize upd (upd K2 t1 (.lst [.bl false,.bl false,.bl false])) p3 (.lst ([.bl false,.bl false,.bl false,.bl false,.bl false,.bl false,.bl false]++[.bl false,.bl false,.bl false]))=K3 at u3 g3⊢
   have he4:=u3 _ _ e8;refine⟨_,rfl,e,_,_,_,true,rfl,he4,T.xc_TooWide,rfl,T.i_w_TooWide,true,rfl,JP ⟨_,rfl,e,_,_,_,true,rfl,he4,T.xc_TooWide,rfl,T.i_w_ve,true,rfl,JP ?_⟩⟩;refine⟨_,rfl,.inl ⟨rfl,_,SqL.of g3⟩,p3,[false,false,false,false,false,false,false,false,false,false],rfl,rfl,g3,rfl, ?_⟩;exact q K3 (s08.trans u3)
theorem ZkM(ns:List Int)(lo hi:Option Int):∃ms:List Int,ZiH (ns.map V.int) lo hi=ms.map V.int/\ms.length<=ns.length:=by
 unfold ZiH;refine⟨(ns.drop (HT.sIx (ns.map V.int).length 0 lo)).take (HT.sIx (ns.map V.int).length (ns.map V.int).length hi-HT.sIx (ns.map V.int).length 0 lo), ?_, ?_⟩
 ·rw[List.map_take,List.map_drop]
 ·rw[List.length_take,List.length_drop];omega
theorem ZeH:ZV ["_law_script","_law_names_by","_law_by","_law_tree"] ["_law_script"] (Zz ZcO):=⟨rfl,rfl,rfl,by decide+kernel,rfl,by decide+kernel,by decide+kernel⟩
theorem ZmV{f:Addr}{fd:FuncData}(F:Fun K "law" "law" ZcO f fd)(T:Txt K mg t_MOST_CLAUSES Zm Zg Zh Zb Zt ZM Zv ZC Zc ZD Zw Zu Zx Zy ZF ZP)(Jo:Cal P w K mg base CX0 1 "_law_cell_at" ["_law_script","_law_k"] (Za9 K))(Jx:Cal P w K mg base CX0 41 "_law_holds" ["_law_tree"] (ZaV Zm Zg Zh Zb Zc))(Zat:Cal P w K mg base CX0 2 "_law_tree_by" ["_law_cells","_law_names_by","_law_most"] Za8)(Zcg:Cal P w K mg base CX0 3 "_law_wide" ["_law_by","_law_names_by"] Zbs):YD P w K mg base CX0 42 f fd ["_law_script"] (ZjE K):=by
 refine F.ok ZeH (fun vs H Q E h=> ?_) (fun cdv A outer s H vs Q E hr h=> ?_)
 ·obtain⟨a,ns,rfl,_⟩:=h
  rfl
 ·obtain⟨a,ns,rfl,hS,hlen,_,fin⟩:=h;have l5:=Jr;refine⟨_,(Zj (ZL (i:=1) ZeH.nd rfl (Or.inl rfl) (Yc Jo (hr.mono (by omega)) rfl Yh (Za (pv 0) (Za Zn Ze)))) (Zj (ZL (i:=2) ZeH.nd rfl (Or.inl rfl) (ZG Zjq (by rfl) T.z_abs Zmg (Za (Yc Jo (hr.mono (by omega)) rfl Yh (Za (pv 0) (Za Zn Ze))) Ze))) (Zj (ZL (i:=3) ZeH.nd rfl (Or.inl rfl) (Yc Zat (hr.mono (by omega)) rfl Yh (Za (Zjv Zl2 (pv 0) (Zi3 Zn) (Zi3 Zn)) (Za (pv 1) (Za Zn Ze))))) (Zj (YM (Ym XJ (ZJ YC (pv 2) Zn) Zn (Yj _)) (Zr (ZL (i:=3) ZeH.nd rfl (Or.inl rfl) (Yc Zcg (hr.mono (by omega)) rfl Yh (Za (ZJ Xe (pv 2) Zn) (Za (pv 1) Ze))))) Yi) (Zj (YM (Ze8 (Zb6 (Yc Jx (hr.mono (by omega)) rfl Yh (Za (pv 3) Ze)))) (Zr (ZQ Zgh)) Yi) (Zr (ZQ (ZmX (Xz Zf4 (YH YJ (pv 3) Zn (fun _ _=>rfl)) (Xf (Za Yt (Za Yt Ze))) rfl) (Zd1 (Zd2 (Yc Jx (hr.mono (by omega)) rfl Yh (Za (YH YJ (pv 3) Zn (fun _ _=>rfl)) Ze)) (Zd1 (Yc Jx (hr.mono (by omega)) rfl Yh (Za (YH YJ (pv 3) Zn (fun _ _=>rfl)) Ze))))))))))))), ?_⟩
  refine⟨_,rfl,a,ns,0,rfl,hS,fun c0 H1 s1=> ?_⟩;refine⟨_,rfl,a,ns,1,rfl,s1.seq hS,fun c1 H2 s2=>⟨_,rfl, ?_⟩⟩;generalize (if c1<0 then-c1 else c1)=by_;have s02:=s1.trans s2;obtain⟨ms,em,lm⟩:=ZkM ns (some 2) (some 42);refine⟨_,rfl,_,rfl,_,rfl,a,_,rfl,s02.seq hS,fun p hp=>⟨_,rfl,p,ms,c0,rfl,by rw[Zd,em],by omega,fun tp t0 H3 s3 tt0 hc gd=> ?_⟩⟩;have dp:=t0.deep_cnt;have s03:=s02.trans ((Zq hp).trans s3)
  refine(fun(rest:∀(tp:Addr) (t:Tr) (Hx:Hp),ZK H3 Hx->Yw Hx t tp->okT t->t.good->t.deep<16->_)=>vI rfl (by show(0:Int)<2;decide) ⟨rfl,_,rfl,ZaK (fun _=>⟨_,rfl,_,_,rfl,rfl,⟨by decide,by decide⟩,_,rfl,_,_,rfl,fun p t Hx sx tx ok g d=>rest p t Hx sx tx ok g d⟩) (fun _=>rest tp t0 H3 (ZK.refl H3) tt0 (ZmO hc) gd (by omega))⟩) ?_
  intro tp t H4 s4 tt ok gd d;refine⟨_,rfl,tp,t,rfl,tt,by omega,ok,JR gd,fun H5 s5=>⟨true,rfl,ZaC ?_⟩⟩;have tt5:=tt.same s5;cases t with
  |never=>
   have ha:H5 tp=some _:=tt5;refine ixT rfl (SqT.of ha) rfl ⟨(show 2<=sizeLine from sl),fun L hL=>⟨L,_,rfl,.inl (SqL.of Zd),rfl,rfl,_,rfl, ?_⟩⟩;rw[Zh3];exact JP (fin _)
  |after k d=>
   have ha:H5 tp=some _:=tt5;refine ixT rfl (SqT.of ha) rfl ⟨(show 2<=sizeLine from sl),fun L hL=>⟨L,_,rfl,.inl (SqL.of Zd),rfl,rfl,_,rfl, ?_⟩⟩;rw[Zh4];exact JP (fin _)
  |later x y=>
   obtain⟨p1,p2,ha,t1,t2⟩:=tt5;obtain⟨o1,o2⟩:=Zdm ok;have hdeep:max x.deep y.deep+1<16:=d;refine ixT rfl (SqT.of ha) rfl ⟨(show 2<=sizeLine from sl),fun L hL=>⟨L,_,rfl,.inl (SqL.of Zd),rfl,rfl,_,rfl, ?_⟩⟩;rw[Zh5];refine ZaC ?_;have s6:=Zq (o:=.lst [.str (Str.ofString "never"),.str (Str.ofString "after")]) hL;generalize upd H5 L (.lst [.str (Str.ofString "never"),.str (Str.ofString "after")])=H6 at s6
   refine ixT rfl (SqT.of (s6 _ _ ha)) rfl ⟨p1,x,rfl,t1.same s6,by omega,o1,JR gd.1,fun H7 s7=>⟨_,rfl,JP ?_⟩⟩;exact ixT rfl (SqT.of (s7 _ _ (s6 _ _ ha))) rfl ⟨p2,y,rfl,t2.same (s6.trans s7),by omega,o2,JR gd.2,fun H8 s8=>fin _⟩
  |earlier x y=>
   obtain⟨p1,p2,ha,t1,t2⟩:=tt5;obtain⟨o1,o2⟩:=Zbq ok;have hdeep:max x.deep y.deep+1<16:=d;refine ixT rfl (SqT.of ha) rfl ⟨(show 2<=sizeLine from sl),fun L hL=>⟨L,_,rfl,.inl (SqL.of Zd),rfl,rfl,_,rfl, ?_⟩⟩;rw[ZeG];refine ZaC ?_;have s6:=Zq (o:=.lst [.str (Str.ofString "never"),.str (Str.ofString "after")]) hL;generalize upd H5 L (.lst [.str (Str.ofString "never"),.str (Str.ofString "after")])=H6 at s6
   refine ixT rfl (SqT.of (s6 _ _ ha)) rfl ⟨p1,x,rfl,t1.same s6,by omega,o1,JR gd.1,fun H7 s7=>⟨_,rfl,JP ?_⟩⟩;exact ixT rfl (SqT.of (s7 _ _ (s6 _ _ ha))) rfl ⟨p2,y,rfl,t2.same (s6.trans s7),by omega,o2,JR gd.2,fun H8 s8=>fin _⟩
end
def Gd(K:PySem.W.Frag)(x:Str)(st:Stmt):Prop:=∃A fd,PySem.W.nsIn K mainGlobals x=some (some (.ref A))/\Fun K x x st A fd
def Md(K:PySem.W.Frag)(C:Addr)(x q:Str)(st:Stmt):Prop:=∃A fd,PySem.W.findIn K (.ref C) x=some (some (.ref A))/\PySem.W.isFn K (.ref A)=true/\Fun K x q st A fd
theorem all_mk{l:PySem.W.OpenLaw}{w:World}{K:PySem.W.Frag}{h:Heap}{mg:Str->Option Value}{fa:Addr}{A_law:Addr}{oc_law kV_law dc_law pm_law cd_law ct_law:Value}{od_law an_law:Option Addr}{sl_law:Array (Option Value)}{Zm:Addr}{Zg:Addr}{Zh:Addr}{Zb:Addr}{Zt:Addr}{ZM:Addr}{Zv:Addr}{ZC:Addr}{Zc:Addr}{ZD:Addr}{Zw:Addr}{Zu:Addr}{Zx:Addr}{Zy:Addr}{ZF:Addr}{ZP:Addr}{t_MOST_CLAUSES:Tok}{N_TooWide:Addr}{nm_TooWide qn_TooWide:Str}{bs_TooWide sb_TooWide:List Value}{ZhY ab_TooWide:Bool}{sn_TooWide:List Str}{co_TooWide:Option Bool}{dd_TooWide:Option Addr}{k0_TooWide k1_TooWide k2_TooWide k3_TooWide k5_TooWide:Option Value}{nc_TooWide:Value}{nd_TooWide:Option Addr}{ZeI:Array DictEntry}{np_TooWide:Nat}{nl_TooWide:Array (Option Value)}{N_HallError:Addr}{nm_HallError qn_HallError:Str}{bs_HallError sb_HallError:List Value}{Zg8 ab_HallError:Bool}{sn_HallError:List Str}{co_HallError:Option Bool}{dd_HallError:Option Addr}{k0_HallError k1_HallError k2_HallError k3_HallError k5_HallError:Option Value}{nc_HallError:Value}{nd_HallError:Option Addr}{ZcV:Array DictEntry}{np_HallError:Nat}{nl_HallError:Array (Option Value)}
  (X:K.In h)(G:h.Ns mainGlobals mg)(hfa:mg "law"=some (.ref fa))
  (Z0r:Gd K "never" ZfU)
  (Z0s:Gd K "after" ZfV)
  (Z0t:Gd K "later" ZfW)
  (Z02:Gd K "earlier" Zdf)
  (X8:Gd K "is_below" Zc4)
  (J6:Gd K "place_of" Zc5)
  (Z0l:Gd K "least" ZfX)
  (Z03:Gd K "thinned" Zdg)
  (Y7:Gd K "all_joined" ZaQ)
  (Z0h:Gd K "joined" Zep)
  (Z04:Gd K "parting" Zdh)
  (Z05:Gd K "only_in" Zdi)
  (Z06:Gd K "life_of" Zdj)
  (Z6:Gd K "_law_cell_at" Zak)
  (Z7:Gd K "_law_name_by" Zal)
  (Z0:Gd K "_law_length_by" JF)
  (Z8:Gd K "_law_tree_by" Zam)
  (X4:Gd K "_law_made" Zc6)
  (X6:Gd K "_law_below" Zbm)
  (Y8:Gd K "_law_fewest" ZaR)
  (Y0:Gd K "_law_least" Zbn)
  (Z5:Gd K "_law_widest" ZaS)
  (Z07:Gd K "_law_row" Zdk)
  (J7:Gd K "_law_wide" Zc7)
  (Z9:Gd K "_law_refused" Zan)
  (X7:Gd K "_law_holds" Zbo)
  (Z10:PySem.W.nsIn K mainGlobals "law"=some (some (.ref A_law)))
  (l_law:K.lookup A_law=some ⟨oc_law,od_law,.func (PySem.W.fnOf "law" "law" (ZbB ZcO) (Zac ZcO) (Zz ZcO) .none kV_law dc_law pm_law an_law cd_law ct_law),sl_law⟩)
  (cd_law':PySem.W.codeIn K cd_law "law"=true)
  (k_law:PySem.W.keepIn K (.ref A_law)=true)
  (Z0L:PySem.W.nsIn K mainGlobals "Never"=some (some (.ref Zm)))
  (Z0u:PySem.W.nsIn K mainGlobals "After"=some (some (.ref Zg)))
  (Z0v:PySem.W.nsIn K mainGlobals "Later"=some (some (.ref Zh)))
  (Z08:PySem.W.nsIn K mainGlobals "Earlier"=some (some (.ref Zb)))
  (Z09:PySem.W.nsIn K mainGlobals "HallError"=some (some (.ref Zt)))
  (Z0M:PySem.W.nsIn K mainGlobals "NoDay"=some (some (.ref ZM)))
  (Z0i:PySem.W.nsIn K mainGlobals "NoLength"=some (some (.ref Zv)))
  (Z0I:PySem.W.nsIn K mainGlobals "NoTerm"=some (some (.ref ZC)))
  (Z0a:PySem.W.nsIn K mainGlobals "TooWide"=some (some (.ref Zc)))
  (Z0J:PySem.W.nsIn K mainGlobals "NoBook"=some (some (.ref ZD)))
  (Z0j:PySem.W.nsIn K mainGlobals "PutTwice"=some (some (.ref Zw)))
  (Z0b:PySem.W.nsIn K mainGlobals "HeldTwice"=some (some (.ref Zu)))
  (Z0k:PySem.W.nsIn K mainGlobals "NoSeries"=some (some (.ref Zx)))
  (Z0m:PySem.W.nsIn K mainGlobals "RunBack"=some (some (.ref Zy)))
  (Z0K:PySem.W.nsIn K mainGlobals "Unlike"=some (some (.ref ZF)))
  (Z0N:PySem.W.nsIn K mainGlobals "NoRow"=some (some (.ref ZP)))
  (Z0w:PySem.W.plainGet K Zm Str.empty=true)
  (Z0x:PySem.W.hasDictIn K Zm=true)
  (Z0y:PySem.W.plainOver K Zm=true)
  (Z0z:PySem.W.findIn K (.ref Zm) "__setattr__"=some (some (.builtin "object.__setattr__")))
  (Z0O:PySem.W.makesIn K Zm=true)
  (Z0P:PySem.W.keepIn K (.ref Zm)=true)
  (in_Never:PySem.W.findIn K (.ref Zm) "__init__"=some (some (.builtin "object.__init__")))
  (Z0Q:PySem.W.findIn K (.ref Zm) "__class__"=some (some (.builtin "object.__class__")))
  (Z0R:PySem.W.mroIn K Zm (.type "object")=some true)
  (Z0A:PySem.W.plainGet K Zg Str.empty=true)
  (Z0B:PySem.W.hasDictIn K Zg=true)
  (Z0C:PySem.W.plainOver K Zg=true)
  (Z0D:PySem.W.findIn K (.ref Zg) "__setattr__"=some (some (.builtin "object.__setattr__")))
  (Z0S:PySem.W.makesIn K Zg=true)
  (Z0T:PySem.W.keepIn K (.ref Zg)=true)
  (Y9:Md K Zg "__init__" "After.__init__" ZaT)
  (Z00:PySem.W.findIn K (.ref Zg) "kind"=some none)
  (Z01:PySem.W.findIn K (.ref Zg) "days"=some none)
  (Z0U:PySem.W.findIn K (.ref Zg) "__class__"=some (some (.builtin "object.__class__")))
  (Z0V:PySem.W.mroIn K Zg (.type "object")=some true)
  (Z0E:PySem.W.plainGet K Zh Str.empty=true)
  (Z0F:PySem.W.hasDictIn K Zh=true)
  (Z0G:PySem.W.plainOver K Zh=true)
  (Z0H:PySem.W.findIn K (.ref Zh) "__setattr__"=some (some (.builtin "object.__setattr__")))
  (Z0W:PySem.W.makesIn K Zh=true)
  (Z0X:PySem.W.keepIn K (.ref Zh)=true)
  (X3:Md K Zh "__init__" "Pair.__init__" Zag)
  (Z0c:PySem.W.findIn K (.ref Zh) "one"=some none)
  (J8:PySem.W.findIn K (.ref Zh) "other"=some none)
  (Z0Y:PySem.W.findIn K (.ref Zh) "__class__"=some (some (.builtin "object.__class__")))
  (Z0Z:PySem.W.mroIn K Zh (.type "object")=some true)
  (Z0d:PySem.W.plainGet K Zb Str.empty=true)
  (Z0e:PySem.W.hasDictIn K Zb=true)
  (Z0f:PySem.W.plainOver K Zb=true)
  (Z0g:PySem.W.findIn K (.ref Zb) "__setattr__"=some (some (.builtin "object.__setattr__")))
  (Z0n:PySem.W.makesIn K Zb=true)
  (Z0o:PySem.W.keepIn K (.ref Zb)=true)
  (Z1:Md K Zb "__init__" "Pair.__init__" Zag)
  (J9:PySem.W.findIn K (.ref Zb) "one"=some none)
  (X5:PySem.W.findIn K (.ref Zb) "other"=some none)
  (Z0p:PySem.W.findIn K (.ref Zb) "__class__"=some (some (.builtin "object.__class__")))
  (Z0q:PySem.W.mroIn K Zb (.type "object")=some true)
  (hn:PySem.W.specialIn K (.builtin "object.__class__") "__get__"=some (some (.builtin "getset_descriptor.__get__")))
  (htk:PySem.W.takesIn K (.builtin "object.__class__")=some true)
  (g_MOST_CLAUSES:PySem.W.nsIn K mainGlobals "MOST_CLAUSES"=some (some (.int 40 t_MOST_CLAUSES)))
  (xl_TooWide:K.lookup Zc=some (excClassObj nm_TooWide qn_TooWide Zc N_TooWide bs_TooWide [.ref Zt,.type "ValueError",.type "Exception",.type "BaseException",.type "object"] ZhY sn_TooWide sb_TooWide ab_TooWide co_TooWide dd_TooWide k0_TooWide k1_TooWide k2_TooWide k3_TooWide k5_TooWide "ValueError.__new__"))
  (xN_TooWide:K.lookup N_TooWide=some ⟨nc_TooWide,nd_TooWide,.dict ZeI np_TooWide,nl_TooWide⟩)
  (xe_TooWide:ZfI ZeI=true)
  (xi_TooWide:PySem.W.nsIn K N_TooWide "__init__"=some none)
  (xl_HallError:K.lookup Zt=some (excClassObj nm_HallError qn_HallError Zt N_HallError bs_HallError [.type "ValueError",.type "Exception",.type "BaseException",.type "object"] Zg8 sn_HallError sb_HallError ab_HallError co_HallError dd_HallError k0_HallError k1_HallError k2_HallError k3_HallError k5_HallError "ValueError.__new__"))
  (xN_HallError:K.lookup N_HallError=some ⟨nc_HallError,nd_HallError,.dict ZcV np_HallError,nl_HallError⟩)
  (xe_HallError:ZfI ZcV=true)
  (xi_HallError:PySem.W.nsIn K N_HallError "__init__"=some none)
  (xk_TooWide:(PySem.W.kitCls K (.ref Zc) (.ref Zc)).isSome=true)
  (xg_TooWide:PySem.W.findIn K (.ref Zc) "__getattribute__"=some (some (.builtin "BaseException.__getattribute__")))
  (xh_TooWide:PySem.W.findIn K (.ref Zc) "__getattr__"=some none)
  (xs_TooWide:PySem.W.findIn K (.ref Zc) "__class__"=some (some (.builtin "object.__class__")))
  (xo_TooWide:PySem.W.mroIn K Zc (.type "object")=some true)
  (xb_TooWide:PySem.W.subIn K (.ref Zc) (.type "BaseException")=some true)
  (f_k_Never_After:PySem.W.kitOne K (.ref Zm) (.ref Zg)=some false)
  (f_k_Never_Earlier:PySem.W.kitOne K (.ref Zm) (.ref Zb)=some false)
  (f_k_Never_Later:PySem.W.kitOne K (.ref Zm) (.ref Zh)=some false)
  (f_k_After_After:PySem.W.kitOne K (.ref Zg) (.ref Zg)=some true)
  (f_k_After_Earlier:PySem.W.kitOne K (.ref Zg) (.ref Zb)=some false)
  (f_k_After_Later:PySem.W.kitOne K (.ref Zg) (.ref Zh)=some false)
  (f_k_Later_After:PySem.W.kitOne K (.ref Zh) (.ref Zg)=some false)
  (f_k_Later_Earlier:PySem.W.kitOne K (.ref Zh) (.ref Zb)=some false)
  (f_k_Later_Later:PySem.W.kitOne K (.ref Zh) (.ref Zh)=some true)
  (f_k_Earlier_After:PySem.W.kitOne K (.ref Zb) (.ref Zg)=some false)
  (f_k_Earlier_Earlier:PySem.W.kitOne K (.ref Zb) (.ref Zb)=some true)
  (f_k_Earlier_Later:PySem.W.kitOne K (.ref Zb) (.ref Zh)=some false)
  (f_xm_w:PySem.W.exmOne K (.ref Zc) (.ref Zc)=some true)
  (f_xm_h:PySem.W.exmOne K (.ref Zc) (.ref Zt)=some true)
  (f_i_w_ve:PySem.W.kitOne K (.ref Zc) (.type "ValueError")=some true)
  (f_i_w_NoDay:PySem.W.kitOne K (.ref Zc) (.ref ZM)=some false)
  (f_i_w_NoLength:PySem.W.kitOne K (.ref Zc) (.ref Zv)=some false)
  (f_i_w_NoTerm:PySem.W.kitOne K (.ref Zc) (.ref ZC)=some false)
  (f_i_w_TooWide:PySem.W.kitOne K (.ref Zc) (.ref Zc)=some true)
  (f_i_w_NoBook:PySem.W.kitOne K (.ref Zc) (.ref ZD)=some false)
  (f_i_w_PutTwice:PySem.W.kitOne K (.ref Zc) (.ref Zw)=some false)
  (f_i_w_HeldTwice:PySem.W.kitOne K (.ref Zc) (.ref Zu)=some false)
  (f_i_w_NoSeries:PySem.W.kitOne K (.ref Zc) (.ref Zx)=some false)
  (f_i_w_RunBack:PySem.W.kitOne K (.ref Zc) (.ref Zy)=some false)
  (f_i_w_Unlike:PySem.W.kitOne K (.ref Zc) (.ref ZF)=some false)
  (f_i_w_NoRow:PySem.W.kitOne K (.ref Zc) (.ref ZP)=some false)
  (z_ValueError:PySem.W.nsIn K mainGlobals "ValueError"=some none)
  (z_abs:PySem.W.nsIn K mainGlobals "abs"=some none)
  (z_all:PySem.W.nsIn K mainGlobals "all"=some none)
  (z_any:PySem.W.nsIn K mainGlobals "any"=some none)
  (z_dict:PySem.W.nsIn K mainGlobals "dict"=some none)
  (z_int:PySem.W.nsIn K mainGlobals "int"=some none)
  (z_isinstance:PySem.W.nsIn K mainGlobals "isinstance"=some none)
  (z_len:PySem.W.nsIn K mainGlobals "len"=some none)
  (z_max:PySem.W.nsIn K mainGlobals "max"=some none)
  (z_min:PySem.W.nsIn K mainGlobals "min"=some none)
  (z_range:PySem.W.nsIn K mainGlobals "range"=some none)
  (z_sorted:PySem.W.nsIn K mainGlobals "sorted"=some none)
  (Y4:Zm≠Zg)
  (Y5:Zm≠Zh)
  (Z2:Zm≠Zb)
  (Y6:Zg≠Zh)
  (Z3:Zg≠Zb)
  (Z4:Zh≠Zb)
  :∃fd:FuncData,(∀(s:Shared) (v:Value),BindsTo s fd ⟨[v],[]⟩ [("_law_script",v)])/\∀base:Heap,K.In base->base.Ns mainGlobals mg->YD l.prog w K mg base CX0 42 fa fd ["_law_script"] (ZjE K):=by
 have e:=hfa.symm.trans (PySem.W.mg_of X G Z10);cases e;have T:Txt K mg t_MOST_CLAUSES Zm Zg Zh Zb Zt ZM Zv ZC Zc ZD Zw Zu Zx Zy ZF ZP:=⟨PySem.W.mg_of X G g_MOST_CLAUSES,PySem.W.mg_none_of X G z_ValueError,PySem.W.mg_none_of X G z_abs,PySem.W.mg_none_of X G z_all,PySem.W.mg_none_of X G z_any,PySem.W.mg_none_of X G z_dict,PySem.W.mg_none_of X G z_int,PySem.W.mg_none_of X G z_isinstance,PySem.W.mg_none_of X G z_len,PySem.W.mg_none_of X G z_max,PySem.W.mg_none_of X G z_min,PySem.W.mg_none_of X G z_range,PySem.W.mg_none_of X G z_sorted,⟨Z0w,Z0x,Z0y,Z0z⟩,⟨⟨Z0w,Z0x,Z0y,Z0z⟩,Z0Q,hn,htk,Z0R⟩,⟨Z0A,Z0B,Z0C,Z0D⟩,Z00,Z01,⟨⟨Z0A,Z0B,Z0C,Z0D⟩,Z0U,hn,htk,Z0V⟩,⟨Z0E,Z0F,Z0G,Z0H⟩,Z0c,J8,⟨⟨Z0E,Z0F,Z0G,Z0H⟩,Z0Y,hn,htk,Z0Z⟩,⟨Z0d,Z0e,Z0f,Z0g⟩,J9,X5,⟨⟨Z0d,Z0e,Z0f,Z0g⟩,Z0p,hn,htk,Z0q⟩,PySem.W.mg_of X G Z09,PySem.W.mg_of X G Z0M,PySem.W.mg_of X G Z0i,PySem.W.mg_of X G Z0I,PySem.W.mg_of X G Z0a,PySem.W.mg_of X G Z0J,PySem.W.mg_of X G Z0j,PySem.W.mg_of X G Z0b,PySem.W.mg_of X G Z0k,PySem.W.mg_of X G Z0m,PySem.W.mg_of X G Z0K,PySem.W.mg_of X G Z0N,PySem.W.mg_of X G Z0u,PySem.W.mg_of X G Z08,PySem.W.mg_of X G Z0v,⟨xk_TooWide,xg_TooWide,xh_TooWide,xs_TooWide,hn,htk,xo_TooWide,xb_TooWide⟩,f_k_Never_After,f_k_Never_Earlier,f_k_Never_Later,f_k_After_After,f_k_After_Earlier,f_k_After_Later,f_k_Later_After,f_k_Later_Earlier,f_k_Later_Later,f_k_Earlier_After,f_k_Earlier_Earlier,f_k_Earlier_Later,f_xm_w,f_xm_h,f_i_w_ve,f_i_w_NoDay,f_i_w_NoLength,f_i_w_NoTerm,f_i_w_TooWide,f_i_w_NoBook,f_i_w_PutTwice,f_i_w_HeldTwice,f_i_w_NoSeries,f_i_w_RunBack,f_i_w_Unlike,f_i_w_NoRow,Y4,Y5,Z2,Y6,Z3,Z4⟩
 have ZnC:=Zhi (st:=ZcO) l_law cd_law' k_law;obtain⟨_,_,Z0r,Zg9⟩:=Z0r;obtain⟨_,_,Z0s,Zga⟩:=Z0s;obtain⟨_,_,Z0t,Zgb⟩:=Z0t;obtain⟨_,_,Z02,Zdw⟩:=Z02;obtain⟨_,_,X8,Zch⟩:=X8;obtain⟨_,_,J6,Zci⟩:=J6;obtain⟨_,_,Z0l,ZcW⟩:=Z0l;obtain⟨_,_,Z03,Zdx⟩:=Z03;obtain⟨_,_,Y7,Zb0⟩:=Y7;obtain⟨_,_,Z0h,ZeJ⟩:=Z0h;obtain⟨_,_,Z04,Zdy⟩:=Z04;obtain⟨_,_,Z05,Zdz⟩:=Z05;obtain⟨_,_,Z06,ZdA⟩:=Z06;obtain⟨_,_,Z6,Zau⟩:=Z6;obtain⟨_,_,Z7,Zav⟩:=Z7
 obtain⟨_,_,Z0,JH⟩:=Z0;obtain⟨_,_,Z8,Zaw⟩:=Z8;obtain⟨_,_,X4,Zaa⟩:=X4;obtain⟨_,_,X6,Zbx⟩:=X6;obtain⟨_,_,Y8,Zb1⟩:=Y8;obtain⟨_,_,Y0,Jy⟩:=Y0;obtain⟨_,_,Z5,Jb⟩:=Z5;obtain⟨_,_,Z07,ZdB⟩:=Z07;obtain⟨_,_,J7,Zcj⟩:=J7;obtain⟨_,_,Z9,Zax⟩:=Z9;obtain⟨_,_,X7,Zby⟩:=X7;obtain⟨_,_,Y9,Zgc,ZcX⟩:=Y9;obtain⟨_,_,X3,Zgd,ZcY⟩:=X3;obtain⟨_,_,Z1,ZeK,Zbz⟩:=Z1;refine⟨PySem.W.fnOf "law" "law" (ZbB ZcO) (Zac ZcO) (Zz ZcO) .none kV_law dc_law pm_law an_law cd_law ct_law,fun s v=> .of_eq rfl,fun base Kb _=> ?_⟩
 have o_TooWide:Zmu "TooWide" Zc mg base:=⟨PySem.W.mg_of X G Z0a,_,_,_,_,_,_,_,_,_,_,_,_,_,_,_,_,_,Kb _ _ xl_TooWide,.of_isNs (PySem.W.isNs_of_in Kb (ZdW xN_TooWide xe_TooWide)),PySem.W.nsMap_none_of_in Kb (ZdW xN_TooWide xe_TooWide) xi_TooWide,.own (Kb _ _ xl_HallError) (.of_isNs (PySem.W.isNs_of_in Kb (ZdW xN_HallError xe_HallError))) (PySem.W.nsMap_none_of_in Kb (ZdW xN_HallError xe_HallError) xi_HallError) .base⟩
 have Zg0:Zmr K mg "Never" Zm:=⟨PySem.W.mg_of X G Z0L,Z0O,in_Never,Z0P⟩
 have ZaW:Cal l.prog w K mg base CX0 1 "never" [] (ZcP Zm Zg Zh Zb):=⟨_,_,PySem.W.mg_of X G Z0r,Zg9.kp,Zg9.binds (fun _ _ _ _ _ _=>Zo0 rfl),Zkt Zg9 T Zg0⟩
 have Zg1:Zhs l.prog w K mg base CX0 1 "After" Zg ["self","kind","days"] (Zao Zg):=⟨_,_,PySem.W.mg_of X G Z0u,⟨Z0S,Y9,Zgc,Z0T⟩,ZcX.binds (fun _ _ _ _ _ _=>Zlf fun _ _ _=>rfl),ZeT ZcX T T.cl_After T.n_After_kind T.n_After_days⟩
 have Zg3:Cal l.prog w K mg base CX0 3 "after" ["kind","days"] (Zeq Zm Zg Zh Zb):=⟨_,_,PySem.W.mg_of X G Z0s,Zga.kp,Zga.binds (fun _ _ _ _ _ _=>ZbS fun _ _=>rfl),Zkv Zga T Zg1⟩
 have Zg2:Zhs l.prog w K mg base CX0 1 "Later" Zh ["self","one","other"] (XS Zh):=⟨_,_,PySem.W.mg_of X G Z0v,⟨Z0W,X3,Zgd,Z0X⟩,ZcY.binds (fun _ _ _ _ _ _=>Zlf fun _ _ _=>rfl),ZcR ZcY T T.cl_Later T.n_Later_one T.n_Later_other⟩
 have Zg4:Cal l.prog w K mg base CX0 3 "later" ["one","other"] (Zer Zm Zg Zh Zb):=⟨_,_,PySem.W.mg_of X G Z0t,Zgb.kp,Zgb.binds (fun _ _ _ _ _ _=>ZbS fun _ _=>rfl),Zkx Zgb T Zg2⟩
 have Zdp:Zhs l.prog w K mg base CX0 1 "Earlier" Zb ["self","one","other"] (XS Zb):=⟨_,_,PySem.W.mg_of X G Z08,⟨Z0n,Z1,ZeK,Z0o⟩,Zbz.binds (fun _ _ _ _ _ _=>Zlf fun _ _ _=>rfl),ZcR Zbz T T.cl_Earlier T.n_Earlier_one T.n_Earlier_other⟩
 have Zdq:Cal l.prog w K mg base CX0 3 "earlier" ["one","other"] (Zc8 Zm Zg Zh Zb):=⟨_,_,PySem.W.mg_of X G Z02,Zdw.kp,Zdw.binds (fun _ _ _ _ _ _=>ZbS fun _ _=>rfl),ZhO Zdw T Zdp⟩
 have Zcf:Cal l.prog w K mg base CX0 1 "is_below" ["one","other"] Zbr:=⟨_,_,PySem.W.mg_of X G X8,Zch.kp,Zch.binds (fun _ _ _ _ _ _=>ZbS fun _ _=>rfl),ZgU Zch T⟩
 have Jj:Cal l.prog w K mg base CX0 1 "place_of" ["clause"] (Ju K):=⟨_,_,PySem.W.mg_of X G J6,Zci.kp,Zci.binds (fun _ _ _ _ _ _=>Zcy fun _=>rfl),ZgY Zci T⟩
 have ZeC:Cal l.prog w K mg base CX0 1 "joined" ["one","other"] Zdn:=⟨_,_,PySem.W.mg_of X G Z0h,ZeJ.kp,ZeJ.binds (fun _ _ _ _ _ _=>ZbS fun _ _=>rfl),Zjd ZeJ T⟩
 have ZaX:Cal l.prog w K mg base CX0 2 "all_joined" ["ones","others"] Zap:=⟨_,_,PySem.W.mg_of X G Y7,Zb0.kp,Zb0.binds (fun _ _ _ _ _ _=>ZbS fun _ _=>rfl),ZeU Zb0 T ZeC⟩
 have ZbP:Cal l.prog w K mg base (CXr l.prog w) 4 "thinned" ["clauses"] (Zc9 Zc):=⟨_,_,PySem.W.mg_of X G Z03,Zdx.kp,Zdx.binds (fun _ _ _ _ _ _=>Zcy fun _=>rfl),ZhP Zdx T o_TooWide Zcf Jj⟩
 have XD:∀n,Cal l.prog w K mg base (CXr l.prog w) (4+n+1) "least" ["term"] (ZaG Zm Zg Zh Zb Zc n):=fun n=>by
  induction n with
  |zero=>exact⟨_,_,PySem.W.mg_of X G Z0l,ZcW.kp,ZcW.binds (fun _ _ _ _ _ _=>Zcy fun _=>rfl),ZdV ZhM⟩
  |succ n ih=>exact⟨_,_,PySem.W.mg_of X G Z0l,ZcW.kp,ZcW.binds (fun _ _ _ _ _ _=>Zcy fun _=>rfl),ZkJ ZcW T n ZaX ih ZbP⟩
 have Zdt:Cal l.prog w K mg base CX0 1 "life_of" ["clause"] Zcb:=⟨_,_,PySem.W.mg_of X G Z06,ZdA.kp,ZdA.binds (fun _ _ _ _ _ _=>Zcy fun _=>rfl),ZhT ZdA T⟩
 have ZbQ:Cal l.prog w K mg base CX0 1 "only_in" ["ones","others"] Zca:=⟨_,_,PySem.W.mg_of X G Z05,Zdz.kp,Zdz.binds (fun _ _ _ _ _ _=>ZbS fun _ _=>rfl),ZhR Zdz T⟩
 have Zdu:Cal l.prog w K mg base (CXr l.prog w) 24 "parting" ["one","other"] (Zcc Zm Zg Zh Zb Zc):=⟨_,_,PySem.W.mg_of X G Z04,Zdy.kp,Zdy.binds (fun _ _ _ _ _ _=>ZbS fun _ _=>rfl),ZhU Zdy T Jj (XD 18) Zdt ZbQ⟩
 have Jo:Cal l.prog w K mg base CX0 1 "_law_cell_at" ["_law_script","_law_k"] (Za9 K):=⟨_,_,PySem.W.mg_of X G Z6,Zau.kp,Zau.binds (fun _ _ _ _ _ _=>ZbS fun _ _=>rfl),Zey Zau T⟩
 have Yp:Cal l.prog w K mg base CX0 1 "_law_name_by" ["_law_cell","_law_k"] Xm:=⟨_,_,PySem.W.mg_of X G Z7,Zav.kp,Zav.binds (fun _ _ _ _ _ _=>ZbS fun _ _=>rfl),Zew Zav T⟩
 have JG:Cal l.prog w K mg base CX0 1 "_law_length_by" ["_law_cell"] Ji:=⟨_,_,PySem.W.mg_of X G Z0,JH.kp,JH.binds (fun _ _ _ _ _ _=>Zcy fun _=>rfl),Zdr JH T⟩
 have Zat:Cal l.prog w K mg base CX0 2 "_law_tree_by" ["_law_cells","_law_names_by","_law_most"] Za8:=⟨_,_,PySem.W.mg_of X G Z8,Zaw.kp,Zaw.binds (fun _ _ _ _ _ _=>Zlf fun _ _ _=>rfl),ZeB Zaw T JG Yp⟩
 have Xp:∀n,Cal l.prog w K mg base CX0 (3+n+1) "_law_made" ["_law_tree"] (Js Zm Zg Zh Zb n):=fun n=>by
  induction n with
  |zero=>exact⟨_,_,PySem.W.mg_of X G X4,Zaa.kp,Zaa.binds (fun _ _ _ _ _ _=>Zcy fun _=>rfl),ZdV ZeR⟩
  |succ n ih=>exact⟨_,_,PySem.W.mg_of X G X4,Zaa.kp,Zaa.binds (fun _ _ _ _ _ _=>Zcy fun _=>rfl),ZgS Zaa T n ih Zg3 Zdq Zg4 ZaW⟩
 have Zbv:Cal l.prog w K mg base CX0 1 "_law_below" ["_law_one","_law_other"] ZaU:=⟨_,_,PySem.W.mg_of X G X6,Zbx.kp,Zbx.binds (fun _ _ _ _ _ _=>ZbS fun _ _=>rfl),Zg5 Zbx T⟩
 have JS:Cal l.prog w K mg base CX0 2 "_law_fewest" ["_law_some"] Zaq:=⟨_,_,PySem.W.mg_of X G Y8,Zb1.kp,Zb1.binds (fun _ _ _ _ _ _=>Zcy fun _=>rfl),ZeV Zb1 T Zbv⟩
 have Xa:∀n,Cal l.prog w K mg base CX0 (2+n+1) "_law_least" ["_law_tree"] (Xr n):=fun n=>by
  induction n with
  |zero=>exact⟨_,_,PySem.W.mg_of X G Y0,Jy.kp,Jy.binds (fun _ _ _ _ _ _=>Zcy fun _=>rfl),ZdV Zev⟩
  |succ n ih=>exact⟨_,_,PySem.W.mg_of X G Y0,Jy.kp,Jy.binds (fun _ _ _ _ _ _=>Zcy fun _=>rfl),Zg6 Jy T n JS ih⟩
 have Xu:∀n,Cal l.prog w K mg base CX0 (21+n+1) "_law_widest" ["_law_tree"] (Xy n):=fun n=>by
  induction n with
  |zero=>exact⟨_,_,PySem.W.mg_of X G Z5,Jb.kp,Jb.binds (fun _ _ _ _ _ _=>Zcy fun _=>rfl),ZdV ZdO⟩
  |succ n ih=>exact⟨_,_,PySem.W.mg_of X G Z5,Jb.kp,Jb.binds (fun _ _ _ _ _ _=>Zcy fun _=>rfl),ZeW Jb T n (Xa 18) ih⟩
 have ZbR:Cal l.prog w K mg base CX0 2 "_law_row" ["_law_many","_law_begin","_law_names_by","_law_by"] Zcd:=⟨_,_,PySem.W.mg_of X G Z07,ZdB.kp,ZdB.binds (fun _ _ _ _ _ _=>Zo1 fun _ _ _ _=>rfl),ZhX ZdB T Yp⟩
 have Zcg:Cal l.prog w K mg base CX0 3 "_law_wide" ["_law_by","_law_names_by"] Zbs:=⟨_,_,PySem.W.mg_of X G J7,Zcj.kp,Zcj.binds (fun _ _ _ _ _ _=>ZbS fun _ _=>rfl),Zh6 Zcj T Yp ZbR⟩
 have Jm:Cal l.prog w K mg base CX0 25 "_law_refused" ["_law_one","_law_other"] (Za7 Zm Zg Zh Zb Zc):=⟨_,_,PySem.W.mg_of X G Z9,Zax.kp,Zax.binds (fun _ _ _ _ _ _=>ZbS fun _ _=>rfl),ZeD Zax T Zdu⟩
 have Jx:Cal l.prog w K mg base CX0 41 "_law_holds" ["_law_tree"] (ZaV Zm Zg Zh Zb Zc):=⟨_,_,PySem.W.mg_of X G X7,Zby.kp,Zby.binds (fun _ _ _ _ _ _=>Zcy fun _=>rfl),Zg7 Zby T (Xa 18) (Xp 18) Jm (Xu 18) (XD 18) ZaW⟩
 exact ZmV ZnC T Jo Jx Zat Zcg
end K14
namespace PySem.W.Fast
theorem tw9338126502211943424:0=0:=rfl
theorem tw8751160071357832192:0=0:=rfl
theorem tw5003234986726073376:0=0:=rfl
theorem tw10751981517369603136:0=0:=rfl
theorem tw5516536974306140288:0=0:=rfl
theorem tw5844940502889915520:0=0:=rfl
theorem tw11671204274003798144:0=0:=rfl
theorem tw955464689834487936:0=0:=rfl
theorem tw12549859053377325248:0=0:=rfl
theorem tw15707484031934876864:0=0:=rfl
theorem tw15998476749184540928:0=0:=rfl
theorem tw2223973823444816160:0=0:=rfl
theorem tw8007678165642302784:0=0:=rfl
theorem tw12832374604458483008:0=0:=rfl
theorem tw6444375971668546912:0=0:=rfl
theorem tw1368765831465576864:0=0:=rfl
theorem tw11615340873852911072:0=0:=rfl
theorem tw4477466478972707296:0=0:=rfl
theorem tw3105306070588436992:0=0:=rfl
theorem tw9195076016090331648:0=0:=rfl
theorem tw807114845905907200:0=0:=rfl
theorem tw8140983279029772992:0=0:=rfl
theorem tw10345819805012258592:0=0:=rfl
theorem tw17135627406167158688:0=0:=rfl
theorem tw11468322824565233632:0=0:=rfl
theorem tw5597863940005102657:0=0:=rfl
theorem tw9039788698816134209:0=0:=rfl
theorem tw5068861919656139873:0=0:=rfl
theorem tw9411083315335211137:0=0:=rfl
theorem tw13062392172043390113:0=0:=rfl
theorem tw12902902988882945249:0=0:=rfl
theorem tw8366715880939187553:0=0:=rfl
theorem tw12644287352073452929:0=0:=rfl
theorem tw9129460855289635233:0=0:=rfl
theorem tw14380931403956686273:0=0:=rfl
theorem tw16566510179627860577:0=0:=rfl
theorem tw16871016211976107681:0=0:=rfl
theorem tw12802081777101378369:0=0:=rfl
theorem tw14597658287793341281:0=0:=rfl
theorem tw16541010497342951426:0=0:=rfl
theorem tw2284507870446441506:0=0:=rfl
theorem tw17696650849787873410:0=0:=rfl
theorem tw6480768401648853186:0=0:=rfl
theorem tw15294514651029402882:0=0:=rfl
theorem tw5117063602432113922:0=0:=rfl
theorem tw9933396330598409538:0=0:=rfl
theorem tw7525536582843890018:0=0:=rfl
theorem tw1644998065550909858:0=0:=rfl
theorem tw12356134425587431906:0=0:=rfl
theorem tw4829143086443405858:0=0:=rfl
theorem tw8459569672770070050:0=0:=rfl
theorem tw3345868708522044034:0=0:=rfl
theorem tw5859353000108395202:0=0:=rfl
theorem tw11365035423003206498:0=0:=rfl
theorem tw12892738626867622754:0=0:=rfl
theorem tw8639775552596748162:0=0:=rfl
theorem tw72142407936902114:0=0:=rfl
theorem tw2193848091809172450:0=0:=rfl
theorem tw1537251028925590563:0=0:=rfl
theorem tw14507198359867148323:0=0:=rfl
theorem tw12434883414512093347:0=0:=rfl
theorem tw497976528429251747:0=0:=rfl
theorem tw16121285794110365891:0=0:=rfl
theorem tw12339408254919848131:0=0:=rfl
theorem tw10567275995365567683:0=0:=rfl
theorem tw1147965047544450307:0=0:=rfl
theorem tw3635579951227556227:0=0:=rfl
theorem tw18190805440273682883:0=0:=rfl
theorem tw3101848962742996451:0=0:=rfl
theorem tw9853046121254894179:0=0:=rfl
theorem tw2881690763472906883:0=0:=rfl
theorem tw9704412307364840067:0=0:=rfl
theorem tw14053857664937809571:0=0:=rfl
theorem tw11925752541745760995:0=0:=rfl
theorem tw13555097876420532003:0=0:=rfl
theorem tw4331739941926892355:0=0:=rfl
theorem tw13513267919085969251:0=0:=rfl
theorem tw14923898199002313571:0=0:=rfl
theorem tw365182330424213540:0=0:=rfl
theorem tw10367266402257391716:0=0:=rfl
theorem tw4887640788379630788:0=0:=rfl
theorem tw3608610897053754660:0=0:=rfl
theorem tw10355731471055600004:0=0:=rfl
theorem tw12555832348624502148:0=0:=rfl
theorem tw9386749151816695172:0=0:=rfl
theorem tw3218062559186249156:0=0:=rfl
theorem tw10514710830894159332:0=0:=rfl
theorem tw16913858834331553252:0=0:=rfl
theorem tw8262736384677580324:0=0:=rfl
theorem tw12574071244466407044:0=0:=rfl
theorem tw17689726522775754372:0=0:=rfl
theorem tw9501310424386246372:0=0:=rfl
theorem tw7420571424486131492:0=0:=rfl
theorem tw13202223786602510116:0=0:=rfl
theorem tw6082695903259654020:0=0:=rfl
theorem tw2346977075025929221:0=0:=rfl
theorem tw15371317352695787589:0=0:=rfl
theorem tw855817548801622181:0=0:=rfl
theorem tw14815541114246703365:0=0:=rfl
theorem tw2970509617253240229:0=0:=rfl
theorem tw4046827861155568037:0=0:=rfl
theorem tw11815567184658364869:0=0:=rfl
theorem tw16158705831807801893:0=0:=rfl
theorem tw12805943598621062725:0=0:=rfl
theorem tw8601258343361279589:0=0:=rfl
theorem tw14067202902611275365:0=0:=rfl
theorem tw11247265432797994629:0=0:=rfl
theorem tw1991537893148261029:0=0:=rfl
theorem tw2412431046670000869:0=0:=rfl
theorem tw10947604796259287813:0=0:=rfl
theorem tw4347568193837845253:0=0:=rfl
theorem tw2908000696654605093:0=0:=rfl
theorem tw575761789630645029:0=0:=rfl
theorem tw17908225064287698821:0=0:=rfl
theorem tw16331802829585442789:0=0:=rfl
theorem tw12112934828901328902:0=0:=rfl
theorem tw8496990434882065510:0=0:=rfl
theorem tw9341591681672295526:0=0:=rfl
theorem tw10354944465133179078:0=0:=rfl
theorem tw16653991218577337574:0=0:=rfl
theorem tw14840760630130130150:0=0:=rfl
theorem tw539119433790286118:0=0:=rfl
theorem tw13928247997436199398:0=0:=rfl
theorem tw3222153961737120326:0=0:=rfl
theorem tw3412575513414145606:0=0:=rfl
theorem tw3509195048483567302:0=0:=rfl
theorem tw8243065855528029926:0=0:=rfl
theorem tw10349874636923822918:0=0:=rfl
theorem tw7968517044194044774:0=0:=rfl
theorem tw3528991673549221734:0=0:=rfl
theorem tw12481886541810531174:0=0:=rfl
theorem tw1766328825637069927:0=0:=rfl
theorem tw11305389132704430247:0=0:=rfl
theorem tw11339127577568137415:0=0:=rfl
theorem tw12406350001573813447:0=0:=rfl
theorem tw7465132308798868839:0=0:=rfl
theorem tw8042221801488924007:0=0:=rfl
theorem tw16433634205763220967:0=0:=rfl
theorem tw7957383754580434439:0=0:=rfl
theorem tw7612811617427664423:0=0:=rfl
theorem tw17790678684269136519:0=0:=rfl
theorem tw9104425077360475815:0=0:=rfl
theorem tw14502633274817260327:0=0:=rfl
theorem tw8977127614027568967:0=0:=rfl
theorem tw216244627436825415:0=0:=rfl
theorem tw16059483585106301863:0=0:=rfl
theorem tw15226558307230556168:0=0:=rfl
theorem tw12959075993027861608:0=0:=rfl
theorem tw8585763047274489000:0=0:=rfl
theorem tw10573027175539393768:0=0:=rfl
theorem tw4518748843007349064:0=0:=rfl
theorem tw4665780808581636456:0=0:=rfl
theorem tw15769149801788712424:0=0:=rfl
theorem tw16030819115670896136:0=0:=rfl
theorem tw17160549000397273608:0=0:=rfl
theorem tw10177480306865661480:0=0:=rfl
theorem tw16828064485638906536:0=0:=rfl
theorem tw5050083841177373576:0=0:=rfl
theorem tw13947749279187105736:0=0:=rfl
theorem tw4944723387337306088:0=0:=rfl
theorem tw2542686229418755113:0=0:=rfl
theorem tw15696110828828907561:0=0:=rfl
theorem tw11480719686903393449:0=0:=rfl
theorem tw14086467808746309801:0=0:=rfl
theorem tw8579623226824184009:0=0:=rfl
theorem tw11755815994120701129:0=0:=rfl
theorem tw15536518791564395785:0=0:=rfl
theorem tw8712517136134822281:0=0:=rfl
theorem tw10411165559348300169:0=0:=rfl
theorem tw1340571589141603753:0=0:=rfl
theorem tw16775763078426318281:0=0:=rfl
theorem tw5055353468697935337:0=0:=rfl
theorem tw8188842327102521865:0=0:=rfl
theorem tw18188192426819335721:0=0:=rfl
theorem tw8424196173642274345:0=0:=rfl
theorem tw6242349334399132265:0=0:=rfl
theorem tw15074394087098604201:0=0:=rfl
theorem tw2946748388388129481:0=0:=rfl
theorem tw3688188302396893929:0=0:=rfl
theorem tw6150871149789851401:0=0:=rfl
theorem tw13406989039628512073:0=0:=rfl
theorem tw2065622914320743241:0=0:=rfl
theorem tw9324682792604801897:0=0:=rfl
theorem tw2315416146605055881:0=0:=rfl
theorem tw16462473681267907465:0=0:=rfl
theorem tw7381277274130245545:0=0:=rfl
theorem tw4830428831510457450:0=0:=rfl
theorem tw8990628340051041450:0=0:=rfl
theorem tw14401370272841373866:0=0:=rfl
theorem tw2889076799291149514:0=0:=rfl
theorem tw9961472321497288938:0=0:=rfl
theorem tw1431809683782085866:0=0:=rfl
theorem tw2983464104449534218:0=0:=rfl
theorem tw8834156403758187786:0=0:=rfl
theorem tw1899766213090858282:0=0:=rfl
theorem tw17929260010455791946:0=0:=rfl
theorem tw3018170608306476394:0=0:=rfl
theorem tw12801455086281009674:0=0:=rfl
theorem tw15438602688965888650:0=0:=rfl
theorem tw18180750008627929834:0=0:=rfl
theorem tw17018887935223223082:0=0:=rfl
theorem tw5417501710657583946:0=0:=rfl
theorem tw11491267485180137418:0=0:=rfl
theorem tw17019532771376957418:0=0:=rfl
theorem tw2327212635706394602:0=0:=rfl
theorem tw14029362542379638795:0=0:=rfl
theorem tw9897477429121576043:0=0:=rfl
theorem tw965752649882375403:0=0:=rfl
theorem tw18082149258847781099:0=0:=rfl
theorem tw12704162932743542027:0=0:=rfl
theorem tw14682588204224226603:0=0:=rfl
theorem tw10189825188539017515:0=0:=rfl
theorem tw11621048412184930667:0=0:=rfl
theorem tw6999828552415066667:0=0:=rfl
theorem tw15543467031034521291:0=0:=rfl
theorem tw16406061606477112043:0=0:=rfl
theorem tw16986435750925270763:0=0:=rfl
theorem tw1026373503545806635:0=0:=rfl
theorem tw17328778173947419435:0=0:=rfl
theorem tw6139377523343891307:0=0:=rfl
theorem tw158458071348109195:0=0:=rfl
theorem tw15164989282134405099:0=0:=rfl
theorem tw424778469712052203:0=0:=rfl
theorem tw4698975082081186860:0=0:=rfl
theorem tw7364312566083378252:0=0:=rfl
theorem tw8908728899280131212:0=0:=rfl
theorem tw11932213624009374892:0=0:=rfl
theorem tw12759535174437606636:0=0:=rfl
theorem tw1857210975510990092:0=0:=rfl
theorem tw6004518101607828748:0=0:=rfl
theorem tw1448946357064031532:0=0:=rfl
theorem tw456241824697125228:0=0:=rfl
theorem tw1975406609188047212:0=0:=rfl
theorem tw11562770210594255212:0=0:=rfl
theorem tw4815719337299609068:0=0:=rfl
theorem tw1082842268094667276:0=0:=rfl
theorem tw8407826194580654732:0=0:=rfl
theorem tw12871455554287920780:0=0:=rfl
theorem tw6829239249419215596:0=0:=rfl
theorem tw13425246051565370124:0=0:=rfl
theorem tw8813505687513672492:0=0:=rfl
theorem tw11520406914798165836:0=0:=rfl
theorem tw17493069942891136844:0=0:=rfl
theorem tw6180685972585190252:0=0:=rfl
theorem tw6074608700967320460:0=0:=rfl
theorem tw7694248426444293004:0=0:=rfl
theorem tw11932219088219725772:0=0:=rfl
theorem tw6614819156565789933:0=0:=rfl
theorem tw1749264351350686957:0=0:=rfl
theorem tw3982118411748618509:0=0:=rfl
theorem tw13431614605164683629:0=0:=rfl
theorem tw3785339801701755245:0=0:=rfl
theorem tw2095716653668245901:0=0:=rfl
theorem tw12355116199081897357:0=0:=rfl
theorem tw9721419559350289933:0=0:=rfl
theorem tw12781785530930615885:0=0:=rfl
theorem tw14290112088589060717:0=0:=rfl
theorem tw13624058624203803309:0=0:=rfl
theorem tw12786078690725037805:0=0:=rfl
theorem tw10284705525210194669:0=0:=rfl
theorem tw16455849343735998189:0=0:=rfl
theorem tw17110154426590931693:0=0:=rfl
theorem tw17456273641419885389:0=0:=rfl
theorem tw16559991922327935821:0=0:=rfl
theorem tw11815872254367237997:0=0:=rfl
theorem tw17250494770307678157:0=0:=rfl
theorem tw4897684827111291885:0=0:=rfl
theorem tw4116555623156980942:0=0:=rfl
theorem tw15046089358236551406:0=0:=rfl
theorem tw12204150375171129646:0=0:=rfl
theorem tw11526300306249682254:0=0:=rfl
theorem tw6707517457173151054:0=0:=rfl
theorem tw6307551916194037166:0=0:=rfl
theorem tw16650899923757172206:0=0:=rfl
theorem tw18148526997478173198:0=0:=rfl
theorem tw13833206057051205166:0=0:=rfl
theorem tw10048023022789569134:0=0:=rfl
theorem tw3698290021665233742:0=0:=rfl
theorem tw5723815850164901806:0=0:=rfl
theorem tw8610599800648696847:0=0:=rfl
theorem tw16555239230599623695:0=0:=rfl
theorem tw17121117218956796015:0=0:=rfl
theorem tw2511862443172914319:0=0:=rfl
theorem tw8605806976790710479:0=0:=rfl
theorem tw12370778053600738543:0=0:=rfl
theorem tw11727961794355492111:0=0:=rfl
theorem tw9512521077315279151:0=0:=rfl
theorem tw9514623165327584559:0=0:=rfl
theorem tw1865396196974414127:0=0:=rfl
theorem tw12268976409902370255:0=0:=rfl
theorem tw1593799451518196239:0=0:=rfl
theorem tw3593949366403034671:0=0:=rfl
theorem tw14218803626972983919:0=0:=rfl
theorem tw11569617552710840943:0=0:=rfl
theorem tw3693640347602964111:0=0:=rfl
theorem tw9703983554306657071:0=0:=rfl
theorem tw14105397532173606799:0=0:=rfl
theorem tw13755347894254967759:0=0:=rfl
theorem tw13532598168070438960:0=0:=rfl
theorem tw1169030002006233232:0=0:=rfl
theorem tw858343719472348368:0=0:=rfl
theorem tw1214413129521416496:0=0:=rfl
theorem tw18224032100447004048:0=0:=rfl
theorem tw9462228145606258064:0=0:=rfl
theorem tw12941109797313437200:0=0:=rfl
theorem tw13649006138715236176:0=0:=rfl
theorem tw10072886904350012272:0=0:=rfl
theorem tw2320032564051505040:0=0:=rfl
theorem tw11118446538278454160:0=0:=rfl
theorem tw3109761417497690257:0=0:=rfl
theorem tw4230474967960500465:0=0:=rfl
theorem tw9463466200334502193:0=0:=rfl
theorem tw14022020736290068849:0=0:=rfl
theorem tw3187624509227389297:0=0:=rfl
theorem tw16441854884986297777:0=0:=rfl
theorem tw4308436770256864753:0=0:=rfl
theorem tw16780387285012132369:0=0:=rfl
theorem tw12870852700323374705:0=0:=rfl
theorem tw12936796158450909841:0=0:=rfl
theorem tw6358020679914729201:0=0:=rfl
theorem tw2809171469036035857:0=0:=rfl
theorem tw4800292838918408977:0=0:=rfl
theorem tw6501886283597227825:0=0:=rfl
theorem tw11442238322979671921:0=0:=rfl
theorem tw10892333139082653553:0=0:=rfl
theorem tw13725967057165293521:0=0:=rfl
theorem tw17538700978693841905:0=0:=rfl
theorem tw9573173739417425938:0=0:=rfl
theorem tw17343464017897449522:0=0:=rfl
theorem tw13757373124604131410:0=0:=rfl
theorem tw4442917277996499090:0=0:=rfl
theorem tw7909697498027975986:0=0:=rfl
theorem tw14249859882619803954:0=0:=rfl
theorem tw920086276483331538:0=0:=rfl
theorem tw12351153554279532018:0=0:=rfl
theorem tw14604396092354782738:0=0:=rfl
theorem tw5113122442614259250:0=0:=rfl
theorem tw5266005783080100466:0=0:=rfl
theorem tw6974307927867004626:0=0:=rfl
theorem tw14043623751747644114:0=0:=rfl
theorem tw1293118081713812210:0=0:=rfl
theorem tw9186641912682116946:0=0:=rfl
theorem tw12321857146007741426:0=0:=rfl
theorem tw7474929740366114931:0=0:=rfl
theorem tw10227290326298575987:0=0:=rfl
theorem tw8379724818283715731:0=0:=rfl
theorem tw6457291410702044467:0=0:=rfl
theorem tw11363542791332777299:0=0:=rfl
theorem tw18115816203912268147:0=0:=rfl
theorem tw12913955866970700179:0=0:=rfl
theorem tw3132487056388268563:0=0:=rfl
theorem tw8306231014024350323:0=0:=rfl
theorem tw2825762539856864883:0=0:=rfl
theorem tw8300033803000968979:0=0:=rfl
theorem tw350681088504194068:0=0:=rfl
theorem tw1413884588739128372:0=0:=rfl
theorem tw8892767506853225524:0=0:=rfl
theorem tw4921674389949639764:0=0:=rfl
theorem tw11534703917282986100:0=0:=rfl
theorem tw9965322417819195604:0=0:=rfl
theorem tw5669989396931816660:0=0:=rfl
theorem tw14166446127854865620:0=0:=rfl
theorem tw17735621952605997332:0=0:=rfl
theorem tw13780430711253961012:0=0:=rfl
theorem tw9000057669558528308:0=0:=rfl
theorem tw17335961034182824276:0=0:=rfl
theorem tw5677929034358967700:0=0:=rfl
theorem tw10447864055578408372:0=0:=rfl
theorem tw1557352923813200308:0=0:=rfl
theorem tw7466231736457249268:0=0:=rfl
theorem tw11058479593457847956:0=0:=rfl
theorem tw17604992335602178708:0=0:=rfl
theorem tw14267973026909872788:0=0:=rfl
theorem tw7993859680206829300:0=0:=rfl
theorem tw9999795769283193620:0=0:=rfl
theorem tw17250560933398331156:0=0:=rfl
theorem tw10820815001450364692:0=0:=rfl
theorem tw14052525402343089044:0=0:=rfl
theorem tw11059663696520162196:0=0:=rfl
theorem tw11902471975541263252:0=0:=rfl
theorem tw11985820746877572020:0=0:=rfl
theorem tw7736635561292998580:0=0:=rfl
theorem tw6535729847592943604:0=0:=rfl
theorem tw1640383761929275380:0=0:=rfl
theorem tw12721686833400290292:0=0:=rfl
theorem tw8553988097141008565:0=0:=rfl
theorem tw8654441823336875253:0=0:=rfl
theorem tw5916778458645713141:0=0:=rfl
theorem tw3442421622466987285:0=0:=rfl
theorem tw5649517898403869013:0=0:=rfl
theorem tw14796385209290791349:0=0:=rfl
theorem tw7095697387136192949:0=0:=rfl
theorem tw13628778111788105173:0=0:=rfl
theorem tw10991888001250930165:0=0:=rfl
theorem tw15751889635774336565:0=0:=rfl
theorem tw505378140760941141:0=0:=rfl
theorem tw13705302996507416149:0=0:=rfl
theorem tw6123137973185110709:0=0:=rfl
theorem tw14424617270606598837:0=0:=rfl
theorem tw2161715246714744565:0=0:=rfl
theorem tw8308029293362897685:0=0:=rfl
theorem tw4148085143111278389:0=0:=rfl
theorem tw1912183338787619669:0=0:=rfl
theorem tw16526910657593405333:0=0:=rfl
theorem tw9178933013103118261:0=0:=rfl
theorem tw7135469085698615221:0=0:=rfl
theorem tw7260288403770485717:0=0:=rfl
theorem tw13357250622077491222:0=0:=rfl
theorem tw14931184791606512726:0=0:=rfl
theorem tw17305877622080337046:0=0:=rfl
theorem tw17934852681649787030:0=0:=rfl
theorem tw9429611470893201654:0=0:=rfl
theorem tw13404299982623802646:0=0:=rfl
theorem tw7633456249722605910:0=0:=rfl
theorem tw9759824171209234774:0=0:=rfl
theorem tw8039959603669716374:0=0:=rfl
theorem tw538984041077224886:0=0:=rfl
theorem tw4074173470342006326:0=0:=rfl
theorem tw9191531993305793142:0=0:=rfl
theorem tw13197145703518901910:0=0:=rfl
theorem tw9253748549875459766:0=0:=rfl
theorem tw3076955619985082070:0=0:=rfl
theorem tw9330771277421855446:0=0:=rfl
theorem tw7980927370835085046:0=0:=rfl
theorem tw15023011609466696470:0=0:=rfl
theorem tw11499111045713835894:0=0:=rfl
theorem tw4503616807738591094:0=0:=rfl
theorem tw4356998482287077334:0=0:=rfl
theorem tw5044243598035440630:0=0:=rfl
theorem tw13802590137161417751:0=0:=rfl
theorem tw3748169152571458615:0=0:=rfl
theorem tw12750885026029982839:0=0:=rfl
theorem tw6410600607934081207:0=0:=rfl
theorem tw14605941060261261559:0=0:=rfl
theorem tw5159778460717217015:0=0:=rfl
theorem tw15874109941664492823:0=0:=rfl
theorem tw3030225183525308823:0=0:=rfl
theorem tw14255444363527021975:0=0:=rfl
theorem tw15673366547409904087:0=0:=rfl
theorem tw1376672003601151607:0=0:=rfl
theorem tw6185206708805271:0=0:=rfl
theorem tw8399460109522963127:0=0:=rfl
theorem tw6208408846175670967:0=0:=rfl
theorem tw9209919527900093111:0=0:=rfl
theorem tw17716203376178963159:0=0:=rfl
theorem tw12019505376973430615:0=0:=rfl
theorem tw8611759676483252280:0=0:=rfl
theorem tw15558708888171301944:0=0:=rfl
theorem tw1923051914955776056:0=0:=rfl
theorem tw8441238278416741464:0=0:=rfl
theorem tw384301330415641848:0=0:=rfl
theorem tw363042054970338552:0=0:=rfl
theorem tw16184797208412169592:0=0:=rfl
theorem tw12650346161234005368:0=0:=rfl
theorem tw3770989527574923672:0=0:=rfl
theorem tw15689670576619411928:0=0:=rfl
theorem tw7543125188190776920:0=0:=rfl
theorem tw14279856329511484088:0=0:=rfl
theorem tw15784944623163857592:0=0:=rfl
theorem tw11443084941876395000:0=0:=rfl
theorem tw16082975402501354521:0=0:=rfl
theorem tw6823325725661935673:0=0:=rfl
theorem tw17859554595758857273:0=0:=rfl
theorem tw3829118888536545401:0=0:=rfl
theorem tw5735851158353374329:0=0:=rfl
theorem tw14945765999629375641:0=0:=rfl
theorem tw6390975652929915033:0=0:=rfl
theorem tw13106490721657353369:0=0:=rfl
theorem tw18037912379161153785:0=0:=rfl
theorem tw9952568417504113913:0=0:=rfl
theorem tw18439719491295625465:0=0:=rfl
theorem tw266180289223425305:0=0:=rfl
theorem tw5009980509918164281:0=0:=rfl
theorem tw12088908537592953177:0=0:=rfl
theorem tw5315485936854392185:0=0:=rfl
theorem tw465172927238055417:0=0:=rfl
theorem tw9864826874490252889:0=0:=rfl
theorem tw12973846671999159961:0=0:=rfl
theorem tw7829533901804905369:0=0:=rfl
theorem tw8657043108064653209:0=0:=rfl
theorem tw857739570548637657:0=0:=rfl
theorem tw7737238479860757626:0=0:=rfl
theorem tw8164201150432598170:0=0:=rfl
theorem tw15879852365662295194:0=0:=rfl
theorem tw2508796998342752506:0=0:=rfl
theorem tw13580248019167508762:0=0:=rfl
theorem tw8518679757019199802:0=0:=rfl
theorem tw3478940749248766330:0=0:=rfl
theorem tw8281937023275570618:0=0:=rfl
theorem tw2959123405071212986:0=0:=rfl
theorem tw2895019685024951802:0=0:=rfl
theorem tw8001281368751356442:0=0:=rfl
theorem tw6978773263502501434:0=0:=rfl
theorem tw4064480075055923898:0=0:=rfl
theorem tw13390270031481446074:0=0:=rfl
theorem tw13955946402032954106:0=0:=rfl
theorem tw6701406124625569594:0=0:=rfl
theorem tw1163241714436960122:0=0:=rfl
theorem tw16575246928130195322:0=0:=rfl
theorem tw13128580104722298778:0=0:=rfl
theorem tw64220761241352122:0=0:=rfl
theorem tw5867358500021388282:0=0:=rfl
theorem tw13655879764945343707:0=0:=rfl
theorem tw8542582500468312283:0=0:=rfl
theorem tw15235350147680385307:0=0:=rfl
theorem tw9314366503370541403:0=0:=rfl
theorem tw9805801459765677467:0=0:=rfl
theorem tw15864300636251128251:0=0:=rfl
theorem tw486067274350962171:0=0:=rfl
theorem tw4362597288131364411:0=0:=rfl
theorem tw2689743378427337307:0=0:=rfl
theorem tw12415077054089125467:0=0:=rfl
theorem tw12777649837621082811:0=0:=rfl
theorem tw6389072498412514011:0=0:=rfl
theorem tw11521878630481011547:0=0:=rfl
theorem tw13200380260988966747:0=0:=rfl
theorem tw12484906692455064411:0=0:=rfl
theorem tw15129158884504540091:0=0:=rfl
theorem tw971038157037228987:0=0:=rfl
theorem tw8840373551801333691:0=0:=rfl
theorem tw16191153796244077628:0=0:=rfl
theorem tw14682708467916140796:0=0:=rfl
theorem tw5491111281631591708:0=0:=rfl
theorem tw111988163746010460:0=0:=rfl
theorem tw1136608877755661692:0=0:=rfl
theorem tw11598782187059533212:0=0:=rfl
theorem tw464114484839932316:0=0:=rfl
theorem tw16193091191212361244:0=0:=rfl
theorem tw1030804251759250076:0=0:=rfl
theorem tw16584876936442270396:0=0:=rfl
theorem tw10221403602734268092:0=0:=rfl
theorem tw14145241894784375516:0=0:=rfl
theorem tw13621910762615354108:0=0:=rfl
theorem tw5711173401867105052:0=0:=rfl
theorem tw17239586806019585884:0=0:=rfl
theorem tw4612136402379409276:0=0:=rfl
theorem tw12645092430814181244:0=0:=rfl
theorem tw18057857811435841436:0=0:=rfl
theorem tw13513963390435232700:0=0:=rfl
theorem tw2498468072960652252:0=0:=rfl
theorem tw5282430630148472796:0=0:=rfl
theorem tw587487428326148125:0=0:=rfl
theorem tw14329730181090153565:0=0:=rfl
theorem tw1907393008557789341:0=0:=rfl
theorem tw10809372012608639165:0=0:=rfl
theorem tw3166609790515235037:0=0:=rfl
theorem tw10648080444887784701:0=0:=rfl
theorem tw618183102520155421:0=0:=rfl
theorem tw4746526414607487357:0=0:=rfl
theorem tw13449625392272873885:0=0:=rfl
theorem tw5131307157131349437:0=0:=rfl
theorem tw5430970515023296061:0=0:=rfl
theorem tw2912028337884190333:0=0:=rfl
theorem tw6742883558557346429:0=0:=rfl
theorem tw16181508173070464669:0=0:=rfl
theorem tw8724658974965569213:0=0:=rfl
theorem tw12215839874629771069:0=0:=rfl
theorem tw4489156788627903325:0=0:=rfl
theorem tw3474161512016200637:0=0:=rfl
theorem tw10323720335282169853:0=0:=rfl
theorem tw17785110807240395806:0=0:=rfl
theorem tw13404428957800642590:0=0:=rfl
theorem tw12903932075467075678:0=0:=rfl
theorem tw5069710176063962398:0=0:=rfl
theorem tw15537647285119614270:0=0:=rfl
theorem tw1023249519858128350:0=0:=rfl
theorem tw8492638252817153662:0=0:=rfl
theorem tw3814743638231486142:0=0:=rfl
theorem tw14135291332254127838:0=0:=rfl
theorem tw8772912664342124286:0=0:=rfl
theorem tw15401475931602467678:0=0:=rfl
theorem tw9760666269384411006:0=0:=rfl
theorem tw13209106515549489086:0=0:=rfl
theorem tw10808685764494987327:0=0:=rfl
theorem tw51680862893113471:0=0:=rfl
theorem tw17322526878743247999:0=0:=rfl
theorem tw17375497761418034367:0=0:=rfl
theorem tw2658403360140526847:0=0:=rfl
theorem tw970557027079356767:0=0:=rfl
theorem tw10056403266000195967:0=0:=rfl
theorem tw18266883892003885503:0=0:=rfl
theorem tw3289897918178336223:0=0:=rfl
theorem tw13409779370169004575:0=0:=rfl
theorem tw5072502291586344511:0=0:=rfl
theorem tw15165641060986089023:0=0:=rfl
theorem tw955842116312611487:0=0:=rfl
theorem tw12432821536449619679:0=0:=rfl
theorem tw15856253810372304607:0=0:=rfl
theorem tw14607680460055301887:0=0:=rfl
theorem tw6037512682894265119:0=0:=rfl
theorem tw18335644391277263711:0=0:=rfl
theorem tw1732324637770299327:0=0:=rfl
theorem tw14848891602739638239:0=0:=rfl
theorem tw8693632212723050806:0=0:=rfl
end PySem.W.Fast
open PySem PySem.W PyProof.Rows
set_option maxRecDepth 100000 in
set_option maxHeartbeats 0 in
theorem PySem.Challenge.cw_disposehall_k14_too_wide_holds : PySem.Challenge.rw_disposehall_k14_too_wide.Holds := by
 w_on;o_law;k_head;(case hw=>w_witness2)
 k_fill
 refine L3.Zni (l:=PySem.Challenge.rw_disposehall_k14_too_wide) (k:=42) (x:="_law_script") rfl rfl ⟨rfl,by decide,by decide⟩ (fun w h Y=>PySem.W.kIn_of Y) ?F
 case F=>
  intro w mg fa h KX G hmg;refine' K14.all_mk KX G hmg ?Z0r ?Z0s ?Z0t ?Z02 ?X8 ?J6 ?Z0l ?Z03 ?Y7 ?Z0h ?Z04 ?Z05 ?Z06 ?Z6 ?Z7 ?Z0 ?Z8 ?X4 ?X6 ?Y8 ?Y0 ?Z5 ?Z07 ?J7 ?Z9 ?X7 ?Z10 ?l_law ?cd_law2 ?k_law ?Z0L ?Z0u ?Z0v ?Z08 ?Z09 ?Z0M ?Z0i ?Z0I ?Z0a ?Z0J ?Z0j ?Z0b ?Z0k ?Z0m ?Z0K ?Z0N ?Z0w ?Z0x ?Z0y ?Z0z ?Z0O ?Z0P ?in_Never ?Z0Q ?Z0R ?Z0A ?Z0B ?Z0C ?Z0D ?Z0S ?Z0T ?Y9 ?Z00 ?Z01 ?Z0U ?Z0V ?Z0E ?Z0F ?Z0G ?Z0H ?Z0W ?Z0X ?X3 ?Z0c ?J8 ?Z0Y ?Z0Z ?Z0d ?Z0e ?Z0f ?Z0g ?Z0n ?Z0o ?Z1 ?J9 ?X5 ?Z0p ?Z0q ?hn ?htk ?g_MOST_CLAUSES ?xl_TooWide ?xN_TooWide ?xe_TooWide ?xi_TooWide ?xl_HallError ?xN_HallError ?xe_HallError ?xi_HallError ?xk_TooWide ?xg_TooWide ?xh_TooWide ?xs_TooWide ?xo_TooWide ?xb_TooWide ?f_k_Never_After ?f_k_Never_Earlier ?f_k_Never_Later ?f_k_After_After ?f_k_After_Earlier ?f_k_After_Later ?f_k_Later_After ?f_k_Later_Earlier ?f_k_Later_Later ?f_k_Earlier_After ?f_k_Earlier_Earlier ?f_k_Earlier_Later ?f_xm_w ?f_xm_h ?f_i_w_ve ?f_i_w_NoDay ?f_i_w_NoLength ?f_i_w_NoTerm ?f_i_w_TooWide ?f_i_w_NoBook ?f_i_w_PutTwice ?f_i_w_HeldTwice ?f_i_w_NoSeries ?f_i_w_RunBack ?f_i_w_Unlike ?f_i_w_NoRow ?z_ValueError ?z_abs ?z_all ?z_any ?z_dict ?z_int ?z_isinstance ?z_len ?z_max ?z_min ?z_range ?z_sorted ?Y4 ?Y5 ?Z2 ?Y6 ?Z3 ?Z4
  (case Z10|Z0L|Z0u|Z0v|Z08|Z09|Z0M|Z0i|Z0I|Z0a|Z0J|Z0j|Z0b|Z0k|Z0m|Z0K|Z0N=>k_is)
  (case xl_TooWide|xl_HallError=>k_is)
  (case xN_TooWide|xN_HallError=>k_is)
  (case Z0r|Z0s|Z0t|Z02|X8|J6|Z0l|Z03|Y7|Z0h|Z04|Z05|Z06|Z6|Z7|Z0|Z8|X4|X6|Y8|Y0|Z5|Z07|J7|Z9|X7=>exact⟨_,_,by k_is,L2.Zhi (by k_is) (by k_is) (by k_is)⟩)
  (case l_law|cd_law2|k_law|Z0w|Z0x|Z0y|Z0z|Z0O|Z0P|in_Never|Z0Q|Z0R|Z0A|Z0B|Z0C|Z0D|Z0S|Z0T|Z00|Z01|Z0U|Z0V|Z0E|Z0F|Z0G|Z0H|Z0W|Z0X|Z0c|J8|Z0Y|Z0Z|Z0d|Z0e|Z0f|Z0g|Z0n|Z0o|J9|X5|Z0p|Z0q|hn|htk|g_MOST_CLAUSES|xi_TooWide|xi_HallError|xg_TooWide|xh_TooWide|xs_TooWide|xo_TooWide|xb_TooWide|z_ValueError|z_abs|z_all|z_any|z_dict|z_int|z_isinstance|z_len|z_max|z_min|z_range|z_sorted=>k_is)
  (case Y9|X3|Z1=>exact⟨_,_,by k_is,by k_is,L2.Zhi (by k_is) (by k_is) (by k_is)⟩)
  (case xe_TooWide|xe_HallError|xk_TooWide|f_k_Never_After|f_k_Never_Earlier|f_k_Never_Later|f_k_After_After|f_k_After_Earlier|f_k_After_Later|f_k_Later_After|f_k_Later_Earlier|f_k_Later_Later|f_k_Earlier_After|f_k_Earlier_Earlier|f_k_Earlier_Later|f_xm_w|f_xm_h|f_i_w_ve|f_i_w_NoDay|f_i_w_NoLength|f_i_w_NoTerm|f_i_w_TooWide|f_i_w_NoBook|f_i_w_PutTwice|f_i_w_HeldTwice|f_i_w_NoSeries|f_i_w_RunBack|f_i_w_Unlike|f_i_w_NoRow=>first|rfl|decide+kernel|k_is)
  (case Y4|Y5|Z2|Y6|Z3|Z4=>decide)
