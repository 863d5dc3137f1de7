import PyProof.Rows.All
import Wide.All
import OpenK.AllK
import Wide.FinOn
import Lean
import PyProof.EqAt
import PyProof.EqKinds
import PyProof.TupleCall
import PySem.Challenge.RW_disposehall_k95_whole_runs_on_days_foret
set_option Elab.async false
set_option linter.all false
set_option maxRecDepth 100000
namespace L2
open PySem PySem.Spec PyProof.Rows
abbrev Key:=Sum Int Str
def Zhv:Key->Value->Bool
 | .inl k,v=>Value.isInt k v
 | .inr x,v=>Value.isStrOf x v
def Zth(w:World):Key->Int
 | .inl k=>hashInt k
 | .inr x=>hashStr w x
theorem Xk:∀{k:Key} {v:Value},Zhv k v=true->(∃i t,k=Sum.inl i/\v=Value.int i t)\/(∃x t,k=Sum.inr x/\v=Value.str x t)
 | .inl i,v,h=>by
  obtain⟨t,e⟩:=Value.isInt_shape (k:=i) (v:=v) h;exact .inl ⟨i,t,rfl,e⟩
 | .inr x,v,h=>by
  obtain⟨t,e⟩:=Value.isStrOf_shape (x:=x) (v:=v) h;exact .inr ⟨x,t,rfl,e⟩
theorem ZnO(i:Int)(t:Tok):Zhv (.inl i) (.int i t)=true:=by simp[Zhv,Value.isInt]
theorem ZnP(x:Str)(t:Tok):Zhv (.inr x) (.str x t)=true:=by simp[Zhv,Value.isStrOf]
theorem Zru(a b:Int):decide ((Sum.inl a:Key)=Sum.inl b)=(a==b):=by
 by_cases e:a=b
 ·subst e;simp
 ·have h:¬(Sum.inl a:Key)=Sum.inl b:=fun q=>e (Sum.inl.inj q);rw[decide_eq_false h];exact(beq_eq_false_iff_ne.mpr e).symm
theorem ZoH(a b:Str):decide ((Sum.inr a:Key)=Sum.inr b)=decide (a=b):=by
 by_cases e:a=b
 ·subst e;simp
 ·have h:¬(Sum.inr a:Key)=Sum.inr b:=fun q=>e (Sum.inr.inj q);rw[decide_eq_false h,decide_eq_false e]
theorem Zrv(a:Int)(b:Str):decide ((Sum.inl a:Key)=Sum.inr b)=false:=decide_eq_false (fun q=>nomatch q)
theorem Zrw(a:Str)(b:Int):decide ((Sum.inr a:Key)=Sum.inl b)=false:=decide_eq_false (fun q=>nomatch q)
def Yy(prog:Program)(w:World):PySem.KeyKind prog w Key where
 is:=Zhv
 hash:=Zth w
 inj:=fun v a b ha hb=>by
  rcases Xk ha with ⟨i,t,rfl,rfl⟩|⟨x,t,rfl,rfl⟩
  ·rcases Xk hb with ⟨j,u,rfl,e⟩|⟨y,u,rfl,e⟩
   ·injection e with e1 _;rw[e1]
   ·exact nomatch e
  ·rcases Xk hb with ⟨j,u,rfl,e⟩|⟨y,u,rfl,e⟩
   ·exact nomatch e
   ·injection e with e1 _;rw[e1]
 byValue:=fun k v h=>by
  rcases Xk h with ⟨i,t,rfl,rfl⟩|⟨x,t,rfl,rfl⟩<;>rfl
 pyHash:=fun hv h=>by
  rcases Xk hv with ⟨i,t,rfl,rfl⟩|⟨x,t,rfl,rfl⟩
  ·exact wpAny_pyHash_int h
  ·exact wpAny_pyHash_str h
 eqBool:=fun hu hv h=>by
  rcases Xk hu with ⟨i,t,rfl,rfl⟩|⟨x,t,rfl,rfl⟩
  ·rcases Xk hv with ⟨j,u,rfl,rfl⟩|⟨y,u,rfl,rfl⟩
   ·rw[Zru] at h;exact wpAny_eqBool_int h
   ·rw[Zrv] at h;exact SeqAt.EqAt.int_str i t y u _ _ _ _ h
  ·rcases Xk hv with ⟨j,u,rfl,rfl⟩|⟨y,u,rfl,rfl⟩
   ·rw[Zrw] at h;exact SeqAt.EqAt.str_int x t j u _ _ _ _ h
   ·rw[ZoH] at h;exact wpAny_eqBool_str h
 «strs»:=fun k x t v h=>by
  rcases Xk h with ⟨i,u,rfl,e⟩|⟨y,u,rfl,e⟩
  ·exact nomatch e
  ·injection e with e1 _
   subst e1;cases v<;>rfl
theorem Zl4(prog:Program)(w:World)(i:Int)(t:Tok):(Yy prog w).is (.inl i) (.int i t)=true:=ZnO i t
theorem Zl5(prog:Program)(w:World)(x:Str)(t:Tok):(Yy prog w).is (.inr x) (.str x t)=true:=ZnP x t
end L2
namespace L2
open PySem PySem.Spec PyProof.Rows
inductive V where
 |non|bl (b:Bool)|int (i:Int)|str (x:Str)|byt (b:Array UInt8)|flt (b:UInt64)|ref (a:Addr)|ty (n:String)
 deriving DecidableEq
def ZX:V->Value->Prop
 | .non,u=>u=Value.none
 | .bl b,u=>u=Value.bool b
 | .int i,u=>∃t,u=Value.int i t
 | .str x,u=>∃t,u=Value.str x t
 | .byt b,u=>∃t,u=Value.bytes b t
 | .flt b,u=>∃t,u=Value.float b t
 | .ref a,u=>u=Value.ref a
 | .ty n,u=>u=Value.type n
abbrev Yc:List V->List Value->Prop:=Paired ZX
theorem Yc.length{xs:List V}{us:List Value}(r:Yc xs us):xs.length=us.length:=Paired.length r
theorem Yc.get:∀{xs:List V} {us:List Value} {i:Nat} {x:V},Yc xs us->xs[i]? =some x->∃u,us[i]? =some u/\ZX x u
 |_,_,_,_,.nil,e=>by simp at e
 |_,_,0,_,.cons r _,e=>by simp at e;subst e;exact⟨_,rfl,r⟩
 |_,_,i+1,x,.cons _ t,e=>by
  obtain⟨u,h1,h2⟩:=Yc.get (i:=i) (x:=x) t (by simpa using e);exact⟨u,by simpa using h1,h2⟩
theorem Yc.append:∀{xs ys:List V} {us ws:List Value},Yc xs us->Yc ys ws->Yc (xs++ys) (us++ws)
 |_,_,_,_,.nil,s=>s
 |_,_,_,_,.cons r t,s=> .cons r (Yc.append t s)
theorem Yc.take:∀{xs:List V} {us:List Value} (n:Nat),Yc xs us->Yc (xs.take n) (us.take n)
 |_,_,0,_=> .nil
 |_,_,_+1,.nil=> .nil
 |_,_,n+1,.cons r t=> .cons r (Yc.take n t)
theorem Yc.drop:∀{xs:List V} {us:List Value} (n:Nat),Yc xs us->Yc (xs.drop n) (us.drop n)
 |_,_,0,r=>r
 |_,_,_+1,.nil=> .nil
 |_,_,n+1,.cons _ t=>Yc.drop n t
def ZcX:Option V->Option Value->Prop
 |some v,some u=>ZX v u
 |none,none=>True
 |_,_=>False
def KV{κ:Type}:List (κ×V)->List (κ×Value)->Prop:=Paired fun(p:κ×V) (q:κ×Value)=>p.1=q.1/\ZX p.2 q.2
def kV:Key->V
 | .inl i=> .int i
 | .inr x=> .str x
inductive HO where
 |lst (xs:List V)
 |tup (xs:List V)
 |dK (kvs:List (Key×V))|dT (kvs:List (List Key×V))
 |set (S:Int->Bool) (n:Nat)
 |ins (C dx:Addr) (fs:List (Str×V))
 |own (x:Addr)
 |xd (fs:List (Str×V))
 |met (f x:Addr)
 |rng (lo hi:Int)
 |frz (o:Obj) (u:HO)
 |tbl (ps:Array Value)
 |ext (φ:Heap->Prop)
abbrev Hp:=Addr->Option HO
def upd(H:Hp)(a:Addr)(o:HO):Hp:=fun b=>if b=a then some o else H b
theorem Zc{H:Hp}{a:Addr}{o:HO}:upd H a o a=some o:=by unfold upd;rw[if_pos rfl]
theorem Zm{H:Hp}{a b:Addr}{o:HO}(h:b≠a):upd H a o b=H b:=by unfold upd;rw[if_neg h]
theorem ZfD{H:Hp}{a:Addr}{o u:HO}:upd (upd H a o) a u=upd H a u:=by
 funext b;unfold upd;split<;>rfl
theorem Yj{H:Hp}{a b:Addr}{o u:HO}(h:H a=some o)(h':H b=some u)(d:o≠u):a≠b:=by
 intro e;subst e;rw[h] at h';exact d (Option.some.inj h')
theorem Zd{H:Hp}{a b:Addr}{o:HO}(h:H a=some o)(h':H b=none):a≠b:=by
 intro e;subst e;rw[h] at h';cases h'
section
variable (P:Program) (w:World)
def XH(H:Hp)(h:Heap)(a:Addr):HO->Prop
 | .lst xs=>xs.length<=sizeLine/\∃(its:List Value) (n:Nat),Yc xs its/\h.get? a=some {cls:=.type "list",data:=.seq its.toArray n}
 | .tup xs=>xs.length<=sizeLine/\∃its:List Value,Yc xs its/\IsTup h a its.toArray
 | .dK kvs=>kvs.length<=sizeLine/\(a==sysModules)=false/\∃vs,KV kvs vs/\h.DictOf (Yy P w) a vs
 | .dT kvs=>kvs.length<=sizeLine/\(a==sysModules)=false/\∃xs:List (List Key×Addr×Value),
   Paired (fun(p:List Key×V) (q:List Key×Addr×Value)=>p.1=q.1/\H q.2.1=some (.tup (p.1.map kV))/\ZX p.2 q.2.2) kvs xs/\
   ∃o es ep,h.get? a=some o/\o.ExactDict/\o.data=.dict es ep/\es.toList=xs.map (entryOfKey (tupleKind (Yy P w)))/\(xs.map (·.1)).Nodup
 | .set S n=>h.SetOf (intKind P w) a S n
 | .ins C dx fs=>H dx=some (.own a)/\fs.length<=1000/\dx≠a/\h.get? a=some (PySem.W.instObj C dx)/\
   ∃mA,h.Ns1 dx mA/\(∀f,ZcX (fs.lookup f) (mA f))/\PySem.Within mA (fs.map (·.1))
 | .own _=>∃o,h.get? a=some o
 | .xd fs=>∃mA,h.Ns1 a mA/\∀f,ZcX (fs.lookup f) (mA f)
 | .rng lo hi=>∃t u v,h.get? a=some {cls:=.type "range",data:=.fields #[.int lo t,.int hi u,.int 1 v]}
 | .frz o u=>h.get? a=some o/\XH H h a u
 | .tbl ps=>h.get? a=some {cls:=.none,data:=.fields ps}
 | .met f x=>h.get? a=some (PySem.W.methodObj (.ref f) (.ref x))
 | .ext φ=>φ h/\(∃o,h.get? a=some o)/\∀h1 h2:Heap,φ h1->(∀o,h1.get? a=some o->h2.get? a=some o)->φ h2
def HOk(H:Hp)(h:Heap):Prop:=∀a o,H a=some o->XH P w H h a o
end
section
variable {P:Program} {w:World} {H H':Hp} {h h':Heap} {a:Addr} {o:HO}
theorem XH.lt(x:XH P w H h a o):a<h.objs.size:=by
 cases o with
 |lst xs=>obtain⟨_,_,_,_,e⟩:=x;exact Heap.lt_size e
 |tup xs=>obtain⟨_,_,_,p⟩:=x;exact p.lt
 |dK kvs=>obtain⟨_,_,_,_,o,_,_,e,_⟩:=x;exact Heap.lt_size e
 |dT kvs=>obtain⟨_,_,_,_,o,_,_,e,_⟩:=x;exact Heap.lt_size e
 |set S n=>obtain⟨o,_,_,_,e,_⟩:=x;exact Heap.lt_size e
 |ins C dx fs=>obtain⟨_,_,_,e,_⟩:=x;exact Heap.lt_size e
 |own y=>obtain⟨_,e⟩:=x;exact Heap.lt_size e
 |xd fs=>obtain⟨_,⟨_,_,_,e,_⟩,_⟩:=x;exact Heap.lt_size e
 |rng lo hi=>obtain⟨_,_,_,e⟩:=x;exact Heap.lt_size e
 |frz ob u=>obtain⟨e,_⟩:=x;exact Heap.lt_size e
 |tbl ps=>exact Heap.lt_size (show h.get? a=some _ from x)
 |met f y=>exact Heap.lt_size (show h.get? a=some _ from x)
 |ext φ=>obtain⟨_,⟨_,e⟩,_⟩:=x;exact Heap.lt_size e
theorem Paired.mapP{α β:Type}{F G:α->β->Prop}:∀{l₁:List α} {l₂:List β},Paired F l₁ l₂->(∀a b,F a b->G a b)->Paired G l₁ l₂
 |_,_,.nil,_=> .nil
 |_,_,.cons r t,f=> .cons (f _ _ r) (Paired.mapP t f)
theorem XH.stay(x:XH P w H h a o)(k:∀b u,(b=a\/H b=some (.own a))->h.get? b=some u->h'.get? b=some u)
  (ho:∀b,H b=some (.own a)->H' b=some (.own a))(ht:∀b xs,H b=some (.tup xs)->H' b=some (.tup xs)):XH P w H' h' a o:=by
 induction o with
 |lst xs=>obtain⟨z,its,n,r,e⟩:=x;exact⟨z,its,n,r,k _ _ (.inl rfl) e⟩
 |tup xs=>obtain⟨z,its,r,ob,e,c⟩:=x;exact⟨z,its,r,ob,k _ _ (.inl rfl) e,c⟩
 |dK kvs=>obtain⟨z,y,vs,r,ob,es,ep,e,c⟩:=x;exact⟨z,y,vs,r,ob,es,ep,k _ _ (.inl rfl) e,c⟩
 |dT kvs=>
  obtain⟨z,y,xs,r,ob,es,ep,e,c⟩:=x;exact⟨z,y,xs,Paired.mapP r fun p q z=>⟨z.1,ht _ _ z.2.1,z.2.2⟩,ob,es,ep,k _ _ (.inl rfl) e,c⟩
 |set S n=>obtain⟨ob,es,ep,t,e,c⟩:=x;exact⟨ob,es,ep,t,k _ _ (.inl rfl) e,c⟩
 |ins C dx fs=>
  obtain⟨d,z,ne,e,mA,⟨od,es,ep,e2,c⟩,r⟩:=x;exact⟨ho _ d,z,ne,k _ _ (.inl rfl) e,mA,⟨od,es,ep,k _ _ (.inr d) e2,c⟩,r⟩
 |own y=>obtain⟨ob,e⟩:=x;exact⟨ob,k _ _ (.inl rfl) e⟩
 |xd fs=>obtain⟨mA,⟨od,es,ep,e,c⟩,r⟩:=x;exact⟨mA,⟨od,es,ep,k _ _ (.inl rfl) e,c⟩,r⟩
 |rng lo hi=>obtain⟨t,u,v,e⟩:=x;exact⟨t,u,v,k _ _ (.inl rfl) e⟩
 |frz ob u ih=>obtain⟨e,q⟩:=x;exact⟨k _ _ (.inl rfl) e,ih q⟩
 |tbl ps=>
  have e:h.get? a=some {cls:=.none,data:=.fields ps}:=x;show h'.get? a=some {cls:=.none,data:=.fields ps};exact k a _ (.inl rfl) e
 |met f y=>
  have e:h.get? a=some (PySem.W.methodObj (.ref f) (.ref y)):=x;show h'.get? a=some (PySem.W.methodObj (.ref f) (.ref y));exact k a _ (.inl rfl) e
 |ext φ=>obtain⟨p,⟨o,e⟩,st⟩:=x;exact⟨st _ _ p fun o q=>k _ _ (.inl rfl) q,⟨o,k _ _ (.inl rfl) e⟩,st⟩
theorem HOk.lt(x:HOk P w H h)(e:H a=some o):a<h.objs.size:=(x a o e).lt
theorem HOk.fresh(x:HOk P w H h)(e:h.objs.size<=a):H a=none:=by
 cases q:H a with
 |none=>rfl
 |some u=>exact absurd (Nat.lt_of_lt_of_le (x.lt q) e) (Nat.lt_irrefl _)
theorem HOk.kept(x:HOk P w H h)(k:∀b u,h.get? b=some u->h'.get? b=some u):HOk P w H h':=fun a o e=>
 (x a o e).stay (fun b u _ q=>k b u q) (fun _ q=>q) fun _ _ q=>q
theorem HOk.laid(x:HOk P w H h)(k:∀b u,h.get? b=some u->h'.get? b=some u)(hp:h.objs.size<=a)(new:XH P w (upd H a o) h' a o):HOk P w (upd H a o) h':=fun b u e=>by
 have hn:=x.fresh hp
 by_cases hb:b=a
 ·subst hb;rw[Zc] at e;cases e;exact new
 ·rw[Zm hb] at e
  exact(x b u e).stay (fun c v _ q=>k c v q) (fun c q=>by rw[Zm (Zd q hn)];exact q) fun c xs q=>by rw[Zm (Zd q hn)];exact q
end
def Rd(H:Hp)(a:Addr)(u:HO):Prop:=H a=some u\/∃o,H a=some (.frz o u)
theorem Rd.ok{P:Program}{w:World}{H:Hp}{h:Heap}{a:Addr}{u:HO}(r:Rd H a u)(x:HOk P w H h):XH P w H h a u:=by
 rcases r with r|⟨o,r⟩
 ·exact x a u r
 ·obtain⟨_,q⟩:=x a _ r;exact q
def Mut:Option HO->Prop
 |some (.lst _)=>True
 |some (.dK _)=>True
 |some (.dT _)=>True
 |some (.set _ _)=>True
 |some (.ins _ _ _)=>True
 |some (.ext _)=>True
 |_=>False
section
variable {P:Program} {w:World} {H:Hp} {h h':Heap} {x e:Addr} {o':HO}
theorem HOk.write(ok:HOk P w H h)(mu:Mut (H x))(he:e=x\/H e=some (.own x))(k:∀b u,b≠e->h.get? b=some u->h'.get? b=some u)(heo:∃u,h'.get? e=some u)
  (new:XH P w (upd H x o') h' x o'):HOk P w (upd H x o') h':=fun b u q=>by
 have nown:∀c y,H c=some (.own y)->c≠x:=fun c y r z=>by subst z;rw[r] at mu;exact mu
 have ntup:∀c xs,H c=some (.tup xs)->c≠x:=fun c xs r z=>by subst z;rw[r] at mu;exact mu
 by_cases hb:b=x
 ·subst hb;rw[Zc] at q;cases q;exact new
 ·rw[Zm hb] at q
  by_cases hbe:b=e
  ·have q':H b=some (.own x):=by
    rcases he with z|z
    ·exact absurd (hbe.trans z) hb
    ·rw[hbe];exact z
   rw[q] at q';cases q'
   obtain⟨v,hv⟩:=heo;exact⟨v,by rw[hbe];exact hv⟩
  ·refine(ok b u q).stay (fun c v hc r=>k c v ?_ r) (fun c r=>by rw[Zm (nown c b r)];exact r) fun c xs r=>by rw[Zm (ntup c xs r)];exact r
   rcases hc with rfl|hc
   ·exact hbe
   ·rintro rfl;rcases he with z|z
    ·exact nown c b hc z
    ·rw[hc] at z;cases z;exact hb rfl
end
structure Un (fs ex:List Addr) (H H':Hp) (h h':Heap):Prop where
 keep:∀b o,h.get? b=some o->H b=none->b∉fs->b∉ex->h'.get? b=some o
 slot:∀b o,h.get? b=some o->H b=none->b∈fs->b∉ex->∃sl,h'.get? b=some {o with slots:=sl}
 free:∀b o,h.get? b=some o->H b=none->b∉ex->H' b=none
 there:∀b o,h.get? b=some o->b∉ex->∃o',h'.get? b=some o'
 tups:∀b xs,H b=some (.tup xs)->H' b=some (.tup xs)
 frzs:∀b o u,H b=some (.frz o u)->H' b=some (.frz o u)
 tbls:∀b ps,H b=some (.tbl ps)->∃more,H' b=some (.tbl (ps++more))
section
variable {fs fs' ex ex':List Addr} {H H1 H2:Hp} {h h1 h2 h':Heap} {a x e:Addr} {o:HO}
theorem Un.any(u:Un fs ex H H1 h h1){b:Addr}{ob:Obj}(q:h.get? b=some ob)(n:H b=none)(hx:b∉ex):∃sl,h1.get? b=some {ob with slots:=sl}:=by
 by_cases hb:b∈fs
 ·exact u.slot b ob q n hb hx
 ·exact⟨ob.slots,u.keep b ob q n hb hx⟩
theorem Un.kept(k:∀b u,h.get? b=some u->h'.get? b=some u):Un fs ex H H h h':=
 ⟨fun b ob q _ _ _=>k b ob q,fun b ob q _ _ _=>⟨ob.slots,k b ob q⟩,fun _ _ _ n _=>n,fun b ob q _=>⟨ob,k b ob q⟩,fun _ _ q=>q,fun _ _ _ q=>q,fun _ ps q=>⟨#[],by rw[q];simp⟩⟩
theorem Un.refl:Un fs ex H H h h:=Un.kept fun _ _ q=>q
theorem Un.laid(k:∀b u,h.get? b=some u->h'.get? b=some u)(hp:h.objs.size<=a)(hn:H a=none):Un fs ex H (upd H a o) h h' where
 keep:=fun b u q _ _ _=>k b u q
 slot:=fun b u q _ _ _=>⟨u.slots,k b u q⟩
 free:=fun b u q n _=>by rw[Zm (Nat.ne_of_lt (Nat.lt_of_lt_of_le (Heap.lt_size q) hp))];exact n
 there:=fun b u q _=>⟨u,k b u q⟩
 tups:=fun b xs q=>by rw[Zm (Zd q hn)];exact q
 frzs:=fun b u xs q=>by rw[Zm (Zd q hn)];exact q
 tbls:=fun b ps q=>⟨#[],by rw[Zm (Zd q hn),q];simp⟩
theorem Un.write(mu:Mut (H x))(he:e=x\/H e=some (.own x))(k:∀b u,b≠e->h.get? b=some u->h'.get? b=some u)(heo:∃u,h'.get? e=some u):Un fs ex H (upd H x o) h h':=by
 have hx:∀b,H b=none->b≠x:=fun b n z=>by subst z;rw[n] at mu;exact mu
 have hb:∀b,H b=none->b≠e:=fun b n z=>by
  subst z;rcases he with r|r
  ·exact hx b n r
  ·rw[n] at r;cases r
 have hm:∀b u,H b=some u->¬Mut (some u)->b≠x:=fun b u q nm z=>by subst z;rw[q] at mu;exact nm mu
 refine⟨fun b u q n _ _=>k b u (hb b n) q,fun b u q n _ _=>⟨u.slots,k b u (hb b n) q⟩,fun b u q n _=>by rw[Zm (hx b n)];exact n,fun b u q _=> ?_,
  fun b xs q=>by rw[Zm (hm b _ q fun z=>z)];exact q,fun b u xs q=>by rw[Zm (hm b _ q fun z=>z)];exact q,fun b ps q=>⟨#[],by rw[Zm (hm b _ q fun z=>z),q];simp⟩⟩
 by_cases hbe:b=e
 ·subst hbe;exact heo
 ·exact⟨u,k b u hbe q⟩
end
def trk(h:Heap)(H:Hp):List Addr:=(List.range h.objs.size).filter fun a=>(H a).isSome
def ZjN(h:Heap)(H:Hp):Heap:=PySem.W.hideAll h (trk h H)
theorem ZnQ(h:Heap)(H:Hp):(ZjN h H).objs.size=h.objs.size:=PySem.W.hideAll_size _ _
theorem ZoI{h:Heap}{H:Hp}{b:Addr}{o:Obj}(e:h.get? b=some o)(n:H b=none):(ZjN h H).get? b=some o:=
 PySem.W.hideAll_get _ e fun hm=>by
  have q:(H b).isSome=true:=(List.mem_filter.mp hm).2;rw[n] at q;simp at q
theorem Zql{h:Heap}{H:Hp}{b:Addr}{o:Obj}(e:(ZjN h H).get? b=some o):h.get? b=some o/\H b=none:=by
 have e':h.get? b=some o:=PySem.W.of_hideAll (trk h H) e;refine⟨e', ?_⟩;cases q:H b with
 |none=>rfl
 |some x=>
  have hm:b∈trk h H:=List.mem_filter.mpr ⟨List.mem_range.mpr (Heap.lt_size e'),by simp[q]⟩;have z:(ZjN h H).get? b=none:=PySem.W.hideAll_none (trk h H) hm;rw[z] at e;cases e
def Zhf(g h:Heap)(L:Addr):List (Addr×Obj):=(List.range h.objs.size).filterMap fun a=>if a=L\/(g.get? a).isSome=true then none else(h.get? a).map fun o=>(a,o)
theorem ZgM{g h:Heap}{L a:Addr}{o:Obj}(h1:a≠L)(h2:g.get? a=none)(h3:h.get? a=some o):(a,o)∈Zhf g h L:=
 List.mem_filterMap.mpr ⟨a,List.mem_range.mpr (Heap.lt_size h3),by simp[h1,h2,h3]⟩
theorem Zhw{g h:Heap}{L:Addr}{p:Addr×Obj}(hp:p∈Zhf g h L):p.1≠L/\g.get? p.1=none/\h.get? p.1=some p.2:=by
 obtain⟨b,_,e⟩:=List.mem_filterMap.mp hp
 split at e
 ·cases e
 ·rename_i hn
  cases q:h.get? b with
  |none=>rw[q] at e;simp at e
  |some u=>
   rw[q] at e
   simp only [Option.map_some,Option.some.injEq] at e
   subst e;refine⟨fun z=>hn (.inl z), ?_,q⟩;show g.get? b=none;cases r:g.get? b with
   |none=>rfl
   |some v=>exact(hn (.inr (by simp[r]))).elim
theorem ZoJ{g h:Heap}{L:Addr}:News g L h (Zhf g h L):=fun p hp=>let ⟨a,b,c⟩:=Zhw hp;⟨c,a,b⟩
end L2
namespace L2
open PySem PySem.Spec PyProof.Rows
structure Mod (K:PySem.W.Frag) (mg:Str->Option Value) (base:Heap):Prop where
 kin:K.In base
 glob:base.Ns mainGlobals mg
 blt:∃mb,base.Ns builtinsNs mb/\∀x:Str,x≠"__name__"->mb x=bootBuiltins x
 nolimit:base.NoLimit
structure Cx where
 prog:Program
 w:World
 K:PySem.W.Frag
 mg:Str->Option Value
 base:Heap
 A:Around
 N:List Str
 s₀:Shared
 H₀:Hp
 env:Env
 outer:List Env
 stack:List Env
 ex:List Addr
 fn:Str->Bool
 calm:Bool
 pn:List (Addr×Obj)
 xe:Value->Shared->Prop
def frs(l:List Env):List Addr:=l.filterMap (·.frame)
abbrev Cx.fs(X:Cx):List Addr:=frs X.outer
def Vis(sc:Scope)(x:Str):Prop:=sc.names.lookup x=some .local\/sc.names.lookup x=some .cell\/sc.names.lookup x=some .free
def Loc(sc:Scope)(x:Str):Prop:=sc.names.lookup x=some .local\/sc.names.lookup x=some .cell
def Zti(env:Env)(h:Heap)(m:Str->Option Value)(x:Str)(u:Value):Prop:=
 (env.kindOf x=some .local/\m x=some u)\/((env.kindOf x=some .cell\/env.kindOf x=some .free)/\∃c,env.cells.lookup x=some c/\h.IsCell c (some u))
structure Cx.Ok (X:Cx):Prop where
 mod:Mod X.K X.mg X.base
 kind:X.env.scope.kind=.function
 glob:X.env.globals=mainGlobals
 blt:X.env.builtins=builtinsNs
 above:X.s₀.heap.objs.size<=X.env.locals
 inj:∀x y c,X.env.cells.lookup x=some c->X.env.cells.lookup y=some c->x=y
 has:∀x,(X.env.kindOf x=some .cell\/X.env.kindOf x=some .free)->∃c,X.env.cells.lookup x=some c
 cab:∀x c,X.fn x=true->X.env.cells.lookup x=some c->X.s₀.heap.objs.size<=c
 hd:X.calm=true->X.A.handled=none
 frames:X.A.frames=some X.stack
 stk:X.stack=X.outer\/(X.stack=X.env::X.outer/\X.env.frame=some X.env.locals)
 exf:∀b∈X.ex,b≠X.env.locals/\∀x c,X.env.cells.lookup x=some c->c≠b
 bs:∀b o,X.base.get? b=some o->X.s₀.heap.get? b=some o/\X.H₀ b=none
 bsz:X.base.objs.size<=X.s₀.heap.objs.size
 noex:∀b o,X.base.get? b=some o->b∉X.ex
 exfs:∀b∈X.ex,b∉X.fs
 funs:X.s₀.heap.FunFrames X.base X.outer
 frf:∀b∈X.fs,X.H₀ b=none
structure Inv (X:Cx) (pins:List (Addr×Obj)) (σ:List (Option V)) (H:Hp) (s:Shared):Prop where
 ok:X.Ok
 os:s.os=X.s₀.os
 bare:AllBare s.gens
 base:Un X.fs X.ex X.H₀ H X.s₀.heap s.heap
 loc:∃m,s.heap.Ns X.env.locals m/\∀(i:Nat) (x:Str) (v:V),X.N[i]? =some x->σ[i]? =some (some v)->Vis X.env.scope x->∃u,ZX v u/\Zti X.env s.heap m x u
 cell:∀x c,X.env.cells.lookup x=some c->∃v,s.heap.IsCell c v
 free:H X.env.locals=none
 freeC:∀x c,X.env.cells.lookup x=some c->H c=none
 pin:∀p∈X.pn++pins,s.heap.get? p.1=some p.2/\H p.1=none/\p.1≠X.env.locals/\p.1∉X.fs/\∀v,p.2.data≠.cell v
 hok:HOk X.prog X.w H s.heap
 len:σ.length=X.N.length
section
variable {X:Cx} {pins:List (Addr×Obj)} {σ:List (Option V)} {H H':Hp} {s:Shared} {h':Heap}
theorem Cx.Ok.nofr(ok:X.Ok){b:Addr}{o:Obj}(e:X.base.get? b=some o):b∉X.fs:=fun hb=>by
 have:=(ok.funs.mem hb).1;rw[e] at this;cases this
theorem Inv.bs(I:Inv X pins σ H s):∀b o,X.base.get? b=some o->s.heap.get? b=some o/\H b=none:=fun b o e=>
 ⟨I.base.keep b o (I.ok.bs b o e).1 (I.ok.bs b o e).2 (I.ok.nofr e) (I.ok.noex b o e),I.base.free b o (I.ok.bs b o e).1 (I.ok.bs b o e).2 (I.ok.noex b o e)⟩
theorem Inv.bk(I:Inv X pins σ H s):∀b o,X.base.get? b=some o->s.heap.get? b=some o:=fun b o e=>(I.bs b o e).1
theorem Inv.mod(I:Inv X pins σ H s):Mod X.K X.mg X.base:=I.ok.mod
theorem Inv.kIn(I:Inv X pins σ H s):X.K.In s.heap:=I.ok.mod.kin.keeps I.bk
theorem Inv.fr(I:Inv X pins σ H s):∃m,Fr X.base X.env.locals s.heap m:=
 let ⟨m,hn,_⟩:=I.loc
 ⟨m,hn,I.bk,Nat.le_trans I.ok.bsz I.ok.above⟩
theorem Inv.lt(I:Inv X pins σ H s):X.env.locals<s.heap.objs.size:=let ⟨_,hn,_⟩:=I.loc;hn.lt
theorem Inv.sz(I:Inv X pins σ H s):X.s₀.heap.objs.size<=s.heap.objs.size:=Nat.le_trans I.ok.above (Nat.le_of_lt I.lt)
theorem Inv.nofs(I:Inv X pins σ H s){a:Addr}(h:s.heap.objs.size<=a):a∉X.fs:=fun hb=>by
 obtain⟨_,o,ho,_⟩:=I.ok.funs.mem hb;exact absurd (Nat.lt_of_lt_of_le (Heap.lt_size ho) (Nat.le_trans I.sz h)) (Nat.lt_irrefl _)
theorem Inv.cne(I:Inv X pins σ H s):∀x c,X.env.cells.lookup x=some c->c≠X.env.locals:=fun x c e z=>by
 obtain⟨v,o,ho,hd⟩:=I.cell x c e;obtain⟨m,⟨o',es,ep,ho',hd',_⟩,_⟩:=I.loc;rw[z,ho'] at ho;cases ho;rw[hd'] at hd;cases hd
theorem Inv.funs(I:Inv X pins σ H s):s.heap.FunFrames X.base X.outer:=by
 have all:∀(l:List Env),(∀b∈frs l,b∈X.fs)->X.s₀.heap.FunFrames X.base l->s.heap.FunFrames X.base l:=by
  intro l
  induction l with
  |nil=>intro _ _;trivial
  |cons env r ih=>
   intro hs hl;obtain⟨hk,⟨L,o,hf,hn,ho,hd⟩,hr⟩:=hl;have hL:L∈X.fs:=hs L (by unfold frs;rw[List.filterMap_cons,hf];exact List.mem_cons_self)
   obtain⟨sl,e⟩:=I.base.slot L o ho (I.ok.frf L hL) hL fun z=>I.ok.exfs L z hL;exact⟨hk,⟨L,_,hf,hn,e,hd⟩,ih (fun b hb=>hs b (by unfold frs;rw[List.filterMap_cons,hf];exact List.mem_cons_of_mem _ hb)) hr⟩
 exact all X.outer (fun _ hb=>hb) I.ok.funs
theorem Inv.stack(I:Inv X pins σ H s):s.heap.FunFrames X.base X.stack:=by
 rcases I.ok.stk with e|⟨e,hf⟩
 ·rw[e];exact I.funs
 ·rw[e];obtain⟨m,hn,_⟩:=I.loc;refine .cons (by rw[I.ok.kind];decide) hf hn ?_ I.funs
  exact Heap.get?_none_of_le (Nat.le_trans I.ok.bsz I.ok.above)
theorem Inv.stkSub(I:Inv X pins σ H s):∀b∈frs X.stack,b∈X.env.locals::X.fs:=fun b hb=>by
 rcases I.ok.stk with e|⟨e,hf⟩
 ·rw[e] at hb;exact List.mem_cons_of_mem _ hb
 ·rw[e] at hb
  unfold frs at hb
  rw[List.filterMap_cons,hf] at hb
  exact hb
theorem Inv.stkFree(I:Inv X pins σ H s):∀b∈frs X.stack,H b=none:=fun b hb=>by
 rcases List.mem_cons.mp (I.stkSub b hb) with e|hb
 ·rw[e];exact I.free
 ·obtain⟨_,o,ho,_⟩:=I.ok.funs.mem hb;exact I.base.free b o ho (I.ok.frf b hb) fun z=>I.ok.exfs b z hb
theorem Inv.step{g':Array GenState}{t':Nat}{d':Drawn}{ch:List Addr}(I:Inv X pins σ H s)
  (hch:∀b∈ch,(b∈X.ex\/X.s₀.heap.objs.size<=b)/\b≠X.env.locals/\(∀x c,X.env.cells.lookup x=some c->c≠b)/\∀p∈X.pn++pins,p.1≠b)
  (keep:∀b o,b≠X.env.locals->b∉X.fs->b∉ch->s.heap.get? b=some o->H b=none->h'.get? b=some o)
  (slot:∀b o,b≠X.env.locals->b∈X.fs->b∉ch->s.heap.get? b=some o->H b=none->∃sl,h'.get? b=some {o with slots:=sl})(free:∀b o,b∉ch->s.heap.get? b=some o->H b=none->H' b=none)
  (there:∀b o,b∉ch->s.heap.get? b=some o->∃o',h'.get? b=some o')
  (tups:∀b xs,H b=some (.tup xs)->H' b=some (.tup xs))(frzs:∀b o u,H b=some (.frz o u)->H' b=some (.frz o u))(tbls:∀b ps,H b=some (.tbl ps)->∃more,H' b=some (.tbl (ps++more)))
  (ns:∀m,s.heap.Ns X.env.locals m->h'.Ns X.env.locals m)(hok:HOk X.prog X.w H' h')(hg:AllBare g'):
  Inv X pins σ H' {s with heap:=h',gens:=g',drawn:=d',toks:=t'}:=by
 have neL:∀b o,X.s₀.heap.get? b=some o->b≠X.env.locals:=fun b o e=>Nat.ne_of_lt (Nat.lt_of_lt_of_le (Heap.lt_size e) I.ok.above);have neC:∀b o,X.s₀.heap.get? b=some o->b∉X.ex->b∉ch:=fun b o e hx hb=>by
  rcases(hch b hb).1 with z|z
  ·exact hx z
  ·exact absurd (Nat.lt_of_lt_of_le (Heap.lt_size e) z) (Nat.lt_irrefl _)
 have cellK:∀x c,X.env.cells.lookup x=some c->∀v,s.heap.IsCell c v->h'.IsCell c v:=fun x c e v ⟨o,ho,hd⟩=>by
  have nch:c∉ch:=fun z=>(hch c z).2.2.1 x c e rfl
  by_cases hc:c∈X.fs
  ·obtain⟨sl,q⟩:=slot c o (I.cne x c e) hc nch ho (I.freeC x c e);exact⟨_,q,hd⟩
  ·exact⟨o,keep c o (I.cne x c e) hc nch ho (I.freeC x c e),hd⟩
 refine⟨I.ok,I.os,hg,⟨fun b o e n hb hx=> ?_,fun b o e n hb hx=> ?_,fun b o e n hx=> ?_,fun b o e hx=> ?_,fun b xs e=>tups b xs (I.base.tups b xs e),fun b o xs e=>frzs b o xs (I.base.frzs b o xs e),fun b ps e=> ?_⟩, ?_,fun x c e=> ?_, ?_,fun x c e=> ?_,fun p hp=> ?_,hok,I.len⟩
 ·exact keep b o (neL b o e) hb (neC b o e hx) (I.base.keep b o e n hb hx) (I.base.free b o e n hx)
 ·obtain⟨sl,e1⟩:=I.base.slot b o e n hb hx;obtain⟨sl',e2⟩:=slot b _ (neL b o e) hb (neC b o e hx) e1 (I.base.free b o e n hx);exact⟨sl',e2⟩
 ·obtain⟨o',e1⟩:=I.base.there b o e hx;exact free b o' (neC b o e hx) e1 (I.base.free b o e n hx)
 ·obtain⟨o',e1⟩:=I.base.there b o e hx;exact there b o' (neC b o e hx) e1
 ·obtain⟨m1,e1⟩:=I.base.tbls b ps e;obtain⟨m2,e2⟩:=tbls b _ e1;exact⟨m1++m2,by rw[e2,Array.append_assoc]⟩
 ·obtain⟨m,hn,hl⟩:=I.loc;refine⟨m,ns m hn,fun i x v e1 e2 e3=> ?_⟩;obtain⟨u,r,l⟩:=hl i x v e1 e2 e3;refine⟨u,r, ?_⟩;rcases l with l|⟨k,c,e,z⟩
  ·exact .inl l
  ·exact .inr ⟨k,c,e,cellK x c e _ z⟩
 ·obtain⟨v,z⟩:=I.cell x c e;exact⟨v,cellK x c e v z⟩
 ·obtain⟨m,⟨o,_,_,ho,_⟩,_⟩:=I.loc;exact free _ o (fun z=>(hch _ z).2.1 rfl) ho I.free
 ·obtain⟨v,o,ho,hd⟩:=I.cell x c e;exact free c o (fun z=>(hch c z).2.2.1 x c e rfl) ho (I.freeC x c e)
 ·obtain⟨e,n,ne,nf,d⟩:=I.pin p hp;have nch:p.1∉ch:=fun z=>(hch p.1 z).2.2.2 p hp rfl;exact⟨keep p.1 p.2 ne nf nch e n,free p.1 p.2 nch e n,ne,nf,d⟩
theorem Inv.un{t':Nat}(I:Inv X pins σ H s)(u:Un X.fs [] H H' s.heap h')(hok:HOk X.prog X.w H' h'):Inv X pins σ H' {s with heap:=h',toks:=t'}:=by
 obtain⟨m,⟨o,es,ep,ho,r⟩,_⟩:=id I.loc;obtain⟨sl,hL⟩:=u.any ho I.free (by simp);exact I.step (g':=s.gens) (d':=s.drawn) (ch:=[]) (fun _ z=>nomatch z) (fun b o _ hb _ e n=>u.keep b o e n hb (by simp)) (fun b o _ hb _ e n=>u.slot b o e n hb (by simp)) (fun b o _ e n=>u.free b o e n (by simp)) (fun b o _ e=>u.there b o e (by simp)) u.tups u.frzs u.tbls (fun m' hm=>by
  obtain⟨o',es',ep',ho',r'⟩:=hm;rw[ho] at ho';cases ho'
  exact⟨_,es',ep',hL,r'⟩) hok I.bare
theorem Inv.call{g':Array GenState}{t':Nat}{d':Drawn}{ch:List Addr}(I:Inv X pins σ H s)(u:Un (frs X.stack) ch H H' s.heap h')(hok:HOk X.prog X.w H' h')(hg:AllBare g')
  (hch:∀b∈ch,(b∈X.ex\/X.s₀.heap.objs.size<=b)/\b≠X.env.locals/\(∀x c,X.env.cells.lookup x=some c->c≠b)/\∀p∈X.pn++pins,p.1≠b):
  Inv X pins σ H' {s with heap:=h',gens:=g',drawn:=d',toks:=t'}:=by
 obtain⟨m,⟨o,es,ep,ho,r⟩,_⟩:=id I.loc;obtain⟨sl,hL⟩:=u.any ho I.free fun z=>(hch _ z).2.1 rfl;exact I.step (ch:=ch) hch (fun b o hL hb hc e n=>u.keep b o e n (fun z=>(List.mem_cons.mp (I.stkSub b z)).elim hL hb) hc) (fun b o _ _ hc e n=>u.any e n hc) (fun b o hc e n=>u.free b o e n hc) (fun b o hc e=>u.there b o e hc) u.tups u.frzs u.tbls (fun m' hm=>by
  obtain⟨o',es',ep',ho',r'⟩:=hm;rw[ho] at ho';cases ho'
  exact⟨_,es',ep',hL,r'⟩) hok hg
theorem Inv.turned{t':Nat}{it:Addr}(I:Inv X pins σ H s)(k:∀b o,b≠it->s.heap.get? b=some o->h'.get? b=some o)(hn:H it=none)(hL:it≠X.env.locals)
  (h1:it∈X.ex\/X.s₀.heap.objs.size<=it)(h2:∀x c,X.env.cells.lookup x=some c->c≠it)(h3:∀p∈X.pn++pins,p.1≠it):Inv X pins σ H {s with heap:=h',toks:=t'}:=by
 have nit:∀b u,H b=some u->b≠it:=fun b u e z=>by rw[z,hn] at e;cases e
 refine I.step (g':=s.gens) (d':=s.drawn) (ch:=[it]) (fun b hb=> ?_) (fun b o _ _ hc e _=>k b o (fun z=>hc (by simp[z])) e) (fun b o _ _ hc e _=>⟨o.slots,k b o (fun z=>hc (by simp[z])) e⟩) (fun _ _ _ _ n=>n)
  (fun b o hc e=>⟨o,k b o (fun z=>hc (by simp[z])) e⟩) (fun _ _ e=>e) (fun _ _ _ e=>e) (fun b ps e=>⟨#[],by rw[e];simp⟩) (fun m hm=> ?_) (fun b u e=> ?_) I.bare
 ·have e:b=it:=by simpa using hb
  subst e;exact⟨h1,hL,h2,h3⟩
 ·obtain⟨o,es,ep,ho,r⟩:=hm;exact⟨o,es,ep,k _ o (Ne.symm hL) ho,r⟩
 ·refine(I.hok b u e).stay (fun c v hc q=>k c v ?_ q) (fun _ q=>q) fun _ _ q=>q;rcases hc with z|z
  ·rw[z];exact nit b u e
  ·exact nit c _ z
theorem Inv.tok(I:Inv X pins σ H s)(t:Nat):Inv X pins σ H {s with toks:=t}:=I.un (h':=s.heap) (t':=t) Un.refl I.hok
theorem Inv.kept{t':Nat}(I:Inv X pins σ H s)(k:∀b u,s.heap.get? b=some u->h'.get? b=some u):Inv X pins σ H {s with heap:=h',toks:=t'}:=I.un (Un.kept k) (I.hok.kept k)
theorem Inv.laid{a:Addr}{o:HO}{t':Nat}(I:Inv X pins σ H s)(k:∀b u,s.heap.get? b=some u->h'.get? b=some u)(hp:s.heap.objs.size<=a)(new:XH X.prog X.w (upd H a o) h' a o):
  Inv X pins σ (upd H a o) {s with heap:=h',toks:=t'}:=I.un (Un.laid k hp (I.hok.fresh hp)) (I.hok.laid k hp new)
theorem Inv.write{x e:Addr}{o:HO}{t':Nat}(I:Inv X pins σ H s)(mu:Mut (H x))(he:e=x\/H e=some (.own x))(k:∀b u,b≠e->s.heap.get? b=some u->h'.get? b=some u)(heo:∃u,h'.get? e=some u)
  (new:XH X.prog X.w (upd H x o) h' x o):Inv X pins σ (upd H x o) {s with heap:=h',toks:=t'}:=I.un (Un.write mu he k heo) (I.hok.write mu he k heo new)
theorem Inv.weak{σ':List (Option V)}(I:Inv X pins σ H s)(hl:σ'.length=σ.length)(w:∀(i:Nat) v,σ'[i]? =some (some v)->σ[i]? =some (some v)):Inv X pins σ' H s:=
 ⟨I.ok,I.os,I.bare,I.base,let ⟨m,hn,hl'⟩:=I.loc;⟨m,hn,fun i x v e1 e2 e3=>hl' i x v e1 (w i v e2) e3⟩,I.cell,I.free,I.freeC,I.pin,I.hok,hl.trans I.len⟩
theorem Inv.pins_of{pins':List (Addr×Obj)}(I:Inv X pins σ H s)(h:∀p∈pins',s.heap.get? p.1=some p.2/\H p.1=none/\p.1≠X.env.locals/\p.1∉X.fs/\∀v,p.2.data≠.cell v):Inv X pins' σ H s:=
 ⟨I.ok,I.os,I.bare,I.base,I.loc,I.cell,I.free,I.freeC,fun p hp=>(List.mem_append.mp hp).elim (fun z=>I.pin p (List.mem_append_left _ z)) (h p),I.hok,I.len⟩
theorem Zl6{N:List Str}(hN:N.Nodup){i j:Nat}{x:Str}(a:N[i]? =some x)(b:N[j]? =some x):i=j:=by
 obtain⟨h1,e1⟩:=List.getElem?_eq_some_iff.mp a;obtain⟨h2,e2⟩:=List.getElem?_eq_some_iff.mp b;exact(List.getElem_inj hN).mp (e1.trans e2.symm)
theorem ZnR{M:Model}{A:Around}{E:Value->Shared->Prop}{i:Nat}{x:Str}{v:V}{u:Value}{Q:Unit->Shared->Prop}(I:Inv X pins σ H s)(hN:X.N.Nodup)(hi:X.N[i]? =some x)(hx:Loc X.env.scope x)(r:ZX v u)
  (h:∀s',Inv X pins (σ.set i (some v)) H s'->(∃a,Heap.SameBut a s.heap s'.heap/\(a=X.env.locals\/X.env.cells.lookup x=some a))->Q () s')(hf:X.fn x=true\/X.env.scope.names.lookup x=some .local:=by first|exact .inl rfl|exact .inr rfl|assumption):wpAny M A (storeName X.env x u) Q E s:=by
 obtain⟨m,hn,hl⟩:=id I.loc;have hcls:(X.env.scope.kind==.class||(X.env.scope.kind==.module&&X.env.locals !=X.env.globals))=false:=by rw[I.ok.kind];rfl
 have hiσ:i<σ.length:=by rw[I.len];exact(List.getElem?_eq_some_iff.mp hi).1
 have cne:=I.cne;have tracked:∀{a:Addr} {h':Heap},(∃o,s.heap.get? a=some o/\H a=none)->Heap.SameBut a s.heap h'->HOk X.prog X.w H h':=fun{a h'} ha hs b ob e=>by
  obtain⟨_,_,hfree⟩:=ha;refine(I.hok b ob e).stay (fun c w' hc q=>(hs.2 c ?_).trans q) (fun _ q=>q) fun _ _ q=>q;rintro rfl;rcases hc with rfl|hc
  ·rw[hfree] at e;cases e
  ·rw[hfree] at hc;cases hc
 rcases hx with hk|hk
 ·refine wpAny_storeName_local hk hn (fun h' hn' hs=> ?_) hcls;obtain⟨oL,_,_,hoL,_⟩:=id hn;refine h _ ⟨I.ok,I.os,I.bare,⟨fun b o e n hb hx=> ?_,fun b o e n hb hx=> ?_,I.base.free,fun b o e hx=> ?_,I.base.tups,I.base.frzs,I.base.tbls⟩,⟨_,hn',fun j y v' e1 e2 e3=> ?_⟩,fun y c e=> ?_,I.free,I.freeC,fun p hp=> ?_,tracked ⟨oL,hoL,I.free⟩ hs,by simpa using I.len⟩ ⟨_,hs,.inl rfl⟩
  ·exact(hs.2 b (Nat.ne_of_lt (Nat.lt_of_lt_of_le (Heap.lt_size e) I.ok.above))).trans (I.base.keep b o e n hb hx)
  ·obtain⟨sl,e1⟩:=I.base.slot b o e n hb hx;exact⟨sl,(hs.2 b (Nat.ne_of_lt (Nat.lt_of_lt_of_le (Heap.lt_size e) I.ok.above))).trans e1⟩
  ·obtain⟨o',e1⟩:=I.base.there b o e hx;exact⟨o',(hs.2 b (Nat.ne_of_lt (Nat.lt_of_lt_of_le (Heap.lt_size e) I.ok.above))).trans e1⟩
  ·by_cases hj:j=i
   ·subst hj;rw[hi] at e1;cases e1
    rw[List.getElem?_set_self hiσ] at e2
    cases e2;exact⟨u,r,.inl ⟨hk,by simp⟩⟩
   ·rw[List.getElem?_set_ne (Ne.symm hj)] at e2
    obtain⟨u',r',q⟩:=hl j y v' e1 e2 e3;refine⟨u',r', ?_⟩;rcases q with ⟨k,e⟩|⟨k,c,e,z⟩
    ·refine .inl ⟨k, ?_⟩;have:y≠x:=fun e=>hj (Zl6 hN e1 (e▸hi));simp[this,e]
    ·exact .inr ⟨k,c,e,z.sameBut hs (cne y c e)⟩
  ·obtain⟨w',z⟩:=I.cell y c e;exact⟨w',z.sameBut hs (cne y c e)⟩
  ·obtain⟨e,n,ne,nf,d⟩:=I.pin p hp;exact⟨(hs.2 p.1 ne).trans e,n,ne,nf,d⟩
 ·have hfn:X.fn x=true:=by
   rcases hf with z|z
   ·exact z
   ·rw[z] at hk;cases hk
  obtain⟨c,hc⟩:=I.ok.has x (.inl hk);obtain⟨w',z⟩:=I.cell x c hc;refine wpAny_storeName_cell I.ok.kind hk hc z (fun h' hc' hs=> ?_);obtain⟨oc,hoc,hocd⟩:=id z;refine h {s with heap:=h'} ⟨I.ok,I.os,I.bare,⟨fun b o e n hb hx=> ?_,fun b o e n hb hx=> ?_,I.base.free,fun b o e hx=> ?_,I.base.tups,I.base.frzs,I.base.tbls⟩,⟨m,hn.sameBut hs (Ne.symm (cne x c hc)),fun j y v' e1 e2 e3=> ?_⟩,fun y c' e=> ?_,I.free,I.freeC,fun p hp=> ?_,tracked ⟨oc,hoc,I.freeC x c hc⟩ hs,by simpa using I.len⟩ ⟨c,hs,.inr hc⟩
  ·exact(hs.2 b (Nat.ne_of_lt (Nat.lt_of_lt_of_le (Heap.lt_size e) (I.ok.cab x c hfn hc)))).trans (I.base.keep b o e n hb hx)
  ·obtain⟨sl,e1⟩:=I.base.slot b o e n hb hx;exact⟨sl,(hs.2 b (Nat.ne_of_lt (Nat.lt_of_lt_of_le (Heap.lt_size e) (I.ok.cab x c hfn hc)))).trans e1⟩
  ·obtain⟨o',e1⟩:=I.base.there b o e hx;exact⟨o',(hs.2 b (Nat.ne_of_lt (Nat.lt_of_lt_of_le (Heap.lt_size e) (I.ok.cab x c hfn hc)))).trans e1⟩
  ·by_cases hj:j=i
   ·subst hj;rw[hi] at e1;cases e1
    rw[List.getElem?_set_self hiσ] at e2
    cases e2;exact⟨u,r,.inr ⟨.inl hk,c,hc,hc'⟩⟩
   ·rw[List.getElem?_set_ne (Ne.symm hj)] at e2
    obtain⟨u',r',q⟩:=hl j y v' e1 e2 e3;refine⟨u',r', ?_⟩;rcases q with q|⟨k,c',e,z'⟩
    ·exact .inl q
    ·refine .inr ⟨k,c',e,z'.sameBut hs ?_⟩;rintro rfl;exact hj (Zl6 hN e1 (I.ok.inj _ _ _ e hc▸hi))
  ·by_cases hcc:c'=c
   ·subst hcc;exact⟨_,hc'⟩
   ·obtain⟨w2,z2⟩:=I.cell y c' e;exact⟨w2,z2.sameBut hs hcc⟩
  ·obtain⟨e,n,ne,nf,d⟩:=I.pin p hp;refine⟨(hs.2 p.1 ?_).trans e,n,ne,nf,d⟩;intro q;rw[q,hoc] at e
   have q':oc=p.2:=Option.some.inj e;exact d w' (by rw[<-q'];exact hocd)
theorem Zl7{M:Model}{A:Around}{E:Value->Shared->Prop}{i:Nat}{x:Str}{v:V}{u:Value}{Q:Unit->Shared->Prop}(I:Inv X pins σ H s)(hN:X.N.Nodup)(hi:X.N[i]? =some x)(hx:Loc X.env.scope x)(r:ZX v u)
  (h:∀s',Inv X pins (σ.set i (some v)) H s'->Q () s')(hf:X.fn x=true\/X.env.scope.names.lookup x=some .local:=by first|exact .inl rfl|exact .inr rfl|assumption):wpAny M A (storeName X.env x u) Q E s:=
 ZnR I hN hi hx r (fun s' I' _=>h s' I') hf
theorem Inv.call'{s':Shared}{ch:List Addr}(I:Inv X pins σ H s)(ho:s'.os=s.os)(u:Un (frs X.stack) ch H H' s.heap s'.heap)(hok:HOk X.prog X.w H' s'.heap)(hg:AllBare s'.gens)
  (hch:∀b∈ch,(b∈X.ex\/X.s₀.heap.objs.size<=b)/\b≠X.env.locals/\(∀x c,X.env.cells.lookup x=some c->c≠b)/\∀p∈X.pn++pins,p.1≠b):Inv X pins σ H' s':=by
 obtain⟨h',g',d',t',o'⟩:=s';have e:o'=s.os:=ho;subst e;exact I.call (g':=g') (t':=t') (d':=d') u hok hg hch
end
abbrev XK:=Value->Option Addr->Hp->Prop
abbrev St:=List (Option V)
abbrev VK:=V->Hp->Prop
abbrev TE:=St->Hp->VK->Prop
abbrev TT:=St->Hp->(Bool->Hp->Prop)->Prop
abbrev TA:=St->Hp->(List V->Hp->Prop)->Prop
structure ZjO where
 nx:St->Hp->Prop
 rt:VK
 bk:St->Hp->Prop:=fun _ _=>False
 ct:St->Hp->Prop:=fun _ _=>False
abbrev TS:=ZjO->St->Hp->Prop
def EP(X:Cx)(pins:List (Addr×Obj))(σ:St)(Q:VK)(u:Value)(s':Shared):Prop:=∃v H',Inv X pins σ H' s'/\ZX v u/\Q v H'
def TP(X:Cx)(pins:List (Addr×Obj))(σ:St)(Q:Bool->Hp->Prop)(b:Bool)(s':Shared):Prop:=∃H',Inv X pins σ H' s'/\Q b H'
def AP(X:Cx)(pins:List (Addr×Obj))(σ:St)(Q:List V->Hp->Prop)(us:List Value)(s':Shared):Prop:=∃vs H',Inv X pins σ H' s'/\Yc vs us/\Q vs H'
def SP(X:Cx)(pins:List (Addr×Obj))(D:ZjO)(f:Flow)(s':Shared):Prop:=
 match f with
 | .next=>∃σ' H',Inv X pins σ' H' s'/\D.nx σ' H'
 | .brk=>∃σ' H',Inv X pins σ' H' s'/\D.bk σ' H'
 | .cont=>∃σ' H',Inv X pins σ' H' s'/\D.ct σ' H'
 | .ret u=>∃v σ' H',Inv X pins σ' H' s'/\ZX v u/\D.rt v H'
def PE(X:Cx)(e:Expr)(t:TE):Prop:=
 ∀(pins:List (Addr×Obj)) (s:Shared) (σ:St) (H:Hp) (Q:VK),Inv X pins σ H s->t σ H Q->wpAny (model X.prog X.w) X.A (eval e X.env) (EP X pins σ Q) X.xe s
def PT(X:Cx)(e:Expr)(t:TT):Prop:=
 ∀(pins:List (Addr×Obj)) (s:Shared) (σ:St) (H:Hp) (Q:Bool->Hp->Prop),Inv X pins σ H s->t σ H Q->wpAny (model X.prog X.w) X.A (isTrue e X.env (eval e X.env)) (TP X pins σ Q) X.xe s
def PW(X:Cx)(e:Expr)(t:TT):Prop:=
 ∀(whole:Sem Value) (pins:List (Addr×Obj)) (s:Shared) (σ:St) (H:Hp) (Q:Bool->Hp->Prop),Inv X pins σ H s->t σ H Q->wpAny (model X.prog X.w) X.A (isTrue e X.env whole) (TP X pins σ Q) X.xe s
theorem PW.pt{X:Cx}{e:Expr}{t:TT}(h:PW X e t):PT X e t:=h _
def PA(X:Cx)(es:List Expr)(t:TA):Prop:=
 ∀(pos:Pos) (pins:List (Addr×Obj)) (s:Shared) (σ:St) (H:Hp) (Q:List V->Hp->Prop),Inv X pins σ H s->t σ H Q->wpAny (model X.prog X.w) X.A (spliced (backTo pos (starEach es X.env))) (AP X pins σ Q) X.xe s
def PS(X:Cx)(st:Stmt)(t:TS):Prop:=
 ∀(pins:List (Addr×Obj)) (s:Shared) (σ:St) (H:Hp) (D:ZjO),Inv X pins σ H s->t D σ H->wpAny (model X.prog X.w) X.A (exec st X.env) (SP X pins D) X.xe s
def PSs(X:Cx)(st:List Stmt)(t:TS):Prop:=
 ∀(pins:List (Addr×Obj)) (s:Shared) (σ:St) (H:Hp) (D:ZjO),Inv X pins σ H s->t D σ H->wpAny (model X.prog X.w) X.A (execs st X.env) (SP X pins D) X.xe s
theorem thn{α:Type}{t:Sem α}{Q Q':α->Shared->Prop}{M:Model}{A:Around}{E:Value->Shared->Prop}{s:Shared}(h:wpAny M A t Q E s)(hQ:∀a s,Q a s->Q' a s):wpAny M A t Q' E s:=wpAny_mono h hQ fun _ _ x=>x
end L2
namespace L2
open PySem PySem.Spec PyProof.Rows
section
variable {X:Cx}
def ZoK(i:Nat):TE:=fun σ H Q=>∃v,σ[i]? =some (some v)/\Q v H
def tC(v:V):TE:=fun _ H Q=>Q v H
theorem Zrx{i:Nat}{x:Str}{pos:Pos}(hN:X.N[i]? =some x)(hv:Vis X.env.scope x)(hd:(x==("__debug__":Str))=false:=by decide)(hcd:(x==("__classdict__":Str))=false:=by decide):PE X (.Name x pos) (ZoK i):=by
 intro pins s σ H Q I h;obtain⟨v,e,h⟩:=h;obtain⟨m,hn,hl⟩:=I.loc;obtain⟨u,r,l⟩:=hl i x v hN e hv;have fin:EP X pins σ Q u s:=⟨v,H,I,r,h⟩
 rcases l with ⟨hk,hm⟩|⟨hk,c,hc,hcell⟩
 ·exact wpAny_Name (wpAny_loadName_local I.ok.kind hk hn hm fin) hd
 ·rcases hk with hk|hk
  ·exact wpAny_Name (wpAny_loadName_cell I.ok.kind hk hc hcell fin) hd
  ·exact wpAny_Name (wpAny_loadName_free I.ok.kind hk hc hcell fin hcd) hd
theorem Zi{i j pos}:PE X (.Constant (.int i) j pos) (tC (.int i)):=fun _ _ _ H _ I h=>wpAny_Constant_int ⟨.int i,H,I.tok _,⟨_,rfl⟩,h⟩
theorem ZgN{b j pos}:PE X (.Constant (.bool b) j pos) (tC (.bl b)):=fun _ _ _ H _ I h=>Constant_bool ⟨.bl b,H,I,rfl,h⟩
theorem YB{j pos}:PE X (.Constant .none j pos) (tC .non):=fun _ _ _ H _ I h=>Constant_none ⟨.non,H,I,rfl,h⟩
theorem ZK{x j pos}:PE X (.Constant (.str x) j pos) (tC (.str x)):=fun _ _ _ H _ I h=>Calls.Constant_str ⟨.str x,H,I.tok _,⟨_,rfl⟩,h⟩
def Gl(X:Cx)(x:Str):Prop:=X.env.kindOf x=some .globalImplicit
theorem ZfE{E:Value->Shared->Prop}{pins:List (Addr×Obj)}{s:Shared}{σ:St}{H:Hp}{x:Str}{u:Value}{pos:Pos}{Q:Value->Shared->Prop}(I:Inv X pins σ H s)(hg:Gl X x)(hm:X.mg x=some u)(h:Q u s)
  (hd:(x==("__debug__":Str))=false:=by decide):wpAny (model X.prog X.w) X.A (eval (.Name x pos) X.env) Q E s:=
 Calls.Name_function_global I.ok.kind hg (Calls.loadGlobal_global (by rw[I.ok.glob];exact I.mod.glob.keeps I.bk) hm h) hd
theorem Zge{E:Value->Shared->Prop}{pins:List (Addr×Obj)}{s:Shared}{σ:St}{H:Hp}{x:Str}{u:Value}{pos:Pos}{Q:Value->Shared->Prop}(I:Inv X pins σ H s)(hg:Gl X x)(hm:X.mg x=none)(hv:bootBuiltins x=some u)(h:Q u s)
  (hn:x≠"__name__":=by decide)(hd:(x==("__debug__":Str))=false:=by decide):wpAny (model X.prog X.w) X.A (eval (.Name x pos) X.env) Q E s:=by
 obtain⟨mb,h1,h2⟩:=I.mod.blt;exact Calls.Name_function_global I.ok.kind hg (Calls.loadGlobal_builtin (by rw[I.ok.glob];exact I.mod.glob.keeps I.bk) hm (by rw[I.ok.blt];exact h1.keeps I.bk) ((h2 x hn).trans hv) h) hd
variable {a b:Expr} {ta tb:TE} {pos:Pos}
def PC(X:Cx)(op:CmpOp)(a b:Expr)(t:TE):Prop:=
 ∀(pins:List (Addr×Obj)) (s:Shared) (σ:St) (H:Hp) (Q:VK),Inv X pins σ H s->t σ H Q->
  wpAny (model X.prog X.w) X.A (eval a X.env) (fun v s₁=>wpAny (model X.prog X.w) X.A (eval b X.env) (fun u s₂=>wpAny (model X.prog X.w) X.A (compareOp op v u) (EP X pins σ Q) X.xe s₂) X.xe s₁) X.xe s
def tB(t:TE):TT:=fun σ H Q=>t σ H fun x H1=>∃c,x=.bl c/\Q c H1
theorem Zry{op:CmpOp}{t:TE}(h:PC X op a b t)(h1:behindInMarks op b=false:=by first|exact nobehind _ (by decide) (by decide)|rfl):PE X (.Compare a [op] [b] pos) t:=fun pins s σ H Q I hw=>wpAny_Compare1 (h pins s σ H Q I hw) h1
theorem ZcY{op:CmpOp}{t:TE}(h:PC X op a b t)(h1:behindInMarks op b=false:=by first|exact nobehind _ (by decide) (by decide)|rfl):PT X (.Compare a [op] [b] pos) (tB t):=by
 intro pins s σ H Q I hw;refine wpAny_isTrue_Compare1 (thn (h pins s σ H _ I hw) fun v s1 h1=>thn h1 fun u s2 h2=>thn h2 fun c s3 ⟨x,H1,I1,r1,q1⟩=> ?_) h1;obtain⟨d,rfl,q⟩:=q1;cases r1;exact wpAny_truthy_bool ⟨H1,I1,q⟩
theorem ZdE{e:Expr}{t:TE}(h:PE X e t)(he:∀whole,isTrue e X.env whole=(do let v<-whole;standAt e.pos;holding [v] (truthy v)):=by intro _;rfl):PT X e (tB t):=by
 intro pins s σ H Q I hw;refine isTrue_plain (thn (h pins s σ H _ I hw) fun v s1 ⟨x,H1,I1,r1,q1⟩=> ?_) (he _);obtain⟨d,rfl,q⟩:=q1;cases r1;exact wpAny_truthy_bool ⟨H1,I1,q⟩
variable {tA tB':TT} {rest:List Expr}
def Ztj(t u:TT):TT:=fun σ H Q=>t σ H fun c H1=>if c=true then u σ H1 Q else Q false H1
def tOr(t u:TT):TT:=fun σ H Q=>t σ H fun c H1=>if c=true then Q true H1 else u σ H1 Q
def Ztk(t:TT):TT:=fun σ H Q=>t σ H fun c H1=>Q (!c) H1
theorem YX(ha:PT X a tA):PW X (.BoolOp .And [a] pos) tA:=by
 intro wh pins s σ H Q I h;refine isTrue_and (thn (ha pins s σ H Q I h) fun c s1 e=> ?_);cases c with
 |true=>exact isTrue_and_nil e
 |false=>exact e
theorem ZeX(ha:PT X a tA):PW X (.BoolOp .Or [a] pos) tA:=by
 intro wh pins s σ H Q I h;refine isTrue_or (thn (ha pins s σ H Q I h) fun c s1 e=> ?_);cases c with
 |false=>exact isTrue_or_nil e
 |true=>exact e
theorem Xz(ha:PT X a tA)(hb:PW X (.BoolOp .And (b::rest) pos) tB'):PW X (.BoolOp .And (a::b::rest) pos) (Ztj tA tB'):=by
 intro wh pins s σ H Q I h;refine isTrue_and (thn (ha pins s σ H _ I h) fun c s1 ⟨H1,I1,q1⟩=> ?_);cases c with
 |true=>exact hb wh pins s1 σ H1 Q I1 q1
 |false=>exact⟨H1,I1,q1⟩
theorem ZgO(ha:PT X a tA)(hb:PW X (.BoolOp .Or (b::rest) pos) tB'):PW X (.BoolOp .Or (a::b::rest) pos) (tOr tA tB'):=by
 intro wh pins s σ H Q I h;refine isTrue_or (thn (ha pins s σ H _ I h) fun c s1 ⟨H1,I1,q1⟩=> ?_);cases c with
 |true=>exact⟨H1,I1,q1⟩
 |false=>exact hb wh pins s1 σ H1 Q I1 q1
theorem Zmc(ha:PT X a tA):PT X (.UnaryOp .Not a pos) (Ztk tA):=by
 intro pins s σ H Q I h;exact isTrue_not (ha pins s σ H (fun c H1=>Q (!c) H1) I h)
def Zsm(ta tb:TE):TE:=fun σ H Q=>ta σ H fun x H1=>∃c,x=.bl c/\if c=true then tb σ H1 Q else Q (.bl false) H1
def Ztl(ta tb:TE):TE:=fun σ H Q=>ta σ H fun x H1=>∃c,x=.bl c/\if c=true then Q (.bl true) H1 else tb σ H1 Q
def Zsn(ta:TE):TE:=fun σ H Q=>ta σ H fun x H1=>∃c,x=.bl c/\Q (.bl (!c)) H1
theorem Zmd{op}{t:TE}(h:PE X a t):PE X (.BoolOp op [a] pos) t:=fun pins s σ H Q I hw=>BoolOp_one (h pins s σ H Q I hw)
theorem ZoL(ha:PE X a ta)(hb:PE X (.BoolOp .And (b::rest) pos) tb):PE X (.BoolOp .And (a::b::rest) pos) (Zsm ta tb):=by
 intro pins s σ H Q I h;refine BoolOp_and (thn (ha pins s σ H _ I h) fun v s1 ⟨x,H1,I1,r1,q1⟩=> ?_);obtain⟨c,rfl,q1⟩:=q1;cases r1;refine wpAny_truthy_bool ?_;cases c with
 |true=>exact hb pins s1 σ H1 Q I1 q1
 |false=>exact⟨.bl false,H1,I1,rfl,q1⟩
theorem Zso(ha:PE X a ta)(hb:PE X (.BoolOp .Or (b::rest) pos) tb):PE X (.BoolOp .Or (a::b::rest) pos) (Ztl ta tb):=by
 intro pins s σ H Q I h;refine BoolOp_or (thn (ha pins s σ H _ I h) fun v s1 ⟨x,H1,I1,r1,q1⟩=> ?_);obtain⟨c,rfl,q1⟩:=q1;cases r1;refine wpAny_truthy_bool ?_;cases c with
 |false=>exact hb pins s1 σ H1 Q I1 q1
 |true=>exact⟨.bl true,H1,I1,rfl,q1⟩
theorem Zrz(ha:PE X a ta):PE X (.UnaryOp .Not a pos) (Zsn ta):=by
 intro pins s σ H Q I h;refine UnaryOp_ (thn (ha pins s σ H _ I h) fun v s1 ⟨x,H1,I1,r1,q1⟩=> ?_);obtain⟨c,rfl,q1⟩:=q1;cases r1;exact not_of (wpAny_truthy_bool ⟨.bl (!c),H1,I1,rfl,q1⟩)
def tIf(t:TT)(ta tb:TE):TE:=fun σ H Q=>t σ H fun c H1=>if c=true then ta σ H1 Q else tb σ H1 Q
theorem Zl8{c:Expr}(hc:PT X c tA)(ha:PE X a ta)(hb:PE X b tb):PE X (.IfExp c a b pos) (tIf tA ta tb):=by
 intro pins s σ H Q I h;refine wpAny_IfExp (thn (hc pins s σ H _ I h) fun d s1 ⟨H1,I1,q1⟩=> ?_);cases d with
 |true=>exact ha pins s1 σ H1 Q I1 q1
 |false=>exact hb pins s1 σ H1 Q I1 q1
end
end L2
namespace L2
open PySem PySem.Spec PyProof.Rows
def SqL(K:PySem.W.Frag)(H:Hp)(a:Addr)(xs:List V):Prop:=
 Rd H a (.lst xs)\/
  ∃(o:Obj) (its:Array Value) (n:Nat),K.lookup a=some o/\o.cls=.type "list"/\o.dict=none/\o.data=.seq its n/\its.size<=sizeLine/\Yc xs its.toList
def SqT(K:PySem.W.Frag)(H:Hp)(a:Addr)(xs:List V):Prop:=
 Rd H a (.tup xs)\/
  ∃(o:Obj) (its:Array Value) (n:Nat),K.lookup a=some o/\o.cls=.type "tuple"/\o.data=.seq its n/\its.size<=sizeLine/\Yc xs its.toList
def Ztm:Value->Option V
 | .none=>some .non
 | .bool b=>some (.bl b)
 | .int i _=>some (.int i)
 | .str x _=>some (.str x)
 | .bytes b _=>some (.byt b)
 | .float b _=>some (.flt b)
 | .ref a=>some (.ref a)
 | .type n=>some (.ty n)
 |_=>none
theorem ZX.abs{x:V}{u:Value}(r:ZX x u):Ztm u=some x:=by
 cases x with
 |non=>cases r;rfl
 |bl _=>cases r;rfl
 |int _=>obtain⟨t,rfl⟩:=r;rfl
 |str _=>obtain⟨t,rfl⟩:=r;rfl
 |byt _=>obtain⟨t,rfl⟩:=r;rfl
 |flt _=>obtain⟨t,rfl⟩:=r;rfl
 |ref _=>cases r;rfl
 |ty _=>cases r;rfl
theorem ZX.inj{x y:V}{u:Value}(r:ZX x u)(q:ZX y u):x=y:=Option.some.inj (r.abs.symm.trans q.abs)
theorem Yc.inj:∀{xs ys:List V} {us:List Value},Yc xs us->Yc ys us->xs=ys
 |_,_,_,.nil,.nil=>rfl
 |_,_,_,.cons r t,.cons r' t'=>by rw[r.inj r',Yc.inj t t']
section
variable {X:Cx} {pins:List (Addr×Obj)} {σ:St} {H:Hp} {s:Shared} {a:Addr} {xs ys:List V}
theorem SqL.of{K:PySem.W.Frag}(h:H a=some (.lst xs)):SqL K H a xs:=.inl (.inl h)
theorem SqT.of{K:PySem.W.Frag}(h:H a=some (.tup xs)):SqT K H a xs:=.inl (.inl h)
theorem Inv.list(I:Inv X pins σ H s)(h:SqL X.K H a xs):∃its:List Value,Yc xs its/\PlainL s.heap a its.toArray/\xs.length<=sizeLine:=by
 rcases h with h|⟨o,its,n,hk,hc,hd,hs,hz,r⟩
 ·obtain⟨z,its,n,r,e⟩:=h.ok I.hok;exact⟨its,r,⟨_,n,e,rfl,rfl,rfl⟩,z⟩
 ·refine⟨its.toList,r,⟨o,n,I.kIn a o hk,hc,hd,by simpa using hs⟩, ?_⟩;have e:=r.length;simp only [Array.length_toList] at e
  omega
theorem Inv.tuple(I:Inv X pins σ H s)(h:SqT X.K H a xs):∃its:List Value,Yc xs its/\IsTup s.heap a its.toArray/\xs.length<=sizeLine:=by
 rcases h with h|⟨o,its,n,hk,hc,hs,hz,r⟩
 ·obtain⟨z,its,r,p⟩:=h.ok I.hok;exact⟨its,r,p,z⟩
 ·refine⟨its.toList,r,⟨o,I.kIn a o hk,hc,n,by simpa using hs⟩, ?_⟩;have e:=r.length;simp only [Array.length_toList] at e
  omega
theorem Inv.list_inj(I:Inv X pins σ H s)(h:SqL X.K H a xs)(h':SqL X.K H a ys):xs=ys:=by
 obtain⟨its,r,⟨o,n,e,_,_,d⟩,_⟩:=I.list h;obtain⟨its',r',⟨o',n',e',_,_,d'⟩,_⟩:=I.list h';rw[e] at e';cases e'
 rw[d] at d'
 injection d' with d1 _
 have:its=its':=by simpa using congrArg Array.toList d1
 subst this;exact r.inj r'
theorem Inv.tuple_inj(I:Inv X pins σ H s)(h:SqT X.K H a xs)(h':SqT X.K H a ys):xs=ys:=by
 obtain⟨its,r,⟨o,e,_,n,d⟩,_⟩:=I.tuple h;obtain⟨its',r',⟨o',e',_,n',d'⟩,_⟩:=I.tuple h';rw[e] at e';cases e'
 rw[d] at d'
 injection d' with d1 _
 have:its=its':=by simpa using congrArg Array.toList d1
 subst this;exact r.inj r'
end
abbrev Cx.wish(X:Cx)(E:Value->Shared->Prop):Cx:={X with xe:=E}
abbrev Cx.nox(X:Cx):Cx:=X.wish fun _ _=>False
theorem Cx.Ok.wish{X:Cx}(ok:X.Ok)(E:Value->Shared->Prop):(X.wish E).Ok:=
 ⟨ok.mod,ok.kind,ok.glob,ok.blt,ok.above,ok.inj,ok.has,ok.cab,ok.hd,ok.frames,ok.stk,ok.exf,ok.bs,ok.bsz,ok.noex,ok.exfs,ok.funs,ok.frf⟩
theorem Cx.Ok.unwish{X:Cx}{E:Value->Shared->Prop}(ok:(X.wish E).Ok):X.Ok:=
 ⟨ok.mod,ok.kind,ok.glob,ok.blt,ok.above,ok.inj,ok.has,ok.cab,ok.hd,ok.frames,ok.stk,ok.exf,ok.bs,ok.bsz,ok.noex,ok.exfs,ok.funs,ok.frf⟩
section
variable {X:Cx} {pins:List (Addr×Obj)} {σ:St} {H:Hp} {s:Shared} {E:Value->Shared->Prop}
theorem Inv.wish(I:Inv X pins σ H s)(E:Value->Shared->Prop):Inv (X.wish E) pins σ H s:=⟨I.ok.wish E,I.os,I.bare,I.base,I.loc,I.cell,I.free,I.freeC,I.pin,I.hok,I.len⟩
theorem Inv.unwish(I:Inv (X.wish E) pins σ H s):Inv X pins σ H s:=⟨I.ok.unwish,I.os,I.bare,I.base,I.loc,I.cell,I.free,I.freeC,I.pin,I.hok,I.len⟩
theorem SP.unwish{D:ZjO}{f:Flow}{s':Shared}(h:SP (X.wish E) pins D f s'):SP X pins D f s':=by
 cases f with
 |next=>obtain⟨σ',H',I,q⟩:=h;exact⟨σ',H',I.unwish,q⟩
 |brk=>obtain⟨σ',H',I,q⟩:=h;exact⟨σ',H',I.unwish,q⟩
 |cont=>obtain⟨σ',H',I,q⟩:=h;exact⟨σ',H',I.unwish,q⟩
 |ret u=>obtain⟨v,σ',H',I,r,q⟩:=h;exact⟨v,σ',H',I.unwish,r,q⟩
theorem PSs.nox{st:List Stmt}{t:TS}(h:PSs X.nox st t):PSs X st t:=fun pins s σ H D I hw=>
 wpAny_mono (h pins s σ H D (I.wish _) hw) (fun _ _ q=>q.unwish) fun _ _ z=>False.elim z
end
section
variable {X:Cx} {st:Stmt} {rest:List Stmt} {t u:TS} {e:Expr} {te:TE} {pos:Pos}
def Zsp:TS:=fun D σ H=>D.nx σ H
def Zqm(t u:TS):TS:=fun D σ H=>t {D with nx:=u D} σ H
theorem ZD:PSs X [] Zsp:=fun _ _ σ H _ I h=>wpAny_execs_nil ⟨σ,H,I,h⟩
theorem Ze(h1:PS X st t)(h2:PSs X rest u):PSs X (st::rest) (Zqm t u):=by
 intro pins s σ H D I h;refine wpAny_execs_cons (thn (h1 pins s σ H {D with nx:=u D} I h) fun f s1 q=> ?_);cases f with
 |next=>
  obtain⟨σ',H',I',q⟩:=q;exact h2 pins s1 σ' H' D I' q
 |ret v=>exact q
 |brk=>exact q
 |cont=>exact q
theorem Zn(h1:PS X st t):PSs X [st] t:=by
 intro pins s σ H D I h;refine wpAny_execs_cons (thn (h1 pins s σ H D I h) fun f s1 q=> ?_);cases f with
 |next=>exact wpAny_execs_nil q
 |ret v=>exact q
 |brk=>exact q
 |cont=>exact q
theorem Inv.quiet{pins:List (Addr×Obj)}{σ:St}{H:Hp}{s:Shared}(I:Inv X pins σ H s):interactive X.env=false:=by simp[interactive,I.ok.kind]
def Zsq(te:TE):TS:=fun D σ H=>te σ H fun _ H1=>D.nx σ H1
theorem Xh(he:PE X e te)(hs:swapsWith e none pos.line X.env=pure false:=by rfl):PS X (.Expr e pos) (Zsq te):=by
 intro pins s σ H D I h;exact wpAny_Expr_any (thn (he pins s σ H _ I h) fun v s1 ⟨x,H1,I1,r1,q1⟩=>⟨σ,H1,I1,q1⟩) I.quiet hs
def Ztn(te:TE):TS:=fun D σ H=>te σ H D.rt
theorem Zz(he:PE X e te):PS X (.Return (some e) pos) (Ztn te):=by
 intro pins s σ H D I h;exact wpAny_Return_some (thn (he pins s σ H _ I h) fun v s1 ⟨x,H1,I1,r1,q1⟩=>⟨x,σ,H1,I1,r1,q1⟩)
def Zto(c:TT)(t u:TS):TS:=fun D σ H=>c σ H fun b H1=>if b=true then t D σ H1 else u D σ H1
theorem ZZ{c:Expr}{a b:List Stmt}{tc:TT}(hc:PT X c tc)(ha:PSs X a t)(hb:PSs X b u):PS X (.If c a b pos) (Zto tc t u):=by
 intro pins s σ H D I h;refine wpAny_If (thn (hc pins s σ H _ I h) fun d s1 ⟨H1,I1,q1⟩=> ?_);cases d with
 |true=>exact ha pins s1 σ H1 D I1 q1
 |false=>exact hb pins s1 σ H1 D I1 q1
def ZrA:TS:=fun _ _ _=>False
theorem ZfF:PS X st ZrA:=fun _ _ _ _ _ _ h=>h.elim
end
abbrev TG:=V->St->Hp->(St->Hp->Prop)->Prop
abbrev TGs:=List V->St->Hp->(St->Hp->Prop)->Prop
def PG(X:Cx)(target:Expr)(t:TG):Prop:=
 ∀(pins:List (Addr×Obj)) (s:Shared) (σ:St) (H:Hp) (v:V) (u:Value) (Q:St->Hp->Prop),Inv X pins σ H s->ZX v u->t v σ H Q->
  wpAny (model X.prog X.w) X.A (assign target X.env u) (fun _ s'=>∃σ' H',Inv X pins σ' H' s'/\Q σ' H') X.xe s
def PGs(X:Cx)(ts:List Expr)(t:TGs):Prop:=
 ∀(pins:List (Addr×Obj)) (s:Shared) (σ:St) (H:Hp) (vs:List V) (us:List Value) (Q:St->Hp->Prop),Inv X pins σ H s->Yc vs us->t vs σ H Q->
  wpAny (model X.prog X.w) X.A (assignInOrder ((assignEach ts X.env).map (·.2)) us) (fun _ s'=>∃σ' H',Inv X pins σ' H' s'/\Q σ' H') X.xe s
section
variable {X:Cx} {pos:Pos}
def ZoM(i:Nat):TG:=fun v σ H Q=>Q (σ.set i (some v)) H
theorem ZF{i:Nat}{x:Str}(hN:X.N.Nodup)(hi:X.N[i]? =some x)(hx:Loc X.env.scope x)(hf:X.fn x=true\/X.env.scope.names.lookup x=some .local:=by first|exact .inl rfl|exact .inr rfl|assumption):PG X (.Name x pos) (ZoM i):=by
 intro pins s σ H v u Q I r h;exact wpAny_assign_Name (Zl7 I hN hi hx r (fun s' I'=>⟨_,H,I',h⟩) hf)
def Ztp:TGs:=fun vs σ H Q=>vs=[]/\Q σ H
def Zsr(t:TG)(u:TGs):TGs:=fun vs σ H Q=>∃v r,vs=v::r/\t v σ H fun σ' H'=>u r σ' H' Q
theorem ZcZ:PGs X [] Ztp:=by
 intro pins s σ H vs us Q I r h;obtain⟨e,h⟩:=h;subst e;cases r;exact assignInOrder_nil ⟨σ,H,I,h⟩
theorem Xp{e:Expr}{es:List Expr}{t:TG}{u:TGs}(h1:PG X e t)(h2:PGs X es u)
  (hs:(assignEach (e::es) X.env).map (·.2)=assign e X.env::(assignEach es X.env).map (·.2):=by rfl):PGs X (e::es) (Zsr t u):=by
 intro pins s σ H vs us Q I r h;obtain⟨v,vr,e1,h⟩:=h;subst e1;cases r with
 |cons r rr=>
  rw[hs];refine assignInOrder_cons (thn (h1 pins s σ H _ _ _ I r h) fun _ s1 ⟨σ1,H1,I1,q1⟩=> ?_);exact h2 pins s1 σ1 H1 _ _ Q I1 rr q1
def Zss(K:PySem.W.Frag)(n:Nat)(t:TGs):TG:=fun v σ H Q=>∃a xs,v=.ref a/\SqT K H a xs/\xs.length=n/\t xs σ H Q
theorem Zgf{es:List Expr}{k:Nat}{t:TGs}{n:Nat}(hc:X.calm=true)(h:PGs X es t)
  (hn:(assignEach es X.env).length=n:=by rfl)(hst:(assignEach es X.env).findIdx? (·.1)=none:=by rfl):PG X (.Tuple es k pos) (Zss X.K n t):=by
 intro pins s σ H v u Q I r hw;obtain⟨a,xs,e1,hq,hl,hw⟩:=hw;subst e1;cases r;obtain⟨its,rv,ht,hz⟩:=I.tuple hq;refine assign_Tuple_tuple (I.ok.hd hc) ht (by simp[hn,<-hl,rv.length]) hst fun h' hx=> ?_;have I1:Inv X pins σ H {s with heap:=h'}:=I.kept (t':=s.toks) fun b o e=>hx b o (Nat.ne_of_lt (Heap.lt_size e)) e;exact h pins _ σ H xs _ Q I1 (by simpa using rv) hw
def Zst(te:TE)(g:TG):TS:=fun D σ H=>te σ H fun x H1=>g x σ H1 D.nx
theorem Zu{i:Nat}{x:Str}{e:Expr}{te:TE}{pos':Pos}(hN:X.N.Nodup)(hi:X.N[i]? =some x)(hx:Loc X.env.scope x)(he:PE X e te)(hs:swapsWith e (some (.Name x pos')) pos.line X.env=pure false:=by rfl)(hf:X.fn x=true\/X.env.scope.names.lookup x=some .local:=by first|exact .inl rfl|exact .inr rfl|assumption):
  PS X (.Assign [.Name x pos'] e pos) (Zst te (ZoM i)):=by
 intro pins s σ H D I h;refine wpAny_Assign_Name (thn (he pins s σ H _ I h) fun v s1 ⟨y,H1,I1,r1,q1⟩=> ?_) hs;exact Zl7 I1 hN hi hx r1 (fun s2 I2=>⟨_,H1,I2,q1⟩) hf
end
section
variable {X:Cx} {pos:Pos}
def ZrB(c:TT)(tb:TS):TS:=fun D σ H=>∃W:Nat->St->Hp->Prop,(∃m,W m σ H)/\∀m σ H,W m σ H->
 c σ H fun b H1=>if b=true then∃N:St->Hp->Prop,(∀σ' H',N σ' H'->∃m',m'<m/\W m' σ' H')/\tb {D with nx:=N,ct:=N,bk:=D.nx} σ H1 else D.nx σ H1
theorem ZoN{c:Expr}{body:List Stmt}{tc:TT}{tb:TS}(hp:PassesOwn (model X.prog X.w) X.A X.env X.xe)(hc:PT X c tc)(hb:PSs X body tb):PS X (.While c body [] pos) (ZrB tc tb):=by
 intro pins s σ H D I h;obtain⟨W,⟨m0,w0⟩,turn⟩:=h;refine wpAny_While (codeAny_whileLoop (fun n s'=>∃σ' H',Inv X pins σ' H' s'/\W n σ' H') ?_ m0 ⟨σ,H,I,w0⟩);rintro n s1 ⟨σ1,H1,I1,w1⟩;refine wpAny_passesOwn hp (thn (hc pins s1 σ1 H1 _ I1 (turn n σ1 H1 w1)) fun b s2 ⟨H2,I2,q2⟩=> ?_);cases b with
 |true=>
  obtain⟨N,hN,q2⟩:=q2;rw[if_pos rfl];refine wpAny_passesOwn hp (thn (hb pins s2 σ1 H2 _ I2 q2) fun f s3 q3=> ?_);cases f with
  |next=>
   obtain⟨σ3,H3,I3,n3⟩:=q3;obtain⟨m',hm,w3⟩:=hN σ3 H3 n3;exact⟨m',hm,σ3,H3,I3,w3⟩
  |cont=>
   obtain⟨σ3,H3,I3,n3⟩:=q3;obtain⟨m',hm,w3⟩:=hN σ3 H3 n3;exact⟨m',hm,σ3,H3,I3,w3⟩
  |brk=>exact q3
  |ret v=>exact q3
 |false=>
  rw[if_neg Bool.false_ne_true];exact wpAny_execs_nil ⟨σ1,H2,I2,q2⟩
end
structure It where
 go:Nat->Hp->Prop
 yld:Nat->Hp->V->Hp->Prop
 stop:Nat->Hp->Prop
def Zhx(X:Cx)(pins:List (Addr×Obj))(H:Hp)(b:Addr):Prop:=
 H b=none/\b≠X.env.locals/\b∉X.fs/\(b∈X.ex\/X.s₀.heap.objs.size<=b)/\(∀x c,X.env.cells.lookup x=some c->c≠b)/\∀p∈X.pn++pins,p.1≠b
theorem Inv.fpOk{X:Cx}{pins:List (Addr×Obj)}{σ:St}{H H':Hp}{s:Shared}{b:Addr}(I:Inv X pins σ H s)(hb:s.heap.objs.size<=b)(hn:H' b=none):Zhx X pins H' b:=by
 refine⟨hn,Nat.ne_of_gt (Nat.lt_of_lt_of_le I.lt hb),I.nofs hb,.inr (Nat.le_trans I.sz hb),fun x c e z=> ?_,fun p hp z=> ?_⟩
 ·obtain⟨v,q⟩:=I.cell x c e;exact absurd (Nat.lt_of_lt_of_le q.lt (by rw[z];exact hb)) (Nat.lt_irrefl _)
 ·exact absurd (Nat.lt_of_lt_of_le (Heap.lt_size (I.pin p hp).1) (by rw[z];exact hb)) (Nat.lt_irrefl _)
structure Zme (P:Program) (w:World) (K:PySem.W.Frag) (tg:Expr) (J:It) (fp:List Addr) (it:Addr) (tn:Nat->Heap->Prop):Prop where
 mem:it∈fp
 obj:∀i h,tn i h->∀b∈fp,∃o,h.get? b=some o/\∀v,o.data≠.cell v
 keep:∀i h h',tn i h->(∀b∈fp,∀o,h.get? b=some o->h'.get? b=some o)->tn i h'
 item:∀(X:Cx),X.prog=P->X.w=w->X.K=K->X.calm=true->∀(i:Nat) (pins:List (Addr×Obj)) (s:Shared) (σ:St) (H:Hp) (E:Value->Shared->Prop),Inv X pins σ H s->(∀b∈fp,Zhx X pins H b)->tn i s.heap->J.go i H->
  wpAny (model P w) X.A (pyNext (.ref it)) (fun r s1=>∃u,r=some u/\
   wpAny (model P w) X.A (letOwnedTupleGo tg (.ref it) u) (fun _ s2=>∃x H',Inv X pins σ H' s2/\ZX x u/\J.yld i H x H'/\tn (i+1) s2.heap/\∀b∈fp,H' b=none) E s1) E s
 done:∀(X:Cx),X.prog=P->X.w=w->X.K=K->X.calm=true->∀(i:Nat) (pins:List (Addr×Obj)) (s:Shared) (σ:St) (H:Hp) (E:Value->Shared->Prop),Inv X pins σ H s->(∀b∈fp,Zhx X pins H b)->tn i s.heap->J.stop i H->
  wpAny (model P w) X.A (pyNext (.ref it)) (fun r s1=>r=none/\Inv X pins σ H s1) E s
 self:∀(A:Around) (i:Nat) (s:Shared) (Q:Value->Shared->Prop) (E:Value->Shared->Prop),tn i s.heap->Q (.ref it) s->wpAny (model P w) A (pyIter (.ref it)) Q E s
abbrev TI:=St->Hp->(It->Hp->Prop)->Prop
def PIE(X:Cx)(pins:List (Addr×Obj))(σ:St)(tg:Expr)(R:It->Hp->Prop)(itv:Value)(s2:Shared):Prop:=
 ∃(it:Addr) (fp:List Addr) (tn:Nat->Heap->Prop) (J:It) (H':Hp),itv=.ref it/\Inv X pins σ H' s2/\Zme X.prog X.w X.K tg J fp it tn/\tn 0 s2.heap/\(∀b∈fp,Zhx X pins H' b)/\R J H'
def PI(X:Cx)(tg iter:Expr)(wi:TI):Prop:=
 ∀(pins:List (Addr×Obj)) (s:Shared) (σ:St) (H:Hp) (R:It->Hp->Prop),Inv X pins σ H s->wi σ H R->
  wpAny (model X.prog X.w) X.A (eval iter X.env) (fun v s1=>wpAny (model X.prog X.w) X.A (pyIter v) (PIE X pins σ tg R) X.xe s1) X.xe s
theorem Zng{M:Model}{A:Around}{E:Value->Shared->Prop}{s:Shared}{tg:Expr}{it:Addr}{u:Value}{o:Obj}{n:String}{vs:Array Value}{Q:Unit->Shared->Prop}(ho:s.heap.get? it=some o)(hc:o.cls=.type n)(hd:o.data=.fields vs)
  (hn:["enumerate","zip","dict_itemiterator","dict_reverseitemiterator","odict_iterator","itertools.zip_longest","itertools.pairwise"].contains n=false)(hQ:Q () s):wpAny M A (letOwnedTupleGo tg (.ref it) u) Q E s:=by
 unfold letOwnedTupleGo;cases tg<;>first
  |exact wpAny_pure hQ
  |(cases u<;>first
    |exact wpAny_pure hQ
    |(refine wpAny_bind (wpAny_load ho ?_)
      rw[hc,hd];show wpAny M A (if(["enumerate","zip","dict_itemiterator","dict_reverseitemiterator","odict_iterator","itertools.zip_longest","itertools.pairwise"].contains n&&vs[0]? ==some (rawInt _))=true then _ else _) Q E s;rw[if_neg (by intro h;rw[hn,Bool.false_and] at h;cases h)]
      exact wpAny_pure hQ))
def Itl(K:PySem.W.Frag)(a:Addr):It:=
 ⟨fun i H=>∃xs x,SqL K H a xs/\xs[i]? =some x,fun i H x H'=>H'=H/\∀xs,SqL K H a xs->xs[i]? =some x,fun i H=>∃xs,SqL K H a xs/\xs.length<=i⟩
def Itr(lo:Int)(n:Nat):It:=⟨fun i _=>i<n,fun i H x H'=>H'=H/\x=.int (lo+i),fun i _=>n<=i⟩
theorem ZnS{P:Program}{w:World}{K:PySem.W.Frag}{tg:Expr}(a it:Addr):Zme P w K tg (Itl K a) [it] it (fun i h=>h.IsListIter it a i) where
 mem:=by simp
 obj:=fun i h st b hb=>by
  have e:b=it:=by simpa using hb
  subst e;obtain⟨o,e,c,d⟩:=st;exact⟨o,e,fun v z=>by rw[d] at z;cases z⟩
 keep:=fun i h h' st k=>st.at fun o e=>k it (by simp) o e
 item:=by
  intro X hP hw hK hc i pins s σ H E I hf st hg;subst hP hw hK;obtain⟨xs,x,hq,hx⟩:=hg;obtain⟨its,rv,p,hz⟩:=I.list hq;obtain⟨u,hu,ru⟩:=rv.get hx;obtain⟨f0,f1,f2,f3,f4,f5⟩:=hf it (by simp);refine wpAny_pyNext_list_item st p.isList (x:=u) (by simpa using hu) fun h' st' sb=> ?_;have I1:Inv X pins σ H {s with heap:=h'}:=I.turned (t':=s.toks) (fun b o hb e=>(sb.2 b hb).trans e) f0 f1 f3 f4 f5;obtain⟨o,e,c,d⟩:=id st'
  exact⟨u,rfl,Zng (s:={s with heap:=h'}) e c d (by decide) ⟨x,H,I1,ru,⟨rfl,fun ys hy=>by rw[I.list_inj hy hq];exact hx⟩,st',fun b hb=>(hf b hb).1⟩⟩
 done:=by
  intro X hP hw hK hc i pins s σ H E I hf st hg;subst hP hw hK;obtain⟨xs,hq,hx⟩:=hg;obtain⟨its,rv,p,hz⟩:=I.list hq;obtain⟨f0,f1,f2,f3,f4,f5⟩:=hf it (by simp);have hl:=rv.length;exact wpAny_pyNext_list_end (I.ok.hd hc) st p.isList (by simp;omega) fun h' eb=>⟨rfl,I.turned (t':=s.toks) (fun b o hb e=>eb b o hb e) f0 f1 f3 f4 f5⟩
 self:=fun _ _ _ _ _ st h=>wpAny_pyIter_listiter st h
theorem Zmf{P:Program}{w:World}{K:PySem.W.Frag}{tg:Expr}(it:Addr)(lo:Int)(n:Nat):Zme P w K tg (Itr lo n) [it] it (fun i h=>IsRangeIter h it (lo+(i:Nat)*1) ((n:Int)-(i:Nat)) 1) where
 mem:=by simp
 obj:=fun i h st b hb=>by
  have e:b=it:=by simpa using hb
  subst e;exact⟨_,st,fun v z=>by
   have z':Data.fields _=Data.cell v:=z;cases z'⟩
 keep:=fun i h h' st k=>k it (by simp) _ st
 item:=by
  intro X hP hw hK hc i pins s σ H E I hf st hg;subst hP hw hK;obtain⟨f0,f1,f2,f3,f4,f5⟩:=hf it (by simp);have W:=Walks.range (prog:=X.prog) (w:=X.w) (I.ok.hd hc) it lo 1 n;refine W.item i s _ _ hg st fun v h' tk hv st' kk=> ?_;obtain⟨t,rfl⟩:=hv;have I1:Inv X pins σ H {s with heap:=h',toks:=tk}:=I.turned (fun b o hb e=>kk b o (by simpa using hb) e) f0 f1 f3 f4 f5;refine⟨_,rfl,Zng (s:={s with heap:=h',toks:=tk}) (n:="range_iterator") st' rfl rfl (by decide) ⟨.int (lo+i),H,I1,⟨t, ?_⟩,⟨rfl,rfl⟩,st',fun b hb=>(hf b hb).1⟩⟩
  rw[Int.mul_one]
 done:=by
  intro X hP hw hK hc i pins s σ H E I hf st hg;subst hP hw hK;obtain⟨f0,f1,f2,f3,f4,f5⟩:=hf it (by simp);exact wpAny_pyNext_range_end (I.ok.hd hc) st (by have:n<=i:=hg;omega) fun h' eb=>⟨rfl,I.turned (t':=s.toks) (fun b o hb e=>eb b o hb e) f0 f1 f3 f4 f5⟩
 self:=fun _ _ _ _ _ st h=>wpAny_pyIter_rangeiter st h
end L2
namespace L2
open PySem PySem.Spec PyProof.Rows
section
variable {X:Cx} {tg:Expr}
def Zsu(K:PySem.W.Frag)(tl:TE):TI:=fun σ H R=>tl σ H fun x H1=>∃a,x=.ref a/\(∃xs,SqL K H1 a xs)/\R (Itl K a) H1
theorem Yb{l:Expr}{tl:TE}(hl:PE X l tl):PI X tg l (Zsu X.K tl):=by
 intro pins s σ H R I h;refine thn (hl pins s σ H _ I h) fun v s1 ⟨x,H1,I1,r1,q1⟩=> ?_;obtain⟨a,e,⟨xs,hq⟩,q⟩:=q1;subst e;cases r1;obtain⟨its,rv,p,hz⟩:=I1.list hq;refine wpAny_pyIter_list p.isList ?_;refine⟨s1.heap.objs.size,[s1.heap.objs.size],_,_,H1,rfl,I1.kept (t':=s1.toks) fun b o e=>Heap.get?_push_of_some _ e,ZnS a _,⟨_,Heap.get?_push_size _ rfl,rfl,rfl⟩,fun b hb=> ?_,q⟩;have e:b=s1.heap.objs.size:=by simpa using hb
 subst e;exact I1.fpOk (Nat.le_refl _) (I1.hok.fresh (Nat.le_refl _))
theorem ZoO{pins:List (Addr×Obj)}{σ:St}{H:Hp}{s:Shared}{R:It->Hp->Prop}{E:Value->Shared->Prop}{lo hi:Int}{t u v:Tok}{tk:Nat}(I:Inv X pins σ H s)(h1: -(2^62)<=lo)(h2:lo<2^62)(h3: -(2^62)<=hi)(h4:hi<2^62)
  (q:R (Itr lo (hi-lo).toNat) H):wpAny (model X.prog X.w) X.A (pyIter (.ref s.heap.objs.size)) (PIE X pins σ tg R) E {s with heap:=s.heap.push {cls:=.type "range",data:=.fields #[.int lo t,.int hi u,.int 1 v]},toks:=tk}:=by
 refine wpAny_pyIter_range (IsRange.new ..) (small_one h1 h2 h3 h4) ?_;have I1:Inv X pins σ H {s with heap:=s.heap.push {cls:=.type "range",data:=.fields #[.int lo t,.int hi u,.int 1 v]},toks:=tk}:=I.kept fun b o e=>Heap.get?_push_of_some _ e;refine⟨(s.heap.push {cls:=.type "range",data:=.fields #[.int lo t,.int hi u,.int 1 v]}).objs.size,[(s.heap.push {cls:=.type "range",data:=.fields #[.int lo t,.int hi u,.int 1 v]}).objs.size],_,_,H,rfl,
  I1.kept (t':=tk) fun b o e=>Heap.get?_push_of_some _ e,Zmf _ lo (hi-lo).toNat, ?_,fun b hb=> ?_,q⟩
 ·have e1:lo+((0:Nat):Int)*1=lo:=by simp
  have e2:(((hi-lo).toNat:Nat):Int)-((0:Nat):Int)=Builtin.Range.rangeSize lo hi 1:=by rw[rangeSize_one];split<;>omega
  show IsRangeIter _ _ (lo+((0:Nat):Int)*1) ((((hi-lo).toNat:Nat):Int)-((0:Nat):Int)) 1;rw[e1,e2];exact Heap.get?_push_size _ rfl
 ·have e:b=(s.heap.push {cls:=.type "range",data:=.fields #[.int lo t,.int hi u,.int 1 v]}).objs.size:=by simpa using hb
  subst e;exact I1.fpOk (Nat.le_refl _) (I1.hok.fresh (Nat.le_refl _))
def Zsv(ta:TA):TI:=fun σ H R=>ta σ H fun vs H1=>∃j:Int,vs=[.int j]/\-(2^62)<=j/\j<2^62/\R (Itr 0 j.toNat) H1
theorem ZcB{a:Expr}{ta:TA}{p pos:Pos}(hg:Gl X "range")(hm:X.mg "range"=none)(ha:PA X [a] ta)(hs:starEach [a] X.env=[(false,eval a X.env)]:=by rfl):PI X tg (.Call (.Name "range" p) [a] [] pos) (Zsv ta):=by
 intro pins s σ H R I h;refine Call_ (Zge I hg hm boot_range (PyProof.Rows.callWith_type1 (thn (ha pos pins s σ H _ I h) fun us s1 ⟨vs,H1,I1,r1,q1⟩=> ?_) hs rfl));obtain⟨j,e,q1,q2,q⟩:=q1;subst e;cases r1 with
 |cons r rr=>
  cases rr;obtain⟨t,rfl⟩:=r;exact call_range_1 (ZoO I1 (by omega) (by omega) q1 q2 (by simpa using q))
def Ztq(wi:TI)(g:TG)(tb:TS):TS:=fun D σ H=>wi σ H fun J H1=>∃W:Nat->Nat->St->Hp->Prop,(∃m,W 0 m σ H1)/\∀i m σ H,W i m σ H->
 (J.stop i H/\D.nx σ H)\/(J.go i H/\∃N:St->Hp->Prop,(∀σ' H',N σ' H'->∃m',m'<m/\W (i+1) m' σ' H')/\∀x H',J.yld i H x H'->g x σ H' fun σ2 H2=>tb {D with nx:=N,ct:=N,bk:=D.nx} σ2 H2)
def Zhy(fp:List Addr)(h:Heap):List (Addr×Obj):=fp.filterMap fun b=>(h.get? b).map fun o=>(b,o)
theorem Zd0{fp:List Addr}{h:Heap}{b:Addr}{o:Obj}(hb:b∈fp)(e:h.get? b=some o):(b,o)∈Zhy fp h:=List.mem_filterMap.mpr ⟨b,hb,by rw[e];rfl⟩
theorem ZnT{fp:List Addr}{h:Heap}{p:Addr×Obj}(hp:p∈Zhy fp h):p.1∈fp/\h.get? p.1=some p.2:=by
 obtain⟨b,hb,e⟩:=List.mem_filterMap.mp hp;cases q:h.get? b with
 |none=>rw[q] at e;cases e
 |some o=>
  rw[q] at e
  have e':(b,o)=p:=Option.some.inj e;subst e';exact⟨hb,q⟩
theorem Inv.pinned{pins:List (Addr×Obj)}{σ:St}{H:Hp}{s:Shared}{fp:List Addr}(I:Inv X pins σ H s)(hf:∀b∈fp,Zhx X pins H b)(ho:∀b∈fp,∃o,s.heap.get? b=some o/\∀v,o.data≠.cell v):Inv X (pins++Zhy fp s.heap) σ H s:=
 I.pins_of fun p hp=>(List.mem_append.mp hp).elim (fun z=>I.pin p (List.mem_append_right _ z)) fun z=>by
  obtain⟨hb,e⟩:=ZnT z;obtain⟨f0,f1,f2,_⟩:=hf p.1 hb;obtain⟨o,e',d⟩:=ho p.1 hb;rw[e] at e';cases e'
  exact⟨e,f0,f1,f2,d⟩
theorem Inv.unpinned{pins pl:List (Addr×Obj)}{σ:St}{H:Hp}{s:Shared}(I:Inv X (pins++pl) σ H s):Inv X pins σ H s:=I.pins_of fun p hp=>I.pin p (List.mem_append_right _ (List.mem_append_left _ hp))
theorem Xi{iter:Expr}{body:List Stmt}{wi:TI}{g:TG}{tb:TS}{pos:Pos}(hp:PassesOwn (model X.prog X.w) X.A X.env X.xe)(hc:X.calm=true)(hi:PI X tg iter wi)(hg:PG X tg g)(hb:PSs X body tb)
  (hs:∀x,foldedSetIterable iter X.env x=pure x:=by intro _;rfl):PS X (.For tg iter body [] pos) (Ztq wi g tb):=by
 intro pins s σ H D I h;refine wpAny_For (thn (hi pins s σ H _ I h) fun v s1 h1=>thn h1 fun itv s2 h2=> ?_) hs;obtain⟨it,fp,tn,J,H2,e,I2,T,st2,f2,W,⟨m0,w0⟩,turn⟩:=h2;subst e;have stat:∀{H':Hp},(∀b∈fp,H' b=none)->∀b∈fp,Zhx X pins H' b:=fun hn b hb=>⟨hn b hb,(f2 b hb).2⟩
 refine codeAny_forLoop_any (fun n s'=>∃i σ' H',Inv X pins σ' H' s'/\tn i s'.heap/\(∀b∈fp,H' b=none)/\W i n σ' H') ?_ m0 ⟨0,σ,H2,I2,st2,fun b hb=>(f2 b hb).1,w0⟩;rintro n s3 ⟨i,σ3,H3,I3,st3,fr3,w3⟩;rcases turn i n σ3 H3 w3 with ⟨stop,qn⟩|⟨go,N,hN,step⟩
 ·refine wpAny_passesOwn hp (thn (T.done X rfl rfl rfl hc i pins s3 σ3 H3 X.xe I3 (stat fr3) st3 stop) fun r s4 ⟨hr,I4⟩=> ?_);subst hr;exact wpAny_execs_nil ⟨σ3,H3,I4,qn⟩
 ·refine wpAny_passesOwn hp (thn (T.item X rfl rfl rfl hc i pins s3 σ3 H3 X.xe I3 (stat fr3) st3 go) fun r s4 ⟨u,hr,h4⟩=> ?_);subst hr;refine wpAny_passesOwn hp (thn h4 fun _ s5 ⟨x,H5,I5,r5,y5,st5,fr5⟩=> ?_);have I5':=I5.pinned (stat fr5) (T.obj _ _ st5);refine wpAny_passesOwn hp (thn (hg _ s5 σ3 H5 x u _ I5' r5 (step x H5 y5)) fun _ s6 ⟨σ6,H6,I6,q6⟩=> ?_);refine wpAny_passesOwn hp (thn (hb _ s6 σ6 H6 _ I6 q6) fun f s7 q7=> ?_)
  have again:∀{σ7:St} {H7:Hp},Inv X (pins++Zhy fp s5.heap) σ7 H7 s7->N σ7 H7->∃m,m<n/\∃i σ' H',Inv X pins σ' H' s7/\tn i s7.heap/\(∀b∈fp,H' b=none)/\W i m σ' H':=fun{σ7 H7} I7 n7=>by
   obtain⟨m',hm,w7⟩:=hN σ7 H7 n7;refine⟨m',hm,i+1,σ7,H7,I7.unpinned,T.keep _ _ _ st5 fun b hb o e=>(I7.pin (b,o) (List.mem_append_right _ (List.mem_append_right _ (Zd0 hb e)))).1,fun b hb=> ?_,w7⟩;obtain⟨o,e,d⟩:=T.obj _ _ st5 b hb;exact(I7.pin (b,o) (List.mem_append_right _ (List.mem_append_right _ (Zd0 hb e)))).2.1
  cases f with
  |next=>obtain⟨σ7,H7,I7,n7⟩:=q7;exact again I7 n7
  |cont=>obtain⟨σ7,H7,I7,n7⟩:=q7;exact again I7 n7
  |brk=>obtain⟨σ7,H7,I7,q7⟩:=q7;exact⟨σ7,H7,I7.unpinned,q7⟩
  |ret v=>obtain⟨x7,σ7,H7,I7,r7,q7⟩:=q7;exact⟨x7,σ7,H7,I7.unpinned,r7,q7⟩
end
theorem YH{K:PySem.W.Frag}{a:Addr}{xs:List V}{g:TG}{tb:TS}{D:ZjO}{σ:St}{H:Hp}(Pv:Nat->St->Hp->Prop)(h0:Pv 0 σ H)(hl:∀i σ H,i<=xs.length->Pv i σ H->SqL K H a xs)
  (hs:∀i x σ H,xs[i]? =some x->Pv i σ H->g x σ H fun σ2 H2=>tb {D with nx:=Pv (i+1),ct:=Pv (i+1),bk:=D.nx} σ2 H2)(hd:∀σ H,Pv xs.length σ H->D.nx σ H):
  ∃W:Nat->Nat->St->Hp->Prop,(∃m,W 0 m σ H)/\∀i m σ H,W i m σ H->
   ((Itl K a).stop i H/\D.nx σ H)\/((Itl K a).go i H/\∃N:St->Hp->Prop,(∀σ' H',N σ' H'->∃m',m'<m/\W (i+1) m' σ' H')/\∀x H',(Itl K a).yld i H x H'->g x σ H' fun σ2 H2=>tb {D with nx:=N,ct:=N,bk:=D.nx} σ2 H2):=by
 refine⟨fun i m σ H=>m=xs.length-i/\i<=xs.length/\Pv i σ H,⟨xs.length,by simp,Nat.zero_le _,h0⟩, ?_⟩;rintro i m σ H ⟨rfl,hi,p⟩;have q:=hl i σ H hi p
 by_cases hlt:i<xs.length
 ·refine .inr ⟨⟨xs,xs[i],q,by simp[hlt]⟩,Pv (i+1),fun σ' H' p'=>⟨xs.length-(i+1),by omega,rfl,hlt,p'⟩,fun x H' y=> ?_⟩;obtain⟨e,y⟩:=y;subst e;exact hs i x σ _ (y xs q) p
 ·have e:i=xs.length:=by omega
  subst e;exact .inl ⟨⟨xs,q,Nat.le_refl _⟩,hd σ H p⟩
theorem Zj6{lo:Int}{n:Nat}{g:TG}{tb:TS}{D:ZjO}{σ:St}{H:Hp}(Pv:Nat->St->Hp->Prop)(h0:Pv 0 σ H)
  (hs:∀i σ H,i<n->Pv i σ H->g (.int (lo+i)) σ H fun σ2 H2=>tb {D with nx:=Pv (i+1),ct:=Pv (i+1),bk:=D.nx} σ2 H2)(hd:∀σ H,Pv n σ H->D.nx σ H):
  ∃W:Nat->Nat->St->Hp->Prop,(∃m,W 0 m σ H)/\∀i m σ H,W i m σ H->
   ((Itr lo n).stop i H/\D.nx σ H)\/((Itr lo n).go i H/\∃N:St->Hp->Prop,(∀σ' H',N σ' H'->∃m',m'<m/\W (i+1) m' σ' H')/\∀x H',(Itr lo n).yld i H x H'->g x σ H' fun σ2 H2=>tb {D with nx:=N,ct:=N,bk:=D.nx} σ2 H2):=by
 refine⟨fun i m σ H=>m=n-i/\i<=n/\Pv i σ H,⟨n,by simp,Nat.zero_le _,h0⟩, ?_⟩;rintro i m σ H ⟨rfl,hi,p⟩
 by_cases hlt:i<n
 ·refine .inr ⟨hlt,Pv (i+1),fun σ' H' p'=>⟨n-(i+1),by omega,rfl,hlt,p'⟩,fun x H' y=> ?_⟩;obtain⟨e,y⟩:=y;subst e y;exact hs i σ _ hlt p
 ·have e:i=n:=by omega
  subst e;exact .inl ⟨Nat.le_refl _,hd σ H p⟩
end L2
namespace L2
open PySem PySem.Spec PyProof.Rows
abbrev R2:=V->V->Hp->VK->Prop
def OpR(X:Cx)(f:Value->Value->Sem Value)(r:R2):Prop:=
 ∀(pins:List (Addr×Obj)) (s:Shared) (σ:St) (H:Hp) (x y:V) (v u:Value) (Q:VK),Inv X pins σ H s->ZX x v->ZX y u->r x y H Q->
  wpAny (model X.prog X.w) X.A (f v u) (EP X pins σ Q) X.xe s
def UnR(X:Cx)(f:Value->Sem Value)(r:V->Hp->VK->Prop):Prop:=
 ∀(pins:List (Addr×Obj)) (s:Shared) (σ:St) (H:Hp) (x:V) (v:Value) (Q:VK),Inv X pins σ H s->ZX x v->r x H Q->
  wpAny (model X.prog X.w) X.A (f v) (EP X pins σ Q) X.xe s
def Zbf(X:Cx)(f:Value)(r:List V->Hp->VK->Prop):Prop:=
 ∀(pins:List (Addr×Obj)) (s:Shared) (σ:St) (H:Hp) (xs:List V) (us:List Value) (Q:VK),Inv X pins σ H s->Yc xs us->r xs H Q->
  wpAny (model X.prog X.w) X.A (call f us) (EP X pins σ Q) X.xe s
def tOp(r:R2)(ta tb:TE):TE:=fun σ H Q=>ta σ H fun x H1=>tb σ H1 fun y H2=>r x y H2 Q
def tUn(r:V->Hp->VK->Prop)(ta:TE):TE:=fun σ H Q=>ta σ H fun x H1=>r x H1 Q
def rI(C:Int->Int->Prop)(g:Int->Int->V):R2:=fun x y H Q=>∃i j,x=.int i/\y=.int j/\C i j/\Q (g i j) H
def rI0(g:Int->Int->V):R2:=fun x y H Q=>∃i j,x=.int i/\y=.int j/\Q (g i j) H
def rU(g:Int->V):V->Hp->VK->Prop:=fun x H Q=>∃i,x=.int i/\Q (g i) H
section
variable {X:Cx} {a b c:Expr} {ta tb tc:TE} {pos:Pos}
theorem ZrC(ha:PE X a ta)(hb:PE X b tb){pins:List (Addr×Obj)}{s:Shared}{σ:St}{H:Hp}{R:V->V->Hp->Prop}(I:Inv X pins σ H s)
  (h:ta σ H fun x H1=>tb σ H1 fun y H2=>R x y H2){Q:Value->Shared->Prop}{f:Value->Value->Sem Value}
  (hf:∀v u s2 x y H2,Inv X pins σ H2 s2->ZX x v->ZX y u->R x y H2->wpAny (model X.prog X.w) X.A (f v u) Q X.xe s2):
  wpAny (model X.prog X.w) X.A (eval a X.env) (fun v s₁=>wpAny (model X.prog X.w) X.A (eval b X.env) (fun u s₂=>wpAny (model X.prog X.w) X.A (f v u) Q X.xe s₂) X.xe s₁) X.xe s:=by
 refine thn (ha pins s σ H _ I h) fun v s1 ⟨x,H1,I1,r1,q1⟩=> ?_;refine thn (hb pins s1 σ H1 _ I1 q1) fun u s2 ⟨y,H2,I2,r2,q2⟩=> ?_;exact hf v u s2 x y H2 I2 r1 r2 q2
theorem Zw{op:Operator}{r:R2}(ho:OpR X (binaryOp op) r)(ha:PE X a ta)(hb:PE X b tb):PE X (.BinOp a op b pos) (tOp r ta tb):=by
 intro pins s σ H Q I h;exact wpAny_BinOp (ZrC ha hb I h fun v u s2 x y H2 I2 rx ry q=>ho pins s2 σ H2 x y v u Q I2 rx ry q)
theorem Zrg{op:UnaryOp}{r:V->Hp->VK->Prop}(ho:UnR X (unaryOp op) r)(ha:PE X a ta):PE X (.UnaryOp op a pos) (tUn r ta):=by
 intro pins s σ H Q I h;exact UnaryOp_ (thn (ha pins s σ H _ I h) fun v s1 ⟨x,H1,I1,r1,q1⟩=>ho pins s1 σ H1 x v Q I1 r1 q1)
theorem opI{f:Value->Value->Sem Value}{C:Int->Int->Prop}{g:Int->Int->Int}
  (rule:∀(i j:Int) (t u:Tok) (s:Shared) (Q:Value->Shared->Prop) (E:Value->Shared->Prop),C i j->Q (.int (g i j) s.toks) {s with toks:=s.toks+1}->wpAny (model X.prog X.w) X.A (f (.int i t) (.int j u)) Q E s):
  OpR X f (rI C fun i j=> .int (g i j)):=by
 intro pins s σ H x y v u Q I rx ry h;obtain⟨i,j,rfl,rfl,hc,q⟩:=h;obtain⟨t,rfl⟩:=rx;obtain⟨t',rfl⟩:=ry;exact rule i j t t' s _ _ hc ⟨.int (g i j),H,I.tok _,⟨_,rfl⟩,q⟩
theorem Zsw{f:Value->Value->Sem Value}{g:Int->Int->Int}
  (rule:∀(i j:Int) (t u:Tok) (s:Shared) (Q:Value->Shared->Prop) (E:Value->Shared->Prop),Q (.int (g i j) s.toks) {s with toks:=s.toks+1}->wpAny (model X.prog X.w) X.A (f (.int i t) (.int j u)) Q E s):
  OpR X f (rI0 fun i j=> .int (g i j)):=by
 intro pins s σ H x y v u Q I rx ry h;obtain⟨i,j,rfl,rfl,q⟩:=h;obtain⟨t,rfl⟩:=rx;obtain⟨t',rfl⟩:=ry;exact rule i j t t' s _ _ ⟨.int (g i j),H,I.tok _,⟨_,rfl⟩,q⟩
theorem ZrD{f:Value->Value->Sem Value}{g:Int->Int->Bool}
  (rule:∀(i j:Int) (t u:Tok) (s:Shared) (Q:Value->Shared->Prop) (E:Value->Shared->Prop),Q (.bool (g i j)) s->wpAny (model X.prog X.w) X.A (f (.int i t) (.int j u)) Q E s):
  OpR X f (rI0 fun i j=> .bl (g i j)):=by
 intro pins s σ H x y v u Q I rx ry h;obtain⟨i,j,rfl,rfl,q⟩:=h;obtain⟨t,rfl⟩:=rx;obtain⟨t',rfl⟩:=ry;exact rule i j t t' s _ _ ⟨.bl (g i j),H,I,rfl,q⟩
def Ztr(i j:Int):Prop:=0<j/\j<1073741824
def Zsx(i j:Int):Prop:=0<=j/\j<=1000000/\i.natAbs<2^64
theorem XX:OpR X (binaryOp .Add) (rI0 fun i j=> .int (i+j)):=Zsw fun _ _ _ _ _ _ _ q=>add_int q
theorem Zmg:OpR X (binaryOp .Sub) (rI0 fun i j=> .int (i-j)):=Zsw fun _ _ _ _ _ _ _ q=>sub_int q
theorem Yq:OpR X (binaryOp .FloorDiv) (rI Ztr fun i j=> .int (i/j)):=opI fun i j _ _ _ _ _ hc q=>by
 have h1:(0:Int)<j:=hc.1;have h2:j<1073741824:=hc.2;exact floordiv_int (by omega) (by rw[Int.fdiv_eq_ediv_of_nonneg i (by omega)];exact q) (.inl (PyProof.noPylong_small (by omega)))
theorem ZW:OpR X (binaryOp .Mod) (rI (fun _ j=>0<j) fun i j=> .int (i%j)):=opI fun i j _ _ _ _ _ hc q=>by
 have h1:(0:Int)<j:=hc;exact mod_int' (by omega) (by rw[Int.fmod_eq_emod_of_nonneg i (by omega)];exact q)
theorem ZoP:OpR X (binaryOp .Pow) (rI Zsx fun i j=> .int (i^j.toNat)):=opI fun _ _ _ _ _ _ _ hc q=>pow_int_small hc.1 hc.2.1 hc.2.2 q
theorem unI{f:Value->Sem Value}{g:Int->Int}
  (rule:∀(i:Int) (t:Tok) (s:Shared) (Q:Value->Shared->Prop) (E:Value->Shared->Prop),Q (.int (g i) s.toks) {s with toks:=s.toks+1}->wpAny (model X.prog X.w) X.A (f (.int i t)) Q E s):
  UnR X f (rU fun i=> .int (g i)):=by
 intro pins s σ H x v Q I rx h;obtain⟨i,rfl,q⟩:=h;obtain⟨t,rfl⟩:=rx;exact rule i t s _ _ ⟨.int (g i),H,I.tok _,⟨_,rfl⟩,q⟩
theorem ZoQ:UnR X (unaryOp .USub) (rU fun i=> .int (-i)):=unI fun _ _ _ _ _ q=>neg_int q
end
def Zqn:V->V->Bool
 | .non,.non=>true| .non,.int _=>true| .int _,.non=>true| .non,.bl _=>true| .bl _,.non=>true| .non,.str _=>true| .str _,.non=>true
 | .int _,.int _=>true| .bl _,.bl _=>true| .str _,.str _=>true| .byt _,.byt _=>true
 | .int _,.str _=>true| .str _,.int _=>true| .bl _,.str _=>true| .str _,.bl _=>true
 |_,_=>false
def rEq:R2:=fun x y H Q=>Zqn x y=true/\Q (.bl (decide (x=y))) H
def rNe:R2:=fun x y H Q=>Zqn x y=true/\Q (.bl (!decide (x=y))) H
theorem Znh{i j:Int}:decide (V.int i=V.int j)=(i==j):=by
 rw[Bool.eq_iff_iff];simp
theorem ZoR{i j:Bool}:decide (V.bl i=V.bl j)=(i==j):=by
 rw[Bool.eq_iff_iff];simp
theorem Zni{i j:Str}:decide (V.str i=V.str j)=(i==j):=by
 rw[Bool.eq_iff_iff];simp
theorem Znj{i j:Array UInt8}:decide (V.byt i=V.byt j)=(i.toList==j.toList):=by
 rw[Bool.eq_iff_iff];cases i;cases j;simp
section
variable {X:Cx} {a b c:Expr} {ta tb tc:TE} {pos:Pos}
theorem Yw{pins:List (Addr×Obj)}{σ:St}{H:Hp}{s:Shared}{Q:VK}{k k':Bool}(I:Inv X pins σ H s)(q:Q (.bl k) H)(e:k=k'):EP X pins σ Q (.bool k') s:=by
 subst e;exact⟨.bl k,H,I,rfl,q⟩
theorem Ym:OpR X (compareOp .Eq) rEq:=by
 intro pins s σ H x y v u Q I rx ry h;obtain⟨hs,q⟩:=h;cases x with
 |non=>
  cases rx;cases y with
  |non=>cases ry;exact PySem.EqNone.eq_none_none (Yw I q (by simp))
  |bl j=>cases ry;exact PySem.EqNone.eq_none_bool (Yw I q (by simp))
  |int j=>obtain⟨t',rfl⟩:=ry;exact PySem.EqNone.eq_none_int (Yw I q (by simp))
  |str j=>obtain⟨t',rfl⟩:=ry;exact PySem.EqNone.eq_none_str (Yw I q (by simp))
  |_=>exact absurd (show false=true from hs) Bool.false_ne_true
 |bl i=>
  cases rx;cases y with
  |non=>cases ry;exact PySem.EqNone.eq_bool_none (Yw I q (by simp))
  |bl j=>cases ry;exact eq_bool (Yw I q ZoR)
  |str j=>obtain⟨t',rfl⟩:=ry;exact PySem.EqMixed.eq_bool_str (Yw I q (by simp))
  |_=>exact absurd (show false=true from hs) Bool.false_ne_true
 |int i=>
  obtain⟨t,rfl⟩:=rx;cases y with
  |non=>cases ry;exact PySem.EqNone.eq_int_none (Yw I q (by simp))
  |int j=>obtain⟨t',rfl⟩:=ry;exact eq_int (Yw I q Znh)
  |str j=>obtain⟨t',rfl⟩:=ry;exact PySem.EqMixed.eq_int_str (Yw I q (by simp))
  |_=>exact absurd (show false=true from hs) Bool.false_ne_true
 |str i=>
  obtain⟨t,rfl⟩:=rx;cases y with
  |non=>cases ry;exact PySem.EqNone.eq_str_none (Yw I q (by simp))
  |bl j=>cases ry;exact PySem.EqMixed.eq_str_bool (Yw I q (by simp))
  |int j=>obtain⟨t',rfl⟩:=ry;exact PySem.EqMixed.eq_str_int (Yw I q (by simp))
  |str j=>obtain⟨t',rfl⟩:=ry;exact eq_str (Yw I q Zni)
  |_=>exact absurd (show false=true from hs) Bool.false_ne_true
 |byt i=>
  obtain⟨t,rfl⟩:=rx;cases y with
  |byt j=>obtain⟨t',rfl⟩:=ry;exact PySem.W.eq_bytes (Yw I q Znj)
  |_=>exact absurd (show false=true from hs) Bool.false_ne_true
 |_=>cases y<;>exact absurd (show false=true from hs) Bool.false_ne_true
theorem ZoS:OpR X (compareOp .NotEq) rNe:=by
 intro pins s σ H x y v u Q I rx ry h;obtain⟨hs,q⟩:=h;cases x with
 |non=>
  cases rx;cases y with
  |non=>cases ry;exact PySem.EqNone.ne_none_none (Yw I q (by simp))
  |bl j=>cases ry;exact PySem.EqNone.ne_none_bool (Yw I q (by simp))
  |int j=>obtain⟨t',rfl⟩:=ry;exact PySem.EqNone.ne_none_int (Yw I q (by simp))
  |str j=>obtain⟨t',rfl⟩:=ry;exact PySem.EqNone.ne_none_str (Yw I q (by simp))
  |_=>exact absurd (show false=true from hs) Bool.false_ne_true
 |bl i=>
  cases rx;cases y with
  |non=>cases ry;exact PySem.EqNone.ne_bool_none (Yw I q (by simp))
  |bl j=>cases ry;exact ne_bool (Yw I q (congrArg not ZoR))
  |str j=>obtain⟨t',rfl⟩:=ry;exact PySem.EqMixed.ne_bool_str (Yw I q (by simp))
  |_=>exact absurd (show false=true from hs) Bool.false_ne_true
 |int i=>
  obtain⟨t,rfl⟩:=rx;cases y with
  |non=>cases ry;exact PySem.EqNone.ne_int_none (Yw I q (by simp))
  |int j=>obtain⟨t',rfl⟩:=ry;exact ne_int (Yw I q (congrArg not Znh))
  |str j=>obtain⟨t',rfl⟩:=ry;exact PySem.EqMixed.ne_int_str (Yw I q (by simp))
  |_=>exact absurd (show false=true from hs) Bool.false_ne_true
 |str i=>
  obtain⟨t,rfl⟩:=rx;cases y with
  |non=>cases ry;exact PySem.EqNone.ne_str_none (Yw I q (by simp))
  |bl j=>cases ry;exact PySem.EqMixed.ne_str_bool (Yw I q (by simp))
  |int j=>obtain⟨t',rfl⟩:=ry;exact PySem.EqMixed.ne_str_int (Yw I q (by simp))
  |str j=>obtain⟨t',rfl⟩:=ry;exact ne_str (Yw I q (congrArg not Zni))
  |_=>exact absurd (show false=true from hs) Bool.false_ne_true
 |byt i=>
  obtain⟨t,rfl⟩:=rx;cases y with
  |byt j=>obtain⟨t',rfl⟩:=ry;exact PySem.W.ne_bytes (Yw I q (congrArg not Znj))
  |_=>exact absurd (show false=true from hs) Bool.false_ne_true
 |_=>cases y<;>exact absurd (show false=true from hs) Bool.false_ne_true
theorem ZfG:OpR X (compareOp .Lt) (rI0 fun i j=> .bl (decide (i<j))):=ZrD fun _ _ _ _ _ _ _ q=>lt_int q
theorem ZoT:OpR X (compareOp .LtE) (rI0 fun i j=> .bl (decide (i<=j))):=ZrD fun _ _ _ _ _ _ _ q=>le_int q
theorem ZeS:OpR X (compareOp .Gt) (rI0 fun i j=> .bl (decide (j<i))):=ZrD fun _ _ _ _ _ _ _ q=>gt_int q
theorem Zcd:OpR X (compareOp .Is) (fun x y H Q=>y=.non/\Q (.bl (decide (x=.non))) H):=by
 intro pins s σ H x y v u Q I rx ry h;obtain⟨rfl,q⟩:=h;cases ry;refine is_none_gen (Yw I q ?_);cases x<;>first
  |(cases rx;rfl)
  |(obtain⟨t,rfl⟩:=rx;rfl)
theorem ZfH:OpR X (compareOp .IsNot) (fun x y H Q=>y=.non/\Q (.bl (!decide (x=.non))) H):=by
 intro pins s σ H x y v u Q I rx ry h;obtain⟨rfl,q⟩:=h;cases ry;refine isnot_none_gen (Yw I q ?_);cases x<;>first
  |(cases rx;rfl)
  |(obtain⟨t,rfl⟩:=rx;rfl)
theorem Zv(b:Expr){op:CmpOp}(h:op≠.In:=by decide)(h2:op≠.NotIn:=by decide):behindInMarks op b=false:=by
 have e1:(op==CmpOp.In)=false:=by cases op<;>first|rfl|exact absurd rfl h
 have e2:(op==CmpOp.NotIn)=false:=by cases op<;>first|rfl|exact absurd rfl h2
 cases b<;>simp[behindInMarks,e1,e2]
theorem Za7{op:CmpOp}{r:R2}(ho:OpR X (compareOp op) r)(ha:PE X a ta)(hb:PE X b tb)(hm:behindInMarks op b=false):PE X (.Compare a [op] [b] pos) (tOp r ta tb):=by
 intro pins s σ H Q I h;exact wpAny_Compare1 (ZrC ha hb I h fun v u s2 x y H2 I2 rx ry q=>ho pins s2 σ H2 x y v u Q I2 rx ry q) hm
def Zrh(t:TE):TT:=fun σ H Q=>t σ H fun x H'=>∃k,x=.bl k/\Q k H'
theorem Zq{op:CmpOp}{r:R2}(ho:OpR X (compareOp op) r)(ha:PE X a ta)(hb:PE X b tb)(hm:behindInMarks op b=false):PT X (.Compare a [op] [b] pos) (Zrh (tOp r ta tb)):=by
 intro pins s σ H Q I h;refine wpAny_isTrue_Compare1 (thn (ha pins s σ H _ I h) fun v s1 ⟨x,H1,I1,r1,q1⟩=>thn (hb pins s1 σ H1 _ I1 q1) fun u s2 ⟨y,H2,I2,r2,q2⟩=>
  thn (ho pins s2 σ H2 x y v u _ I2 r1 r2 q2) fun c s3 ⟨z,H3,I3,r3,k,e,q3⟩=> ?_) hm
 subst e;cases r3;exact wpAny_truthy_bool ⟨H3,I3,q3⟩
theorem ZjP:(sizeLine:Nat)<2^63:=by rw[sizeLine_eq];decide
theorem ZeY:OpR X (binaryOp .Add) (fun x y H Q=>∃i j,x=.str i/\y=.str j/\i.length+j.length<=sizeLine/\Q (.str (i++j)) H):=by
 intro pins s σ H x y v u Q I rx ry h;obtain⟨i,j,rfl,rfl,hz,q⟩:=h;obtain⟨t,rfl⟩:=rx;obtain⟨t',rfl⟩:=ry;exact add_str (fun t' tk=>⟨.str (i++j),H,I.tok _,⟨_,rfl⟩,q⟩) hz
theorem Zbx{x:V}{us:List Value}(r:Yc [x] us):∃u,us=[u]/\ZX x u:=by
 cases r with
 |cons r1 r2=>cases r2;exact⟨_,rfl,r1⟩
theorem Zri{x y:V}{us:List Value}(r:Yc [x,y] us):∃u w',us=[u,w']/\ZX x u/\ZX y w':=by
 cases r with
 |cons r1 r2=>
  cases r2 with
  |cons r3 r4=>cases r4;exact⟨_,_,rfl,r1,r3⟩
theorem Zhz:Zbf X (.builtin "abs") (fun xs H Q=>∃i,xs=[.int i]/\Q (.int (if i<0 then-i else i)) H):=by
 intro pins s σ H xs us Q I r h;obtain⟨i,rfl,q⟩:=h;obtain⟨u,rfl,t,rfl⟩:=Zbx r;exact call_abs_int fun u tk=>⟨.int (if i<0 then-i else i),H,I.tok _,⟨_,rfl⟩,q⟩
theorem Zgg(hc:X.calm=true):Zbf X (.builtin "max") (fun xs H Q=>∃i j,xs=[.int i,.int j]/\Q (.int (if j>i then j else i)) H):=by
 intro pins s σ H xs us Q I r h;obtain⟨i,j,rfl,q⟩:=h;obtain⟨u,w',rfl,⟨t,rfl⟩,⟨t',rfl⟩⟩:=Zri r;refine max_two_ints (I.ok.hd hc) fun h' tk k=>⟨_,H,I.kept k, ?_,q⟩
 by_cases hj:j>i
 ·rw[if_pos hj,if_pos hj];exact⟨_,rfl⟩
 ·rw[if_neg hj,if_neg hj];exact⟨_,rfl⟩
theorem Zj7(hc:X.calm=true):Zbf X (.builtin "min") (fun xs H Q=>∃i j,xs=[.int i,.int j]/\Q (.int (if j<i then j else i)) H):=by
 intro pins s σ H xs us Q I r h;obtain⟨i,j,rfl,q⟩:=h;obtain⟨u,w',rfl,⟨t,rfl⟩,⟨t',rfl⟩⟩:=Zri r;refine min_two_ints (I.ok.hd hc) fun h' tk k=>⟨_,H,I.kept k, ?_,q⟩
 by_cases hj:j<i
 ·rw[if_pos hj,if_pos hj];exact⟨_,rfl⟩
 ·rw[if_neg hj,if_neg hj];exact⟨_,rfl⟩
theorem Zey:Zbf X (.type "int") (fun xs H Q=>(∃i,xs=[.int i]/\Q (.int i) H)\/∃k,xs=[.bl k]/\Q (.int (if k then 1 else 0)) H):=by
 intro pins s σ H xs us Q I r h;rcases h with ⟨i,rfl,q⟩|⟨k,rfl,q⟩
 ·obtain⟨u,rfl,t,rfl⟩:=Zbx r;exact call_int_int ⟨.int i,H,I,⟨_,rfl⟩,q⟩
 ·obtain⟨u,rfl,r1⟩:=Zbx r;cases r1;exact call_int_bool ⟨.int (if k then 1 else 0),H,I.tok _,⟨_,rfl⟩,q⟩
def Zts(K:PySem.W.Frag)(x:V)(H:Hp)(n:Nat):Prop:=
 match x with
 | .str y=>y.length<=sizeLine/\n=y.length
 | .byt y=>y.size<=sizeLine/\n=y.size
 | .ref p=>(∃xs,SqL K H p xs/\n=xs.length)\/∃xs,SqT K H p xs/\n=xs.length
 |_=>False
theorem JP:Zbf X (.builtin "len") (fun xs H Q=>∃x n,xs=[x]/\Zts X.K x H n/\Q (.int n) H):=by
 intro pins s σ H xs us Q I r h;obtain⟨x,n,rfl,e,q⟩:=h;obtain⟨u,rfl,rx⟩:=Zbx r;have hl:=ZjP;have hs:sizeLine=16777216:=sizeLine_eq;cases x with
 |str y=>
  obtain⟨t,rfl⟩:=rx;obtain⟨hy,e'⟩:y.length<=sizeLine/\n=y.length:=e;subst e';exact len_str (by omega) ⟨.int _,H,I.tok _,⟨_,rfl⟩,q⟩
 |byt y=>
  obtain⟨t,rfl⟩:=rx;obtain⟨hy,e'⟩:y.size<=sizeLine/\n=y.size:=e;subst e';exact PySem.W.len_bytes (by omega) ⟨.int _,H,I.tok _,⟨_,rfl⟩,q⟩
 |ref p=>
  cases rx;have e':(∃xs,SqL X.K H p xs/\n=xs.length)\/∃xs,SqT X.K H p xs/\n=xs.length:=e;rcases e' with ⟨xs,hx,e'⟩|⟨xs,hx,e'⟩
  ·subst e';obtain⟨its,r',pl,hz⟩:=I.list hx;have hlen:=r'.length;exact Calls.call_len_list pl.isList (by simp only [List.size_toArray];omega) ⟨.int xs.length,H,I.tok _,⟨_,by simp only [List.size_toArray];rw[hlen]⟩,q⟩
  ·subst e';obtain⟨its,r',pl,hz⟩:=I.tuple hx;have hlen:=r'.length;exact len_tuple pl (by simp only [List.size_toArray];omega) ⟨.int xs.length,H,I.tok _,⟨_,by simp only [List.size_toArray];rw[hlen]⟩,q⟩
 |_=>exact(show False from e).elim
end
end L2
namespace L2
open PySem PySem.Spec PyProof.Rows
structure Zmh (h:Heap) (x dx C:Addr) (mA:Str->Option Value):Prop where
 obj:h.get? x=some (PySem.W.instObj C dx)
 ns:h.Ns1 dx mA
 ne:dx≠x
theorem ZnU{h:Heap}{dx:Addr}{mA:Str->Option Value}(n:h.Ns1 dx mA):∃od,h.get? dx=some od/\∀name,PySem.W.lookIn name od=some (mA name):=by
 obtain⟨o,es,ep,ho,hd,hk,_,hm⟩:=n;refine⟨o,ho,fun name=> ?_⟩;have e:=hm name;unfold nsFind findBy at e
 rw[<-Array.find?_toList] at e
 unfold PySem.W.lookIn;rw[hd]
 dsimp only
 split
 ·rename_i y q
  rw[q] at e
  exact congrArg some e
 ·rename_i q
  rw[q] at e
  have a:es.toList.any (·.refKey)=false:=by
   rw[List.any_eq_false];intro y hy;obtain⟨z,t,hkey⟩:=hk y (Array.mem_toList_iff.mp hy);simp[DictEntry.refKey,hkey]
  have a':¬es.toList.any (·.refKey)=true:=by rw[a];exact Bool.false_ne_true
  rw[if_neg a'];exact congrArg some e
theorem Zmh.look{h:Heap}{x dx C:Addr}{mA:Str->Option Value}(I:Zmh h x dx C mA):∃od,PySem.W.InstAt h x (PySem.W.instObj C dx) C (some od)/\∀name,PySem.W.lookIn name od=some (mA name):=
 let ⟨od,ho,hl⟩:=ZnU I.ns
 ⟨od,⟨I.obj,rfl,rfl,ho⟩,hl⟩
section
variable {prog:Program} {w:World} {A:Around} {E:Value->Shared->Prop} {s:Shared} {K:PySem.W.Frag} {x dx C f:Addr} {mA:Str->Option Value} {name:Str} {v:Value}
theorem Zqo{expr:Bool}{Q:Value->Shared->Prop}(X:K.In s.heap)(I:Zmh s.heap x dx C mA)(hg:PySem.W.plainGet K C name=true)(hh:PySem.W.hasDictIn K C=true)
  (ha:PySem.W.findIn K (.ref C) name=some none)(hv:mA name=some v)(hv':PySem.W.handedIn v=true)(h:Q v {s with toks:=s.toks+1}):
  wpAny (model prog w) A (getAttr (.ref x) name expr) Q E s:=by
 obtain⟨od,J,hl⟩:=I.look;exact PySem.W.get_value X J (PySem.W.plainGet_of hg).1 (PySem.W.findObj_own hh ha rfl (by rw[hl,hv])) hv' h
theorem ZoU{pl:Sem Bool}{Q:Value×List Value->Shared->Prop}(X:K.In s.heap)(I:Zmh s.heap x dx C mA)(hg:PySem.W.plainGet K C name=true)
  (hf:PySem.W.findIn K (.ref C) name=some (some (.ref f)))(ht:PySem.W.isFn K (.ref f)=true)(hv:mA name=none)(h:Q (.ref f,[.ref x]) s):
  wpAny (model prog w) A (getMethod (.ref x) name pl) Q E s:=by
 obtain⟨od,J,hl⟩:=I.look;exact PySem.W.method_fn X J (PySem.W.plainGet_of hg).1 (PySem.W.plainGet_of hg).2 hf (beq_iff_eq.mp ht) (by show(PySem.W.lookIn name od).map (·.isSome)=some false;rw[hl,hv];rfl) h
theorem Zqp{ns:List Str}{Q:Unit->Shared->Prop}(X:K.In s.heap)(I:Zmh s.heap x dx C mA)
  (hs:PySem.W.findIn K (.ref C) "__setattr__"=some (some (.builtin "object.__setattr__")))(hp:PySem.W.plainOver K C=true)(ht:PySem.W.takerIn K C name=some none)(hh:PySem.W.hasDictIn K C=true)
  (hw:PySem.Within mA ns)(hsz:ns.length<=sizeLine)
  (h:∀h',Zmh h' x dx C (fun y=>if y=name then some v else mA y)->Heap.SameBut dx s.heap h'->Q () {s with heap:=h',toks:=s.toks+2}):
  wpAny (model prog w) A (setAttr (.ref x) name v) Q E s:=by
 obtain⟨od,J,hl⟩:=I.look;refine PySem.W.set_plain X J hs (PySem.W.osa_open (s:={s with toks:=s.toks+1}) (r:=none) X J hp ht fun b=> ?_);obtain⟨cd,hc,hd'⟩:=PySem.W.any_some hh;have hx:s.heap.get? x=some ⟨.ref C,some dx,.plain, #[]⟩:=I.obj;refine wpAny_bind (wpAny_pure (wpAny_bind (wpAny_bind (wpAny_loadPart hx (wpAny_bind (PySem.W.Looks.here (s:={s with toks:=s.toks+1}) (PySem.W.looks_clsIn X hc) ?_))))))
 rw[hd'];refine wpAny_pure (a:=some dx) (wpAny_bind (wpAny_pure (wpAny_bind ?_)));refine wpAny_nsSet1 (s:={s with toks:=s.toks+1}) I.ns fun h' hn2 hs2=> ?_;obtain⟨oD,esD,epD,hoD,hdD,hcD⟩:=hn2.count (PySem.Within.cons name v hw);refine wpAny_bind (wpAny_lookBehind hoD (by rw[hdD];exact pastItsLine_dict (Nat.le_trans hcD (by rw[List.length_cons];omega))) ?_)
 exact wpAny_pure (h _ ⟨(hs2.2 _ (Ne.symm I.ne)).trans I.obj,hn2,I.ne⟩ hs2)
theorem ZoV{R:Result->Shared->Prop}{vs:List Value}{kw:List (Str×Value)}(X:K.In s.heap)(hm:PySem.W.makesIn K C=true)
  (hi:PySem.W.findIn K (.ref C) "__init__"=some (some (.ref f)))(hf:PySem.W.typeIn K (.ref f)=some (.type "function"))
  (h:codeAny (model prog w) (A.under (.builtin "type.__call__" ⟨.ref C::vs,kw⟩)) (.call (.ref f) ⟨.ref (s.heap.objs.size+1)::vs,kw⟩) (PySem.W.InitBack (s.heap.objs.size+1) R)
   {s with heap:=(s.heap.push PySem.W.emptyDict).push (PySem.W.instObj C s.heap.objs.size)}):
  codeAny (model prog w) A (.call (.ref C) ⟨vs,kw⟩) R s:=by
 obtain⟨hh,g,d,t,os⟩:=s;exact PySem.W.make_core (PySem.W.makes_of X hm) (PySem.W.looks_findIn X hi) (fun self=>PySem.W.bind_fn X self hf) (.inl rfl) h
end
def ZP(f:Str)(v:V):List (Str×V)->List (Str×V)
 |[]=>[(f,v)]
 |(g,x)::r=>if g=f then(g,v)::r else(g,x)::ZP f v r
theorem Zr(f g:Str)(v:V):∀fs:List (Str×V),(ZP f v fs).lookup g=if g=f then some v else fs.lookup g
 |[]=>by
  show List.lookup g [(f,v)]=_
  by_cases h:g=f
  ·have hb:(g==f)=true:=beq_iff_eq.mpr h;simp only [List.lookup,hb,if_pos h]
  ·have hb:(g==f)=false:=beq_eq_false_iff_ne.mpr h;simp only [List.lookup,hb,if_neg h]
 |(k,x)::r=>by
  have ih:=Zr f g v r;rw[show ZP f v ((k,x)::r)=(if k=f then(k,v)::r else(k,x)::ZP f v r) from rfl]
  by_cases hk:k=f
  ·rw[if_pos hk]
   by_cases h:g=k
   ·have hb:(g==k)=true:=beq_iff_eq.mpr h;simp only [List.lookup,hb,if_pos (h.trans hk)]
   ·have hb:(g==k)=false:=beq_eq_false_iff_ne.mpr h;simp only [List.lookup,hb,if_neg (fun e:g=f=>h (e.trans hk.symm))]
  ·rw[if_neg hk]
   by_cases h:g=k
   ·have hb:(g==k)=true:=beq_iff_eq.mpr h;simp only [List.lookup,hb,if_neg (fun e:g=f=>hk (h.symm.trans e))]
   ·have hb:(g==k)=false:=beq_eq_false_iff_ne.mpr h;simp only [List.lookup,hb];exact ih
theorem Zgh(f:Str)(v:V):∀fs:List (Str×V),f∈(ZP f v fs).map (·.1)/\∀g,g∈fs.map (·.1)->g∈(ZP f v fs).map (·.1)
 |[]=>⟨by simp[ZP],fun g h=>by simp at h⟩
 |(k,x)::r=>by
  obtain⟨i1,i2⟩:=Zgh f v r;rw[show ZP f v ((k,x)::r)=(if k=f then(k,v)::r else(k,x)::ZP f v r) from rfl]
  by_cases hk:k=f
  ·rw[if_pos hk];subst hk;exact⟨by simp,fun g h=>by simpa using h⟩
  ·rw[if_neg hk];refine⟨?_,fun g h=> ?_⟩
   ·rw[List.map_cons];exact List.mem_cons_of_mem _ i1
   ·rw[List.map_cons] at h⊢
    rcases List.mem_cons.mp h with e|e
    ·exact List.mem_cons.mpr (.inl e)
    ·exact List.mem_cons_of_mem _ (i2 g e)
theorem ZgP(f:Str)(v:V):∀fs:List (Str×V),(ZP f v fs).length<=fs.length+1
 |[]=>by simp[ZP]
 |(k,x)::r=>by
  have ih:=ZgP f v r;rw[show ZP f v ((k,x)::r)=(if k=f then(k,v)::r else(k,x)::ZP f v r) from rfl]
  by_cases hk:k=f
  ·rw[if_pos hk,List.length_cons,List.length_cons];omega
  ·rw[if_neg hk,List.length_cons,List.length_cons];omega
theorem ZcX.some_of{v:V}{o:Option Value}(r:ZcX (some v) o):∃u,o=some u/\ZX v u:=by
 cases o with
 |none=>exact(show False from r).elim
 |some u=>exact⟨u,rfl,r⟩
theorem ZcX.none_of{o:Option Value}(r:ZcX none o):o=none:=by
 cases o with
 |none=>rfl
 |some u=>exact(show False from r).elim
theorem ZnV{v:V}{u:Value}(r:ZX v u):PySem.W.handedIn u=true:=by
 cases v with
 |non=>cases(show u=Value.none from r);rfl
 |bl b=>cases(show u=Value.bool b from r);rfl
 |int i=>obtain⟨t,e⟩:=(show∃t,u=Value.int i t from r);cases e;rfl
 |str x=>obtain⟨t,e⟩:=(show∃t,u=Value.str x t from r);cases e;rfl
 |byt b=>obtain⟨t,e⟩:=(show∃t,u=Value.bytes b t from r);cases e;rfl
 |flt b=>obtain⟨t,e⟩:=(show∃t,u=Value.float b t from r);cases e;rfl
 |ref a=>cases(show u=Value.ref a from r);rfl
 |ty n=>cases(show u=Value.type n from r);rfl
section
variable {P:Program} {w:World} {H H':Hp} {h h':Heap} {a C dx:Addr} {fs fs':List (Str×V)}
theorem ZjQ(hok:HOk P w H h)(e:H a=some (.ins C dx fs)):∃mA,Zmh h a dx C mA/\(∀f,ZcX (fs.lookup f) (mA f))/\PySem.Within mA (fs.map (·.1))/\fs.length<=1000/\H dx=some (.own a):=by
 obtain⟨d,z,ne,ob,mA,n,r,q⟩:=(show XH P w H h a (.ins C dx fs) from hok a _ e)
 exact⟨mA,⟨ob,n,ne⟩,r,q,z,d⟩
end
structure Cls (K:PySem.W.Frag) (C:Addr):Prop where
 pg:PySem.W.plainGet K C Str.empty=true
 hd:PySem.W.hasDictIn K C=true
 po:PySem.W.plainOver K C=true
 sa:PySem.W.findIn K (.ref C) "__setattr__"=some (some (.builtin "object.__setattr__"))
theorem Cls.get{K:PySem.W.Frag}{C:Addr}(c:Cls K C)(f:Str):PySem.W.plainGet K C f=true:=c.pg
def YG(K:PySem.W.Frag)(C:Addr)(f:Str):Prop:=PySem.W.findIn K (.ref C) f=some none
theorem YG.taker{K:PySem.W.Frag}{C:Addr}{f:Str}(n:YG K C f):PySem.W.takerIn K C f=some none:=by
 unfold PySem.W.takerIn;rw[show PySem.W.findIn K (.ref C) f=some none from n]
 rfl
structure Zsy (K:PySem.W.Frag) (C:Addr) (m:Str) (f:Addr):Prop where
 at_:PySem.W.findIn K (.ref C) m=some (some (.ref f))
 fn:PySem.W.isFn K (.ref f)=true
 kp:PySem.W.keepIn K (.ref f)=true
section
variable {X:Cx} {pins:List (Addr×Obj)} {σ:St} {H:Hp} {s:Shared} {a C dx:Addr} {fs:List (Str×V)} {f:Str} {v:V} {A:Around} {E:Value->Shared->Prop}
theorem Zmi{b:Bool}{Q:Value->Shared->Prop}(I:Inv X pins σ H s)(e:H a=some (.ins C dx fs))(c:Cls X.K C)(n:YG X.K C f)(l:fs.lookup f=some v)
  (h:∀u s',Inv X pins σ H s'->ZX v u->Q u s'):wpAny (model X.prog X.w) A (getAttr (.ref a) f b) Q E s:=by
 obtain⟨mA,O,r,_,_,_⟩:=ZjQ I.hok e;obtain⟨u,hu,ru⟩:=ZcX.some_of (v:=v) (o:=mA f) (by rw[<-l];exact r f)
 exact Zqo I.kIn O (c.get f) c.hd n hu (ZnV ru) (h u _ (I.tok _) ru)
theorem ZhA{m:Str}{g:Addr}{pl:Sem Bool}{Q:Value×List Value->Shared->Prop}(I:Inv X pins σ H s)(e:H a=some (.ins C dx fs))(c:Cls X.K C)(k:Zsy X.K C m g)(l:fs.lookup m=none)
  (h:Q (.ref g,[.ref a]) s):wpAny (model X.prog X.w) A (getMethod (.ref a) m pl) Q E s:=by
 obtain⟨mA,O,r,_,_,_⟩:=ZjQ I.hok e;have hn:mA m=none:=ZcX.none_of (by rw[<-l];exact r m)
 exact ZoU I.kIn O (c.get m) k.at_ k.fn hn h
theorem Zmj{y:V}{u:Value}{Q:Unit->Shared->Prop}(I:Inv X pins σ H s)(e:H a=some (.ins C dx fs))(c:Cls X.K C)(n:YG X.K C f)(hl:fs.length<1000)(ry:ZX y u)
  (h:∀s',Inv X pins σ (upd H a (.ins C dx (ZP f y fs))) s'->Q () s'):wpAny (model X.prog X.w) A (setAttr (.ref a) f u) Q E s:=by
 obtain⟨mA,O,r,wi,_,ho⟩:=ZjQ I.hok e;have hz:(fs.map (·.1)).length<=sizeLine:=by rw[List.length_map,sizeLine_eq];omega
 refine Zqp I.kIn O c.sa c.po n.taker c.hd wi hz fun h' O' sb=>h _ ?_;have hd:∃o,h'.get? dx=some o:=let ⟨o,_,_,e',_⟩:=O'.ns;⟨o,e'⟩;refine I.write (x:=a) (e:=dx) (by rw[e];exact True.intro) (.inr ho) (fun b q hb z=>(sb.2 b hb).trans z) hd ?_
 refine⟨by rw[Zm O.ne];exact ho, ?_,O.ne,O'.obj,_,O'.ns,fun g=> ?_,fun g hg=> ?_⟩
 ·have:=ZgP f y fs;omega
 ·show ZcX ((ZP f y fs).lookup g) (if g=f then some u else mA g);rw[Zr]
  by_cases q:g=f
  ·rw[if_pos q,if_pos q];exact ry
  ·rw[if_neg q,if_neg q];exact r g
 ·by_cases q:g=f
  ·rw[q];exact(Zgh f y fs).1
  ·refine(Zgh f y fs).2 g (wi g fun z=>hg ?_);show(if g=f then some u else mA g)=none;rw[if_neg q];exact z
theorem Inv.made(I:Inv X pins σ H s):Inv X pins σ (upd (upd H s.heap.objs.size (.own (s.heap.objs.size+1))) (s.heap.objs.size+1) (.ins C s.heap.objs.size []))
  {s with heap:=(s.heap.push PySem.W.emptyDict).push (PySem.W.instObj C s.heap.objs.size)}:=by
 have e1:(s.heap.push PySem.W.emptyDict).get? s.heap.objs.size=some PySem.W.emptyDict:=Heap.get?_push_size s.heap rfl;have e2:((s.heap.push PySem.W.emptyDict).push (PySem.W.instObj C s.heap.objs.size)).get? (s.heap.objs.size+1)=some (PySem.W.instObj C s.heap.objs.size):=by
  have:=Heap.get?_push_size (s.heap.push PySem.W.emptyDict) (o:=PySem.W.instObj C s.heap.objs.size) rfl
  rwa [Heap.size_push] at this
 have e3:(s.heap.push PySem.W.emptyDict).Ns s.heap.objs.size (fun _=>none):=⟨PySem.W.emptyDict, #[],_,e1,rfl,(fun e he=>absurd he (by simp)),fun _=>rfl⟩
 have I1:=I.laid (a:=s.heap.objs.size) (o:=.own (s.heap.objs.size+1)) (h':=s.heap.push PySem.W.emptyDict) (t':=s.toks) (fun b u q=>Heap.get?_push_of_some _ q) (Nat.le_refl _) ⟨_,e1⟩;refine I1.laid (a:=s.heap.objs.size+1) (o:=.ins C s.heap.objs.size []) (t':=s.toks) (fun b u q=>Heap.get?_push_of_some _ q) (Nat.le_of_eq (Heap.size_push _ _)) ?_;have ne:s.heap.objs.size≠s.heap.objs.size+1:=Nat.ne_of_lt (Nat.lt_succ_self _)
 refine⟨by rw[Zm ne,Zc],Nat.zero_le _,ne,e2,fun _=>none,(Heap.Ns1.of_empty e3).at fun o q=>Heap.get?_push_of_some _ q,fun _=>True.intro,fun y hy=>absurd rfl hy⟩
theorem Zqq{prog:Program}{w:World}{env:Env}{e:Expr}{f:Str}{pos:Pos}{s:Shared}{Q:Value->Shared->Prop}(hb:attributeBase e f env (eval e env)=eval e env)
  (h:wpAny (model prog w) A (eval e env) (fun o s₁=>wpAny (model prog w) A (getAttr o f true) Q E s₁) E s):wpAny (model prog w) A (eval (.Attribute e f pos) env) Q E s:=
 Attribute_any_ h (by rw[arm_eval_Attribute,hb])
end
def ZrE(K:PySem.W.Frag)(ta:TE)(f:Str):TE:=fun σ H Q=>ta σ H fun x H1=>∃a C dx fs v,x=.ref a/\H1 a=some (.ins C dx fs)/\Cls K C/\YG K C f/\fs.lookup f=some v/\Q v H1
def Ztt(K:PySem.W.Frag)(ta tv:TE)(f:Str):TS:=fun D σ H=>tv σ H fun y H1=>ta σ H1 fun x H2=>∃a C dx fs,x=.ref a/\H2 a=some (.ins C dx fs)/\Cls K C/\YG K C f/\fs.length<1000/\
 D.nx σ (upd H2 a (.ins C dx (ZP f y fs)))
section
variable {X:Cx} {o e value:Expr} {f:Str} {pos pos' tpos:Pos} {ta tv:TE}
theorem Yg(he:PE X e ta)(hb:attributeBase e f X.env (eval e X.env)=eval e X.env):PE X (.Attribute e f pos) (ZrE X.K ta f):=by
 intro pins s σ H Q I h;refine Zqq hb (thn (he pins s σ H _ I h) fun u s1 ⟨x,H1,I1,rx,a,C,dx,fs,v,ex,ea,c,n,l,q⟩=> ?_);subst ex;obtain rfl:u=Value.ref a:=rx;exact Zmi I1 ea c n l fun u' s2 I2 ru=>⟨v,H1,I2,ru,q⟩
theorem Zby(ha:PE X o ta)(hv:PE X value tv)(hs:swapsWith value (some (.Attribute o f pos')) pos.line X.env=pure false):PS X (.Assign [.Attribute o f pos'] value pos) (Ztt X.K ta tv f):=by
 intro pins s σ H D I h;refine plainObj_wpAny_Assign_Attribute (thn (hv pins s σ H _ I h) fun u s1 ⟨y,H1,I1,ry,q⟩=>thn (ha pins s1 σ H1 _ I1 q) fun ov s2 ⟨x,H2,I2,rx,a,C,dx,fs,ex,ea,c,n,l,q2⟩=> ?_) hs;subst ex;obtain rfl:ov=Value.ref a:=rx;exact Zmj I2 ea c n l ry fun s3 I3=>⟨σ,_,I3,q2⟩
end
section
variable {X:Cx} {pins:List (Addr×Obj)} {σ:St} {H:Hp} {s:Shared} {A:Around} {E:Value->Shared->Prop} {Q:Value->Shared->Prop} {c:Value} {b:Bool}
end
end L2
namespace L2
open PySem PySem.Spec PyProof.Rows
structure Ju (k:Nat) (A:Around):Prop where
 hd:A.handled=none
 dp:A.depth+3*k+5<recursionLimit
 un:A.units+16*k+200<cLine
theorem Ju.mono{j k:Nat}{A:Around}(r:Ju k A)(h:j<=k):Ju j A:=⟨r.hd,by have:=r.dp;omega,by have:=r.un;omega⟩
theorem Ju.deeper{k:Nat}{A:Around}(r:Ju (k+1) A)(env:Env):Ju k (A.deeper env):=
 ⟨r.hd,by have:=r.dp;show A.depth+1+3*k+5<_;omega,by have:=r.un;show A.units+3+16*k+200<_;omega⟩
theorem Ju.in1{k:Nat}{A:Around}(r:Ju (k+1) A):Ju k A.in1:=
 ⟨r.hd,by have:=r.dp;show A.depth+3*k+5<_;omega,by have:=r.un;show A.units+1+16*k+200<_;omega⟩
theorem Zmk{A:Around}{C:Addr}{us:List Value}{kw:List (Str×Value)}:(A.under (.builtin "type.__call__" ⟨.ref C::us,kw⟩)).depth=A.depth+1:=by
 first|rfl|simp[Around.under,Code.weight,Code.isCreation,Code.isGuard,Code.isCaller,Code.frames,Code.isFrame,guardIds]
theorem Zml{A:Around}{C:Addr}{us:List Value}{kw:List (Str×Value)}:(A.under (.builtin "type.__call__" ⟨.ref C::us,kw⟩)).units=A.units+1:=by
 first|rfl|simp[Around.under,Code.cUnits,Code.frames,Code.isFrame]
theorem Ju.make{k:Nat}{A:Around}(r:Ju (k+1) A)(C:Addr)(us:List Value)(kw:List (Str×Value)):Ju k (A.under (.builtin "type.__call__" ⟨.ref C::us,kw⟩)):=
 ⟨r.hd,by have:=r.dp;rw[Zmk];omega,by have:=r.un;rw[Zml];omega⟩
theorem Ju.depth{k:Nat}{A:Around}(r:Ju k A):A.depth<recursionLimit:=by have:=r.dp;omega
theorem Ju.units{k:Nat}{A:Around}(r:Ju k A):A.units+64<cLine:=by have:=r.un;omega
def ZoW:TA:=fun _ H Q=>Q [] H
def Zsz(ta:TE)(tr:TA):TA:=fun σ H Q=>ta σ H fun x H1=>tr σ H1 fun xs H2=>Q (x::xs) H2
section
variable {X:Cx} {e:Expr} {es:List Expr} {te:TE} {t:TA} {pos:Pos}
theorem Zj:PA X [] ZoW:=fun _ _ _ _ H Q I h=>Calls.spliced_nil ⟨[],H,I,.nil,h⟩
theorem Za(ha:PE X e te)(hr:PA X es t)(hs:starEach (e::es) X.env=(false,eval e X.env)::starEach es X.env:=by rfl):PA X (e::es) (Zsz te t):=by
 intro pos pins s σ H Q I h;rw[hs];show wpAny _ _ (spliced ((false,eval e X.env)::backTo pos (starEach es X.env))) _ _ s;refine Calls.spliced_cons (thn (ha pins s σ H _ I h) fun u s1 ⟨x,H1,I1,r1,q1⟩=> ?_);exact thn (hr pos pins s1 σ H1 _ I1 q1) fun us s2 ⟨xs,H2,I2,r2,q2⟩=>⟨x::xs,H2,I2,.cons r1 r2,q2⟩
def Ztu(t:TA):TE:=fun σ H Q=>t σ H fun xs H1=>xs.length<=sizeLine/\∀p,H1 p=none->Q (.ref p) (upd H1 p (.tup xs))
def Ztv(t:TA):TE:=fun σ H Q=>t σ H fun xs H1=>xs.length<=sizeLine/\∀p,H1 p=none->Q (.ref p) (upd H1 p (.lst xs))
theorem YK{x1}(h:PA X es t):PE X (.Tuple es x1 pos) (Ztu t):=by
 intro pins s σ H Q I hq;refine wpAny_Tuple_spliced (thn (h pos pins s σ H _ I hq) fun us s1 ⟨xs,H1,I1,r,z,q⟩=>⟨by rw[<-r.length];exact z, ?_⟩)
 have hf:H1 s1.heap.objs.size=none:=I1.hok.fresh (Nat.le_refl _);refine⟨.ref s1.heap.objs.size,upd H1 s1.heap.objs.size (.tup xs),I1.laid (t':=s1.toks) (fun b u e=>Heap.get?_push_of_some _ e) (Nat.le_refl _) ?_,rfl,q _ hf⟩;exact⟨z,us,r,⟨_,Heap.get?_push_size _ rfl,rfl,_,rfl⟩⟩
theorem Yk(h:PA X es t):PE X (.List es pos) (Ztv t):=by
 intro pins s σ H Q I hq;refine wpAny_List_spliced (thn (h pos pins s σ H _ I hq) fun us s1 ⟨xs,H1,I1,r,z,q⟩=>⟨by rw[<-r.length];exact z, ?_⟩)
 have hf:H1 s1.heap.objs.size=none:=I1.hok.fresh (Nat.le_refl _);refine⟨.ref s1.heap.objs.size,upd H1 s1.heap.objs.size (.lst xs),I1.laid (t':=s1.toks) (fun b u e=>Heap.get?_push_of_some _ e) (Nat.le_refl _) ?_,rfl,q _ hf⟩;exact⟨z,us,0,r,Heap.get?_push_size _ rfl⟩
end
abbrev Sp:=List V->Hp->VK->XK->Prop
abbrev CXT:=List Env->Hp->Shared->XK->Value->Shared->Prop
structure ZiN (P:Program) (w:World) (K:PySem.W.Frag) (mg:Str->Option Value) (base:Heap) (A:Around) (outer:List Env) (s:Shared) (H:Hp):Prop where
 frames:A.frames=some outer
 mod:Mod K mg base
 bs:∀b o,base.get? b=some o->s.heap.get? b=some o/\H b=none
 bsz:base.objs.size<=s.heap.objs.size
 funs:s.heap.FunFrames base outer
 frf:∀b∈frs outer,H b=none
 hok:HOk P w H s.heap
 bare:AllBare s.gens
def CE(outer:List Env)(P:Program)(w:World)(H:Hp)(s:Shared)(Q:VK)(u:Value)(s':Shared):Prop:=
 ∃v H',s'.os=s.os/\AllBare s'.gens/\Un (frs outer) [] H H' s.heap s'.heap/\HOk P w H' s'.heap/\ZX v u/\Q v H'
def CR(CX:CXT)(outer:List Env)(P:Program)(w:World)(H:Hp)(s:Shared)(Q:VK)(E:XK)(r:Result)(s':Shared):Prop:=
 match r with
 | .ok (.ret u)=>CE outer P w H s Q u s'
 | .ok _=>False
 | .error e=>CX outer H s E e s'
structure Yl (P:Program) (w:World) (K:PySem.W.Frag) (mg:Str->Option Value) (base:Heap) (CX:CXT) (k:Nat) (f:Addr) (fd:FuncData) (ps:List Str) (sp:Sp):Prop where
 len:∀vs H Q E,sp vs H Q E->vs.length=ps.length
 run:∀(A:Around) (outer:List Env) (s:Shared) (H:Hp) (args:Args) (us:List Value) (vs:List V) (Q:VK) (E:XK),Ju k A->ZiN P w K mg base A outer s H->BindsTo s fd args (ps.zip us)->Yc vs us->sp vs H Q E->
  codeAny (model P w) A (.call (.ref f) args) (CR CX outer P w H s Q E) s
theorem ZiN.make{P:Program}{w:World}{K:PySem.W.Frag}{mg:Str->Option Value}{base:Heap}{A:Around}{outer:List Env}{s:Shared}{H:Hp}(e:ZiN P w K mg base A outer s H)(C:Addr)(us:List Value)(kw:List (Str×Value)):
  ZiN P w K mg base (A.under (.builtin "type.__call__" ⟨.ref C::us,kw⟩)) outer s H:=⟨by first|exact e.frames|(simpa [Around.under,Code.envs,Code.isFrame,pushEnvs] using e.frames),e.mod,e.bs,e.bsz,e.funs,e.frf,e.hok,e.bare⟩
theorem ZiN.in1{P:Program}{w:World}{K:PySem.W.Frag}{mg:Str->Option Value}{base:Heap}{A:Around}{outer:List Env}{s:Shared}{H:Hp}(e:ZiN P w K mg base A outer s H):
  ZiN P w K mg base A.in1 outer s H:=⟨e.frames,e.mod,e.bs,e.bsz,e.funs,e.frf,e.hok,e.bare⟩
section
variable {X:Cx} {pins:List (Addr×Obj)} {σ:St} {H:Hp} {s s':Shared}
theorem Inv.env0(I:Inv X pins σ H s):ZiN X.prog X.w X.K X.mg X.base X.A X.stack s H:=
 ⟨I.ok.frames,I.ok.mod,I.bs,Nat.le_trans I.ok.bsz I.sz,I.stack,I.stkFree,I.hok,I.bare⟩
theorem Inv.after{Q:VK}{u:Value}(I:Inv X pins σ H s)(h:CE X.stack X.prog X.w H s Q u s'):EP X pins σ Q u s':=by
 obtain⟨v,H',os,bare,un,hok,r,q⟩:=h;obtain⟨hh,g,d,t,os'⟩:=s';obtain rfl:os'=s.os:=os;exact⟨v,H',I.call (h':=hh) (g':=g) (d':=d) (t':=t) (ch:=[]) un hok bare (fun b z=>absurd z (by simp)),r,q⟩
end
def Znk(sp:Sp)(dvs:List V)(E:XK)(t:TA):TE:=fun σ H Q=>t σ H fun vs H1=>sp (vs++dvs) H1 Q E
def Zrj(C:Addr)(sp:Sp)(dvs:List V)(E:XK)(t:TA):TE:=fun σ H Q=>t σ H fun vs H1=>∀x dx,H1 x=none->H1 dx=none->dx≠x->
 sp (.ref x::(vs++dvs)) (upd (upd H1 dx (.own x)) x (.ins C dx [])) (fun v H2=>v=.non/\Q (.ref x) H2) E
def ZbZ(K:PySem.W.Frag)(fd:FuncData)(ps:List Str)(ds:List Value):Prop:=
 ∀(s:Shared) (us:List Value),K.In s.heap->(us++ds).length=ps.length->BindsTo s fd ⟨us,[]⟩ (ps.zip (us++ds))
theorem ZbZ.all{K:PySem.W.Frag}{fd:FuncData}{ps:List Str}(h:∀us:List Value,us.length=ps.length->bindArgs fd ⟨us,[]⟩=pure (ps.zip us)):ZbZ K fd ps []:=fun s us _ hl=>by
 rw[List.append_nil] at hl⊢
 exact .of_eq (h us hl)
def Zbz(CX:CXT)(X:Cx)(E:XK):Prop:=∀(pins:List (Addr×Obj)) (σ:St) (H:Hp) (s:Shared) (e:Value) (s':Shared),Inv X pins σ H s->CX X.stack H s E e s'->X.xe e s'
section
variable {X:Cx} {CX:CXT} {k:Nat} {f C:Addr} {fd:FuncData} {ps:List Str} {sp:Sp} {dvs:List V} {ds:List Value} {E:XK} {x m:Str} {p pos apos:Pos} {e o:Expr} {es:List Expr} {ta:TE} {t:TA}
theorem ZjR{pins:List (Addr×Obj)}{σ:St}{H:Hp}{s:Shared}{Q:VK}{us:List Value}{vs:List V}(F:Yl X.prog X.w X.K X.mg X.base CX k f fd ps sp)(hr:Ju k X.A)(hb:ZbZ X.K fd ps ds)(hd:Yc dvs ds)(hx:Zbz CX X E)
  (I:Inv X pins σ H s)(r:Yc vs us)(h:sp (vs++dvs) H Q E):wpAny (model X.prog X.w) X.A (call (.ref f) us) (EP X pins σ Q) X.xe s:=by
 have r2:Yc (vs++dvs) (us++ds):=r.append hd;have hl:(us++ds).length=ps.length:=by rw[<-r2.length];exact F.len _ _ _ _ h
 refine wpAny_call (codeAny_mono (F.run X.A X.stack s H ⟨us,[]⟩ (us++ds) (vs++dvs) Q E hr I.env0 (hb s us I.kIn hl) r2 h) fun r s' hq=> ?_);cases r with
 |error e=>exact hx pins σ H s e s' I hq
 |ok fl=>
  cases fl with
  |ret u=>exact I.after hq
  |next=>exact False.elim hq
  |brk=>exact False.elim hq
  |cont=>exact False.elim hq
theorem Zqr(F:Yl X.prog X.w X.K X.mg X.base CX k f fd ps sp)(hr:Ju k X.A)(hg:Gl X x)(hm:X.mg x=some (.ref f))(hk:PySem.W.keepIn X.K (.ref f)=true)(hb:ZbZ X.K fd ps ds)(hd:Yc dvs ds)(hx:Zbz CX X E)
  (ha:PA X (e::es) t)(hdb:(x==("__debug__":Str))=false:=by decide)(he:starEach (e::es) X.env=(false,eval e X.env)::starEach es X.env:=by rfl)(hpl:(backTo pos (starEach es X.env)).any (·.1)=false:=by rfl):
  PE X (.Call (.Name x p) (e::es) [] pos) (Znk sp dvs E t):=by
 intro pins s σ H Q I h;refine wpAny_Call_Name_kw (ZfE I hg hm ?_ hdb);refine PySem.W.callWith_K (h₀:=X.base) I.ok.mod.kin hk (thn (ha pos pins s σ H _ I h) fun us s1 ⟨vs,H1,I1,r,q⟩=>⟨I1.kIn, ?_⟩) he hpl;exact ZjR F hr hb hd hx I1 r q
theorem ZoX(F:Yl X.prog X.w X.K X.mg X.base CX k f fd ps sp)(hr:Ju k X.A)(hg:Gl X x)(hm:X.mg x=some (.ref f))(hk:PySem.W.keepIn X.K (.ref f)=true)(hb:ZbZ X.K fd ps ds)(hd:Yc dvs ds)(hx:Zbz CX X E)
  (hdb:(x==("__debug__":Str))=false:=by decide):PE X (.Call (.Name x p) [] [] pos) (Znk sp dvs E ZoW):=by
 intro pins s σ H Q I h;refine wpAny_Call_Name_kw (ZfE I hg hm ?_ hdb);exact PySem.W.callWith_K0 I.kIn hk (ZjR (us:=[]) F hr hb hd hx I .nil h)
structure Mk (K:PySem.W.Frag) (C f:Addr):Prop where
 makes:PySem.W.makesIn K C=true
 init:PySem.W.findIn K (.ref C) "__init__"=some (some (.ref f))
 fn:PySem.W.isFn K (.ref f)=true
 kp:PySem.W.keepIn K (.ref C)=true
theorem ZoY{pins:List (Addr×Obj)}{σ:St}{H:Hp}{s:Shared}{Q:VK}{us:List Value}{vs:List V}(M:Mk X.K C f)(F:Yl X.prog X.w X.K X.mg X.base CX k f fd ps sp)(hr:Ju (k+1) X.A)(hb:ZbZ X.K fd ps ds)(hd:Yc dvs ds)
  (hx:Zbz CX X E)(I:Inv X pins σ H s)(r:Yc vs us)
  (h:∀x dx,H x=none->H dx=none->dx≠x->sp (.ref x::(vs++dvs)) (upd (upd H dx (.own x)) x (.ins C dx [])) (fun v H2=>v=.non/\Q (.ref x) H2) E):
  wpAny (model X.prog X.w) X.A (call (.ref C) us) (EP X pins σ Q) X.xe s:=by
 have hq:=h (s.heap.objs.size+1) s.heap.objs.size (I.hok.fresh (Nat.le_succ _)) (I.hok.fresh (Nat.le_refl _)) (Nat.ne_of_lt (Nat.lt_succ_self _));have I2:=Inv.made (C:=C) I;have r2:Yc (V.ref (s.heap.objs.size+1)::(vs++dvs)) (Value.ref (s.heap.objs.size+1)::(us++ds)):=.cons rfl (r.append hd);have hl:(Value.ref (s.heap.objs.size+1)::us++ds).length=ps.length:=by
  have e:=r2.length;rw[F.len _ _ _ _ hq] at e
  exact e.symm
 refine wpAny_call (ZoV (f:=f) I.kIn M.makes M.init (beq_iff_eq.mp M.fn) (codeAny_mono (F.run _ X.stack _ _ ⟨Value.ref (s.heap.objs.size+1)::us,[]⟩ (Value.ref (s.heap.objs.size+1)::(us++ds)) _ _ E (hr.make C us [])
  (I2.env0.make C us []) (hb _ (Value.ref (s.heap.objs.size+1)::us) I2.kIn hl) r2 hq) fun r s' hq'=> ?_))
 cases r with
 |error e=>exact hx pins σ _ _ e s' I2 hq'
 |ok fl=>
  cases fl with
  |ret u=>
   obtain⟨v,H',I3,rv,ev,q3⟩:=I2.after hq';subst ev;exact⟨rv,⟨V.ref (s.heap.objs.size+1),H',I3,rfl,q3⟩⟩
  |next=>exact False.elim hq'
  |brk=>exact False.elim hq'
  |cont=>exact False.elim hq'
theorem Zqs(M:Mk X.K C f)(F:Yl X.prog X.w X.K X.mg X.base CX k f fd ps sp)(hr:Ju (k+1) X.A)(hg:Gl X x)(hm:X.mg x=some (.ref C))(hb:ZbZ X.K fd ps ds)(hd:Yc dvs ds)(hx:Zbz CX X E)
  (ha:PA X (e::es) t)(hdb:(x==("__debug__":Str))=false:=by decide)(he:starEach (e::es) X.env=(false,eval e X.env)::starEach es X.env:=by rfl)(hpl:(backTo pos (starEach es X.env)).any (·.1)=false:=by rfl):
  PE X (.Call (.Name x p) (e::es) [] pos) (Zrj C sp dvs E t):=by
 intro pins s σ H Q I h;refine wpAny_Call_Name_kw (ZfE I hg hm ?_ hdb);refine PySem.W.callWith_K (h₀:=X.base) I.ok.mod.kin M.kp (thn (ha pos pins s σ H _ I h) fun us s1 ⟨vs,H1,I1,r,q⟩=>⟨I1.kIn, ?_⟩) he hpl;exact ZoY M F hr hb hd hx I1 r q
end
section
variable {X:Cx} {CX:CXT} {k:Nat} {f C:Addr} {fd:FuncData} {ps ks:List Str} {sp:Sp} {E:XK} {x m:Str} {p pos apos kpos:Pos} {e o:Expr} {es:List Expr} {kws:List Keyword} {te ta:TE} {t tk:TA} {nm:Option Str}
variable {g:List Value->List Value->List Value} {gV:List V->List V->List V}
end
structure ZC (N P:List Str) (sc:Scope):Prop where
 kind:sc.kind=.function
 co:sc.isCoroutine=false
 gen:sc.isGenerator=false
 nd:N.Nodup
 pre:N.take P.length=P
 par:∀x∈P,sc.names.lookup x=some .local\/sc.names.lookup x=some .cell
 nofree:∀y∈sc.names,y.2≠.free
theorem Zj8{kindOf:Str->Option NameKind}{x:Str}:∀{binds:List (Str×Value)} {m:Str->Option Value},(∀v,(x,v)∉binds)->bindL kindOf binds m x=m x
 |[],_,_=>rfl
 |(n,v)::r,m,h=>by
  unfold bindL;rw[Zj8 fun w hw=>h w (List.mem_cons_of_mem _ hw)]
  split
  ·have:x≠n:=by rintro rfl;exact h v List.mem_cons_self
   simp[this]
  ·rfl
theorem Zj9{kindOf:Str->Option NameKind}{x:Str}:∀{binds:List (Str×Value)} {m:Str->Option Value},(∀v,(x,v)∉binds)->bindC kindOf binds m x=m x
 |[],_,_=>rfl
 |(n,v)::r,m,h=>by
  unfold bindC;rw[Zj9 fun w hw=>h w (List.mem_cons_of_mem _ hw)]
  split
  ·rfl
  ·have:x≠n:=by rintro rfl;exact h v List.mem_cons_self
   simp[this]
theorem Zja{kindOf:Str->Option NameKind}{x:Str}{v:Value}:∀{P:List Str} {vs:List Value} {i:Nat} {m:Str->Option Value},P.Nodup->P[i]? =some x->vs[i]? =some v->kindOf x=some .local->
  bindL kindOf (P.zip vs) m x=some v
 |[],_,_,_,_,h,_,_=>by simp at h
 |_::_,[],_,_,_,_,h,_=>by simp at h
 |p::P,w::vs,0,m,nd,h1,h2,hk=>by
  simp at h1 h2;subst h1;subst h2
  show bindL kindOf ((p,w)::P.zip vs) m p=_;unfold bindL;rw[Zj8 fun v hv=>(List.nodup_cons.mp nd).1 (List.of_mem_zip hv).1,if_pos hk];simp
 |p::P,w::vs,i+1,m,nd,h1,h2,hk=>by
  show bindL kindOf ((p,w)::P.zip vs) m x=_;unfold bindL;exact Zja (i:=i) (List.nodup_cons.mp nd).2 (by simpa using h1) (by simpa using h2) hk
theorem Zjb{kindOf:Str->Option NameKind}{x:Str}{v:Value}:∀{P:List Str} {vs:List Value} {i:Nat} {m:Str->Option Value},P.Nodup->P[i]? =some x->vs[i]? =some v->kindOf x≠some .local->
  bindC kindOf (P.zip vs) m x=some v
 |[],_,_,_,_,h,_,_=>by simp at h
 |_::_,[],_,_,_,_,h,_=>by simp at h
 |p::P,w::vs,0,m,nd,h1,h2,hk=>by
  simp at h1 h2;subst h1;subst h2
  show bindC kindOf ((p,w)::P.zip vs) m p=_;unfold bindC;rw[Zj9 fun v hv=>(List.nodup_cons.mp nd).1 (List.of_mem_zip hv).1,if_neg hk];simp
 |p::P,w::vs,i+1,m,nd,h1,h2,hk=>by
  show bindC kindOf ((p,w)::P.zip vs) m x=_;unfold bindC;exact Zjb (i:=i) (List.nodup_cons.mp nd).2 (by simpa using h1) (by simpa using h2) hk
def ZeT(N:List Str)(vs:List V):St:=vs.map some++List.replicate (N.length-vs.length) none
def ZnW(CX:CXT)(P:Program)(w:World)(K:PySem.W.Frag)(mg:Str->Option Value)(base:Heap)(N:List Str)(qual:Str)(scope:Scope)(f:Addr)(cd:Value)(A:Around)(outer:List Env)(s:Shared)(H:Hp)(E:XK):Cx where
 prog:=P
 w:=w
 K:=K
 mg:=mg
 base:=base
 A:=A.deeper (envOfC qual scope s.heap.objs.size f cd)
 N:=N
 s₀:=s
 H₀:=H
 env:=envOfC qual scope s.heap.objs.size f cd
 outer:=outer
 stack:=envOfC qual scope s.heap.objs.size f cd::outer
 ex:=[]
 calm:=true
 fn:=fun _=>true
 pn:=[]
 xe:=fun e s'=>wpAny (model P w) (A.deeper (envOfC qual scope s.heap.objs.size f cd)) (leaving (envOfC qual scope s.heap.objs.size f cd) e) (fun _ s''=>CX outer H s E e s'') (fun e' s''=>CX outer H s E e' s'') s'
theorem Zl9{sc:Scope}{n:Nat}{x:Str}(h:sc.names.lookup x=some .cell):∃c,(cellsFrom n sc.names []).lookup x=some c:=by
 have q:=PySem.W.cellsFrom_some sc.names n [] (.inl h);exact Option.isSome_iff_exists.mp q
theorem ZnX{CX:CXT}{P:Program}{w:World}{K:PySem.W.Frag}{mg:Str->Option Value}{base:Heap}{N ps:List Str}{qual:Str}{scope:Scope}{f:Addr}{cd:Value}{A:Around}{outer:List Env}{s s1:Shared}{H:Hp}{E:XK}{us:List Value}{vs:List V}
  (S:ZC N ps scope)(hd:A.handled=none)(e0:ZiN P w K mg base A outer s H)(hl:vs.length=ps.length)(r:Yc vs us)
  (x:InCallC s s.heap.objs.size (bindL (envOfC qual scope s.heap.objs.size f cd).kindOf (ps.zip us) fun _=>none) (cellsFrom (s.heap.objs.size+1) scope.names []) (bindC (envOfC qual scope s.heap.objs.size f cd).kindOf (ps.zip us) fun _=>none) s1):
  Inv (ZnW CX P w K mg base N qual scope f cd A outer s H E) [] (ZeT N vs) H s1:=by
 have hpl:ps.length<=N.length:=by have:=congrArg List.length S.pre;rw[List.length_take] at this;omega
 obtain⟨h1,tk,rfl,hk⟩:=x.done;have noA:∀b:Addr,b∉(ZnW CX P w K mg base N qual scope f cd A outer s H E).ex:=fun b z=>absurd (show b∈([]:List Addr) from z) (by simp);refine⟨⟨e0.mod,S.kind,rfl,rfl,Nat.le_refl _,fun y z c h1 h2=> ?_,fun y hy=> ?_,fun y c _ h=> ?_,fun _=>hd,Around.frames_deeper e0.frames,.inr ⟨rfl,rfl⟩,fun b z=>absurd z (noA b),e0.bs,e0.bsz,fun b _ _=>noA b,fun b z=>absurd z (noA b),e0.funs,e0.frf⟩,
  rfl,e0.bare,Un.kept hk,⟨_,x.toInCall.ns,fun i y v h1 h2 h3=> ?_⟩,fun y c h=>⟨_,x.cell y c h⟩,e0.hok.fresh (Nat.le_refl _),fun y c h=> ?_,fun p hp=>absurd (show p∈([]:List (Addr×Obj)) from hp) (by simp),e0.hok.kept hk, ?_⟩
 ·exact name_of_addr x.apart (PySem.mem_of_lookup h1) (PySem.mem_of_lookup h2)
 ·have hy:scope.names.lookup y=some .cell\/scope.names.lookup y=some .free:=hy;rcases hy with hy|hy
  ·exact Zl9 hy
  ·exact absurd rfl (S.nofree _ (PySem.mem_of_lookup hy))
 ·exact Nat.le_of_lt (x.above y c (PySem.mem_of_lookup h))
 ·have hi:i<vs.length:=by
   unfold ZeT at h2
   by_cases hi:i<vs.length
   ·exact hi
   ·rw[List.getElem?_append_right (by simpa using hi)] at h2
    rw[List.getElem?_replicate] at h2
    split at h2<;>cases h2
  have ha:vs[i]? =some v:=by
   unfold ZeT at h2
   rw[List.getElem?_append_left (by simpa using hi),List.getElem?_map] at h2
   cases e:vs[i]? with
   |none=>rw[e] at h2;cases h2
   |some a=>rw[e] at h2;cases h2;rfl
  obtain⟨u,hu,rv⟩:=r.get ha;have hp:ps[i]? =some y:=by
   rw[<-S.pre,List.getElem?_take_of_lt (by omega)];exact h1
  have ndP:ps.Nodup:=by rw[<-S.pre];exact S.nd.sublist (List.take_sublist _ _)
  refine⟨u,rv, ?_⟩;rcases S.par y (List.mem_of_getElem? hp) with k|k
  ·exact .inl ⟨k,Zja ndP hp hu k⟩
  ·obtain⟨c,e⟩:=Zl9 (n:=s.heap.objs.size+1) k;refine .inr ⟨.inl k,c,e, ?_⟩;have q:=x.cell y c e;rw[Zjb ndP hp hu (by show scope.names.lookup y≠_;rw[k];decide)] at q
   exact q
 ·exact e0.hok.fresh (Nat.le_of_lt (x.above y c (PySem.mem_of_lookup h)))
 ·unfold ZeT;show _=N.length;rw[List.length_append,List.length_map,List.length_replicate];omega
theorem ZsA{CX:CXT}{P:Program}{w:World}{K:PySem.W.Frag}{mg:Str->Option Value}{base:Heap}{k:Nat}{f:Addr}{name qual:Str}{params:Arguments}{body:List Stmt}{scope:Scope}{dV kV doc pm cdv ct oc:Value}{an od:Option Addr}
  {osl:Array (Option Value)}{N ps:List Str}{sp:Sp}(lk:K.lookup f=some ⟨oc,od,.func (PySem.W.fnOf name qual params body scope dV kV doc pm an cdv ct),osl⟩)(hcd:PySem.W.codeIn K cdv qual=true)(S:ZC N ps scope)
  (len:∀vs H Q E,sp vs H Q E->vs.length=ps.length)
  (hbody:∀(A:Around) (outer:List Env) (s:Shared) (H:Hp) (vs:List V) (Q:VK) (E:XK),Ju k (A.deeper (envOfC qual scope s.heap.objs.size f cdv))->sp vs H Q E->
   ∃t,PSs (ZnW CX P w K mg base N qual scope f cdv A outer s H E) body t/\t {nx:=fun _ H'=>Q .non H',rt:=Q} (ZeT N vs) H):
  Yl P w K mg base CX (k+1) f (PySem.W.fnOf name qual params body scope dV kV doc pm an cdv ct) ps sp:=by
 refine⟨len,fun A outer s H args us vs Q E hr e0 hb r hsp=> ?_⟩;have hl:=len _ _ _ _ hsp;have KX:K.In s.heap:=e0.mod.kin.keeps fun b o e=>(e0.bs b o e).1;have lim:s.heap.NoLimit:=e0.mod.nolimit.keeps fun b o e=>(e0.bs b o e).1;have hkind:∀y∈ps.zip us,scope.names.lookup y.1=some .local\/(scope.names.lookup y.1=some .cell/\((cellsFrom (s.heap.objs.size+1) scope.names []).lookup y.1).isSome=true):=fun⟨n,v⟩ hy=>by
  rcases S.par n (List.of_mem_zip hy).1 with q|q
  ·exact .inl q
  ·exact .inr ⟨q,PySem.W.cellsFrom_some _ _ _ (.inl q)⟩
 refine codeAny_call_function hr.depth (KX _ _ lk) rfl S.co S.gen rfl (PySem.W.codeRec_of KX hcd) (hb _ _ _ _ ?_);refine wpAny_newFunctionEnv_cells S.kind hkind fun env he s1 x=> ?_;subst he;refine⟨lim.keeps x.toInCall.keep,codeAny_func ?_⟩;obtain⟨t,ht,hq⟩:=hbody A outer s H vs Q E (hr.deeper _) hsp;have I:Inv (ZnW CX P w K mg base N qual scope f cdv A outer s H E) [] (ZeT N vs) H s1:=ZnX S hr.hd e0 hl r x
 refine wpAny_mono (ht [] s1 (ZeT N vs) H _ I hq) (fun fl s' hs=> ?_) fun e s' hs=>hs;have fin:∀{σ':St} {H':Hp} {v:V} {u:Value},Inv (ZnW CX P w K mg base N qual scope f cdv A outer s H E) [] σ' H' s'->ZX v u->Q v H'->CE outer P w H s Q u s':=
  fun{σ' H' v u} J rv q=>⟨v,H',J.os,J.bare,J.base,J.hok,rv,q⟩
 cases fl with
 |ret u=>
  obtain⟨v,σ',H',J,rv,q⟩:=hs;exact fin J rv q
 |next=>
  obtain⟨σ',H',J,q⟩:=hs;exact fin (v:=V.non) (u:=Value.none) J rfl q
 |brk=>
  obtain⟨_,_,_,q⟩:=hs;exact False.elim q
 |cont=>
  obtain⟨_,_,_,q⟩:=hs;exact False.elim q
end L2
namespace L2
open PySem PySem.Spec PyProof.Rows
section
variable {X:Cx} {x:Str} {p pos:Pos} {e:Expr} {es:List Expr} {t:TA} {id T:String} {r:List V->Hp->VK->Prop}
def tCB(r:List V->Hp->VK->Prop)(t:TA):TE:=fun σ H Q=>t σ H fun vs H1=>r vs H1 Q
theorem ZS(hc:Zbf X (.builtin id) r)(hg:Gl X x)(hm:X.mg x=none)(hv:bootBuiltins x=some (.builtin id))(ha:PA X (e::es) t)(hn:x≠"__name__":=by decide)(hdb:(x==("__debug__":Str))=false:=by decide)
  (he:starEach (e::es) X.env=(false,eval e X.env)::starEach es X.env:=by rfl)(hpl:(backTo pos (starEach es X.env)).any (·.1)=false:=by rfl):PE X (.Call (.Name x p) (e::es) [] pos) (tCB r t):=by
 intro pins s σ H Q I h;refine wpAny_Call_Name_kw (Zge I hg hm hv ?_ hn hdb);exact PyProof.Rows.callWith_builtin1 (thn (ha pos pins s σ H _ I h) fun us s1 ⟨vs,H1,I1,r1,q1⟩=>hc pins s1 σ H1 vs us Q I1 r1 q1) he hpl
theorem Zbq(hc:Zbf X (.type T) r)(hg:Gl X x)(hm:X.mg x=none)(hv:bootBuiltins x=some (.type T))(ha:PA X (e::es) t)(hn:x≠"__name__":=by decide)(hdb:(x==("__debug__":Str))=false:=by decide)
  (he:starEach (e::es) X.env=(false,eval e X.env)::starEach es X.env:=by rfl)(hpl:(backTo pos (starEach es X.env)).any (·.1)=false:=by rfl):PE X (.Call (.Name x p) (e::es) [] pos) (tCB r t):=by
 intro pins s σ H Q I h;refine wpAny_Call_Name_kw (Zge I hg hm hv ?_ hn hdb);exact PyProof.Rows.callWith_type1 (thn (ha pos pins s σ H _ I h) fun us s1 ⟨vs,H1,I1,r1,q1⟩=>hc pins s1 σ H1 vs us Q I1 r1 q1) he hpl
end
end L2
namespace HT
open PySem PyProof.Rows
section
open PySem.SeqAt
open PySem.AutoSeq1 (wpAny_loadPart')
open PySem.MeetsSeq PySem.MeetsSeq2 PySem.MeetsSeq3
end
section
variable {prog:Program} {w:World} {A:Around} {E:Value->Shared->Prop} {s:Shared}
def sIx(n d:Nat):Option Int->Nat
 |none=>d
 |some v=>if v<0 then(v+(n:Int)).toNat else min v.toNat n
theorem Zla(n d:Nat):sIx n d none=d:=rfl
theorem Zez(n d k:Nat):sIx n d (some (k:Int))=min k n:=by
 show(if(k:Int)<0 then((k:Int)+(n:Int)).toNat else min (k:Int).toNat n)=min k n;rw[if_neg (by omega),Int.toNat_natCast]
theorem ZrF(n d:Nat)(hd:d<=n)(o:Option Int):sIx n d o<=n:=by
 cases o with
 |none=>exact hd
 |some v=>
  show(if v<0 then(v+(n:Int)).toNat else min v.toNat n)<=n
  by_cases hv:v<0
  ·rw[if_pos hv];omega
  ·rw[if_neg hv];exact Nat.min_le_right _ _
theorem Znl(v:Int)(n d:Nat):(if v<0 then max (v+(n:Int)) 0 else min v (n:Int))=((sIx n d (some v):Nat):Int):=by
 show(if v<0 then max (v+(n:Int)) 0 else min v (n:Int))=(((if v<0 then(v+(n:Int)).toNat else min v.toNat n):Nat):Int)
 by_cases hv:v<0
 ·simp only [if_pos hv];omega
 ·simp only [if_neg hv];omega
theorem Zmm(lo hi:Option Int)(n:Nat):Builtin.Slice.sliceAdjust lo hi 1 (n:Int)=(((sIx n 0 lo:Nat):Int),((sIx n n hi:Nat):Int)):=by
 have h1:¬((1:Int)<0):=by omega
 unfold Builtin.Slice.sliceAdjust;simp only [h1,if_false];refine Prod.ext ?_ ?_
 ·cases lo with
  |none=>rfl
  |some v=>exact Znl v n 0
 ·cases hi with
  |none=>rfl
  |some v=>exact Znl v n n
theorem Zmn(i j:Nat):Builtin.Slice.slicePlaces (i:Int) (j:Int) 1=j-i:=by
 unfold Builtin.Slice.slicePlaces;have h1:(1:Int)>0:=by omega
 simp only [h1,if_true,Int.ediv_one]
 split<;>omega
theorem ZhB{v:Value}{o:Option Int}{Q:Option Int->Shared->Prop}(p:IsPart v o)(h:Q o s):wpAny (model prog w) A (Builtin.Slice.slicePartIndex v) Q E s:=by
 cases p with
 |none=>exact slicePart_none h
 |int i t=>exact slicePart_int h
theorem Zgi{sl:Addr}{vl vu:Value}{lo hi:Option Int}{n:Nat}{Q:Int×Int×Nat->Shared->Prop}(hs:s.heap.IsSliceOf sl vl vu .none)(pl:IsPart vl lo)(pu:IsPart vu hi)
  (h:Q (((sIx n 0 lo:Nat):Int),1,sIx n n hi-sIx n 0 lo) s):wpAny (model prog w) A (Builtin.Slice.sliceApplied (.ref sl) (pure (n:Int))) Q E s:=by
 obtain⟨os,hos,hcs,hds⟩:=id hs;unfold Builtin.Slice.sliceApplied Builtin.Slice.sliceFields;refine wpAny_bind (wpAny_bind (wpAny_field hos hds (x:=vl) rfl (wpAny_bind (wpAny_field hos hds (x:=vu) rfl (wpAny_bind (wpAny_field hos hds (x:=.none) rfl (wpAny_pure ?_)))))));refine wpAny_bind (slicePart_none ?_);show wpAny _ _ (if((1:Int)==0)=true then _ else _) _ _ s;rw[if_neg (by decide)];refine wpAny_bind (ZhB pl (wpAny_bind (ZhB pu (wpAny_bind (wpAny_pure ?_)))))
 show wpAny _ _ (match Builtin.Slice.sliceAdjust lo hi 1 (n:Int) with|(lo,hi)=>pure (lo,(1:Int),Builtin.Slice.slicePlaces lo hi 1)) _ _ s;rw[Zmm lo hi n];show wpAny _ _ (pure (((sIx n 0 lo:Nat):Int),(1:Int),Builtin.Slice.slicePlaces ((sIx n 0 lo:Nat):Int) ((sIx n n hi:Nat):Int) 1)) _ _ s;rw[Zmn];exact wpAny_pure h
theorem ZoZ(xs:Array Value)(i k:Nat):((List.range k).filterMap fun(m:Nat)=>xs[((i:Int)+(m:Int)*1).toNat]?).toArray=((xs.toList.drop i).take k).toArray:=by
 have e:(fun(m:Nat)=>xs[((i:Int)+(m:Int)*1).toNat]?)=fun m=>xs[i+m]? :=by
  funext m
  have:((i:Int)+(m:Int)*1).toNat=i+m:=by omega
  rw[this]
 rw[e];have:=pick_run xs i k;rw[List.filterMap_map] at this
 have e2:((fun x=>xs[x]?)∘fun x=>i+x)=fun m=>xs[i+m]? :=rfl;rw[e2] at this
 rw[this]
theorem ZfI{t sl:Addr}{items:Array Value}{vl vu:Value}{lo hi:Option Int}{Q:Value->Shared->Prop}(ht:IsTup s.heap t items)(hs:s.heap.IsSliceOf sl vl vu .none)(pl:IsPart vl lo)(pu:IsPart vu hi)
  (hw:¬(sIx items.size 0 lo=0/\sIx items.size items.size hi=items.size))
  (h:Q (.ref s.heap.objs.size) {s with heap:=s.heap.push {cls:=.type "tuple",data:=.seq ((items.toList.drop (sIx items.size 0 lo)).take (sIx items.size items.size hi-sIx items.size 0 lo)).toArray}})
  (hsz:items.size<=sizeLine):wpAny (model prog w) A (getItem (.ref t) (.ref sl)) Q E s:=by
 have htake:sizeOk (.seq ((items.toList.drop (sIx items.size 0 lo)).take (sIx items.size items.size hi-sIx items.size 0 lo)).toArray):=by
  show((items.toList.drop (sIx items.size 0 lo)).take (sIx items.size items.size hi-sIx items.size 0 lo)).toArray.size<=sizeLine;rw[List.size_toArray,List.length_take,List.length_drop,Array.length_toList];omega
 have hj:sIx items.size items.size hi<=items.size:=ZrF _ _ (Nat.le_refl _) hi;obtain⟨os,hos,hcs,hds⟩:=id hs;have hTs:s.TypeIs (.ref sl) "slice":=⟨os,hos,hcs⟩
 unfold getItem
 try with_reducible refine wpAny_holding ?_
 first|refine wpAny_bind (wpAny_pure ?_)|skip
 refine wpAny_bind (wpAny_sequenceKey ht.typeIs (by decide) ?_);refine wpAny_bind (wpAny_callSpecial?_slot (name:=Str.ofString "__getitem__") ht.typeIs PyProof.Rows.slot_tuple_getitem
  (wpAny_call_entry PyProof.Rows.slot_tuple_getitem ht.typeIs entry_tuple_getitem ?_ (args_tuple_getitem _ _)))
 show wpAny _ _ (Builtin.Tuple.tupleItemsOf (.ref t)>>=_) _ _ s;refine wpAny_bind (tupleItemsOf_ ht ?_);refine wpAny_bind (wpAny_typeOf hTs ?_);rw[if_pos (by decide)];refine wpAny_bind (Zgi hs pl pu ?_);have hno:¬((((sIx items.size 0 lo:Nat):Int)==0&&(1:Int)==1&&(sIx items.size items.size hi-sIx items.size 0 lo)==items.size)=true):=by
  intro q;rw[Bool.and_eq_true,Bool.and_eq_true] at q
  have q1:((sIx items.size 0 lo:Nat):Int)=0:=eq_of_beq q.1.1;have q2:sIx items.size items.size hi-sIx items.size 0 lo=items.size:=eq_of_beq q.2;exact hw ⟨by omega,by omega⟩
 show wpAny _ _ (if(((sIx items.size 0 lo:Nat):Int)==0&&(1:Int)==1&&(sIx items.size items.size hi-sIx items.size 0 lo)==items.size)=true then _ else _) _ _ s;rw[if_neg hno,ZoZ]
 first
  |exact wpAny_bind (m:=Builtin.Tuple.tupleExact _) (wpAny_newObj_type (wpAny_pure ⟨_,rfl,wpAny_pure h⟩) htake)
  |exact wpAny_bind (m:=Builtin.Tuple.tupleExact _) (wpAny_newObj_type (wpAny_bind (wpAny_pure (wpAny_pure ⟨_,rfl,wpAny_pure h⟩))) htake)
  |exact wpAny_bind (wpAny_bind (m:=Builtin.Tuple.tupleExact _) (wpAny_newObj_type (wpAny_pure (wpAny_pure ⟨_,rfl,wpAny_pure h⟩)) htake))
  |exact wpAny_bind (wpAny_bind (m:=Builtin.Tuple.tupleExact _) (wpAny_newObj_type (wpAny_pure ⟨_,rfl,wpAny_pure h⟩) htake))
end
end HT
namespace L2
open PySem PySem.Spec PyProof.Rows
abbrev TO:=St->Hp->(Option Int->Hp->Prop)->Prop
def PO(X:Cx)(e:Option Expr)(t:TO):Prop:=
 ∀(pins:List (Addr×Obj)) (s:Shared) (σ:St) (H:Hp) (Q:Option Int->Hp->Prop),Inv X pins σ H s->t σ H Q->
  wpAny (model X.prog X.w) X.A (evalPart e X.env) (fun u s'=>∃o H',Inv X pins σ H' s'/\IsPart u o/\Q o H') X.xe s
def Zqt:TO:=fun _ H Q=>Q none H
def ZsB(t:TE):TO:=fun σ H Q=>t σ H fun x H1=>∃i,x=.int i/\Q (some i) H1
section
variable {X:Cx} {e:Expr} {te:TE} {lo hi:Option Expr} {tl th:TO} {pos p2:Pos}
theorem Zhg:PO X none Zqt:=by
 intro pins s σ H Q I h;rw[evalPart_none];exact wpAny_pure ⟨none,H,I,.none,h⟩
theorem Zc0(h:PE X e te):PO X (some e) (ZsB te):=by
 intro pins s σ H Q I hw;rw[evalPart_some];refine thn (h pins s σ H _ I hw) fun u s1 ⟨x,H1,I1,r1,q1⟩=> ?_;obtain⟨i,rfl,q⟩:=q1;obtain⟨t,rfl⟩:=r1;exact⟨some i,H1,I1,.int i t,q⟩
def SlR(X:Cx)(r:V->Option Int->Option Int->Hp->VK->Prop):Prop:=
 ∀(pins:List (Addr×Obj)) (s:Shared) (σ:St) (H:Hp) (x:V) (v vl vu:Value) (lo hi:Option Int) (sl:Addr) (Q:VK),Inv X pins σ H s->ZX x v->s.heap.IsSliceOf sl vl vu .none->IsPart vl lo->IsPart vu hi->r x lo hi H Q->
  ∃T id,typeLookup (.type T) "__getitem__"=pure (some (.builtin id))/\s.TypeIs v T/\wpAny (model X.prog X.w) X.A (getItem v (.ref sl)) (EP X pins σ Q) X.xe s
def tSl(r:V->Option Int->Option Int->Hp->VK->Prop)(te:TE)(tl th:TO):TE:=fun σ H Q=>te σ H fun x H1=>tl σ H1 fun l H2=>th σ H2 fun u H3=>r x l u H3 Q
theorem ZcC{r:V->Option Int->Option Int->Hp->VK->Prop}(hr:SlR X r)(he:PE X e te)(hl:PO X lo tl)(hu:PO X hi th):PE X (.Subscript e (.Slice lo hi none p2) pos) (tSl r te tl th):=by
 intro pins s σ H Q I h;refine Subscript_ (thn (he pins s σ H _ I h) fun v s1 ⟨x,H1,I1,r1,q1⟩=> ?_);refine wpAny_Slice (thn (hl pins s1 σ H1 _ I1 q1) fun vl s2 ⟨l,H2,I2,pl,q2⟩=>thn (hu pins s2 σ H2 _ I2 q2) fun vu s3 ⟨u,H3,I3,pu,q3⟩=> ?_);rw[evalPart_none];refine wpAny_pure ?_;have I4:Inv X pins σ H3 {s3 with heap:=s3.heap.push {cls:=.type "slice",data:=.fields #[vl,vu,.none]}}:=I3.kept (t':=s3.toks) fun b ob q=>Heap.get?_push_of_some _ q
 obtain⟨T,id,hT,ht,hg⟩:=hr pins {s3 with heap:=s3.heap.push {cls:=.type "slice",data:=.fields #[vl,vu,.none]}} σ H3 x v vl vu l u s3.heap.objs.size Q I4 r1 (Heap.IsSliceOf.new ..) pl pu q3;show wpAny (model X.prog X.w) X.A (subscriptTail e (.Slice lo hi none p2) v (.ref s3.heap.objs.size)) (EP X pins σ Q) X.xe {s3 with heap:=s3.heap.push {cls:=.type "slice",data:=.fields #[vl,vu,.none]}};exact tail_any (ops:=[.ref s3.heap.objs.size,v]) ht hT hg (by with_unfolding_all rfl)
def Jr(xs:List V)(lo hi:Option Int):List V:=(xs.drop (HT.sIx xs.length 0 lo)).take (HT.sIx xs.length xs.length hi-HT.sIx xs.length 0 lo)
theorem ZgQ(xs:List V)(lo hi:Option Int):(Jr xs lo hi).length<=xs.length:=by
 unfold Jr;rw[List.length_take,List.length_drop];omega
def ZsC(K:PySem.W.Frag):V->Option Int->Option Int->Hp->VK->Prop:=fun x lo hi H Q=>∃a xs,x=.ref a/\SqT K H a xs/\
 ¬(HT.sIx xs.length 0 lo=0/\HT.sIx xs.length xs.length hi=xs.length)/\∀p,H p=none->Q (.ref p) (upd H p (.tup (Jr xs lo hi)))
theorem Zp0:SlR X (ZsC X.K):=by
 intro pins s σ H x v vl vu lo hi sl Q I rx hs pl pu h;obtain⟨a,xs,rfl,hx,hw,q⟩:=h;cases rx;obtain⟨its,r,ht,hz⟩:=I.tuple hx;have hlen:its.toArray.size=xs.length:=by rw[List.size_toArray];exact r.length.symm
 refine⟨"tuple",_,PyProof.Rows.slot_tuple_getitem.lookup,ht.typeIs, ?_⟩;refine HT.ZfI ht hs pl pu (by rw[hlen];exact hw) ?_ (by rw[hlen];exact hz)
 rw[hlen];refine⟨.ref s.heap.objs.size,_,I.laid (t':=s.toks) (o:=.tup (Jr xs lo hi)) (fun b ob q=>Heap.get?_push_of_some _ q) (Nat.le_refl _) ?_,rfl,q _ (I.hok.fresh (Nat.le_refl _))⟩;exact⟨Nat.le_trans (ZgQ xs lo hi) hz,_,(r.drop (HT.sIx xs.length 0 lo)).take (HT.sIx xs.length xs.length hi-HT.sIx xs.length 0 lo),IsTup.new _ _⟩
end
end L2
namespace L2
open PySem PySem.Spec PyProof.Rows
def ixN(n:Nat)(i:Int):Option Nat:=if 0<=i then(if i<n then some i.toNat else none) else if-(n:Int)<=i then some (i+n).toNat else none
def atI{α:Type}(xs:List α)(i:Int):Option α:=(ixN xs.length i).bind fun j=>xs[j]?
theorem Zqu{n:Nat}{i:Int}{j:Nat}(h:ixN n i=some j):seqIndex? i n=some j/\j<n/\-(n:Int)<=i/\i<n:=by
 unfold ixN at h
 by_cases h0:0<=i
 ·rw[if_pos h0] at h
  by_cases h1:i<n
  ·rw[if_pos h1] at h
   have e:i.toNat=j:=Option.some.inj h;exact⟨by rw[seqIndex_of h0 h1,e],by omega,by omega,h1⟩
  ·rw[if_neg h1] at h;cases h
 ·rw[if_neg h0] at h
  by_cases h1: -(n:Int)<=i
  ·rw[if_pos h1] at h
   have e:(i+n).toNat=j:=Option.some.inj h;exact⟨by rw[seqIndex_neg (by omega) h1,e],by omega,h1,by omega⟩
  ·rw[if_neg h1] at h;cases h
theorem ZeA{α:Type}{xs:List α}{i:Int}{v:α}(h:atI xs i=some v):∃j,seqIndex? i xs.length=some j/\xs[j]? =some v/\j<xs.length/\-(xs.length:Int)<=i/\i<xs.length:=by
 unfold atI at h
 cases e:ixN xs.length i with
 |none=>rw[e] at h;cases h
 |some j=>
  rw[e] at h
  obtain⟨h1,h2,h3,h4⟩:=Zqu e;exact⟨j,h1,h,h2,h3,h4⟩
theorem Zp1{α:Type}(xs:List α)(v:α):atI (xs++[v]) (-1)=some v:=by
 have hl:(xs++[v]).length=xs.length+1:=by simp
 have e:ixN (xs++[v]).length (-1)=some xs.length:=by
  unfold ixN;rw[hl,if_neg (by decide),if_pos (by omega)]
  congr 1
  omega
 unfold atI;rw[e];show(xs++[v])[xs.length]? =some v;simp
def Zqv(b:Expr):Prop:=∀o i,subscripted b false o i=operate [o,i] (getItem o i)
def IxR(X:Cx)(r:R2):Prop:=
 ∀(value slice:Expr) (pins:List (Addr×Obj)) (s:Shared) (σ:St) (H:Hp) (x y:V) (v u:Value) (Q:VK),Inv X pins σ H s->ZX x v->ZX y u->r x y H Q->
  subscripted slice false v u=operate [v,u] (getItem v u)->wpAny (model X.prog X.w) X.A (subscriptTail value slice v u) (EP X pins σ Q) X.xe s
def MtR(X:Cx)(id:String)(r:V->List V->Hp->VK->Prop):Prop:=
 ∀(pins:List (Addr×Obj)) (s:Shared) (σ:St) (H:Hp) (x:V) (xs:List V) (v:Value) (us:List Value) (Q:VK),Inv X pins σ H s->ZX x v->Yc xs us->r x xs H Q->
  wpAny (model X.prog X.w) X.A (call (.builtin id) (v::us)) (EP X pins σ Q) X.xe s
section
variable {X:Cx} {a b:Expr} {ta tb:TE} {pos:Pos}
theorem Zx{r:R2}(hr:IxR X r)(ha:PE X a ta)(hb:PE X b tb)(hs:Zqv b):PE X (.Subscript a b pos) (tOp r ta tb):=by
 intro pins s σ H Q I h;exact Subscript_ (ZrC ha hb I h fun v u s2 x y H2 I2 rx ry q=>hr a b pins s2 σ H2 x y v u Q I2 rx ry q (hs _ _))
def ZsD(K:PySem.W.Frag):R2:=fun x y H Q=>∃p xs i v,x=.ref p/\y=.int i/\SqL K H p xs/\atI xs i=some v/\Q v H
def ZrG(K:PySem.W.Frag):R2:=fun x y H Q=>∃p xs i v,x=.ref p/\y=.int i/\SqT K H p xs/\atI xs i=some v/\Q v H
def Ztw:R2:=fun x y H Q=>∃z i c,x=.str z/\y=.int i/\z.length<=sizeLine/\atI z.cps.toList i=some c/\Q (.str ⟨#[c]⟩) H
theorem YZ:IxR X (ZsD X.K):=by
 intro value slice pins s σ H x y v u Q I rx ry h hs;obtain⟨p,xs,i,z,rfl,rfl,hq,he,q⟩:=h;cases rx;obtain⟨t,rfl⟩:=ry;obtain⟨its,r,pl,hz⟩:=I.list hq;obtain⟨j,h1,h2,h3,h4,h5⟩:=ZeA he;obtain⟨w,ew,rw'⟩:=r.get h2;have hl:=r.length;have hn:=ZjP;have fin:EP X pins σ Q w s:=⟨z,H,I,rw',q⟩
 by_cases h0:0<=i
 ·have hj:i.toNat=j:=by
   rw[seqIndex_of h0 h5] at h1
   exact Option.some.inj h1
  exact item_listR pl.isList h0 (by omega) (by rw[hj];simpa using ew) fin hs
 ·have hj:(i+(its.toArray.size:Int)).toNat=j:=by
   rw[seqIndex_neg (by omega) h4] at h1
   rw[List.size_toArray,<-hl];exact Option.some.inj h1
  exact subscriptTail_builtinR (x:=w) pl.isList.typeIs slot_list_getitem.lookup
   (wpAny_getItem_list_neg (Q:=fun r s'=>r=w/\EP X pins σ Q r s') pl.isList (by omega) (by rw[List.size_toArray]<;>omega) (by omega) (by rw[hj];simpa using ew) ⟨rfl,fin⟩) hs
theorem ZG:IxR X (ZrG X.K):=by
 intro value slice pins s σ H x y v u Q I rx ry h hs;obtain⟨p,xs,i,z,rfl,rfl,hq,he,q⟩:=h;cases rx;obtain⟨t,rfl⟩:=ry;obtain⟨its,r,pl,hz⟩:=I.tuple hq;obtain⟨j,h1,h2,h3,h4,h5⟩:=ZeA he;obtain⟨w,ew,rw'⟩:=r.get h2;have hl:=r.length;have hn:=ZjP;have fin:EP X pins σ Q w s:=⟨z,H,I,rw',q⟩
 exact subscriptTail_builtinR (x:=w) pl.typeIs slot_tuple_getitem.lookup
  (getItem_tuple (j:=j) (Q:=fun r s'=>r=w/\EP X pins σ Q r s') pl (by omega) (by omega) (by rw[List.size_toArray,<-hl];exact h1) (by simpa using ew) ⟨rfl,fin⟩) hs
theorem ZjS:IxR X Ztw:=by
 intro value slice pins s σ H x y v u Q I rx ry h hs;obtain⟨z,i,c,rfl,rfl,hz,he,q⟩:=h;obtain⟨t,rfl⟩:=rx;obtain⟨t',rfl⟩:=ry;obtain⟨j,h1,h2,h3,h4,h5⟩:=ZeA he;have hl:z.cps.toList.length=z.length:=by simp[Str.length]
 rw[hl] at h1 h4 h5
 have hn:=ZjP;exact tail_any (typeIs_str s z t) slot_str_getitem.lookup (getItem_str (c:=c) (by
  have e1:decide (i< -(2^63:Int))=false:=decide_eq_false (by omega);have e2:decide (i≥2^63)=false:=decide_eq_false (by omega);rw[e1,e2,Bool.or_false]) (by rw[h1];simpa using h2) ⟨.str ⟨#[c]⟩,H,I.tok _,⟨_,rfl⟩,q⟩) hs
theorem ZjT(lo hi:Option Int)(n:Nat):(sliceBounds lo hi none n).1=((HT.sIx n 0 lo:Nat):Int)/\(sliceBounds lo hi none n).2.1=((HT.sIx n n hi:Nat):Int)/\(sliceBounds lo hi none n).2.2=1:=by
 refine⟨?_, ?_,rfl⟩
 ·cases lo with
  |none=>simp[sliceBounds,HT.sIx]
  |some i=>
   simp only [sliceBounds,HT.sIx,Option.getD_none,show(1:Int)>0 by decide,if_true]
   by_cases h:i<0
   ·simp only [h,if_true]<;>omega
   ·simp only [h,if_false]<;>omega
 ·cases hi with
  |none=>simp[sliceBounds,HT.sIx]
  |some i=>
   simp only [sliceBounds,HT.sIx,Option.getD_none,show(1:Int)>0 by decide,if_true]
   by_cases h:i<0
   ·simp only [h,if_true]<;>omega
   ·simp only [h,if_false]<;>omega
theorem ZiO(its:List Value)(lo hi:Option Int):slicePick its.toArray lo hi none=((its.drop (HT.sIx its.length 0 lo)).take (HT.sIx its.length its.length hi-HT.sIx its.length 0 lo)).toArray:=by
 obtain⟨h1,h2,h3⟩:=ZjT lo hi its.toArray.size;unfold slicePick;rw[h1,h2,h3];simp only [sliceRange_one,pick_run,List.size_toArray]<;>rfl
def Ztx(K:PySem.W.Frag):V->Option Int->Option Int->Hp->VK->Prop:=fun x lo hi H Q=>∃a xs,x=.ref a/\SqL K H a xs/\∀p,H p=none->Q (.ref p) (upd H p (.lst (Jr xs lo hi)))
theorem Zhh:SlR X (Ztx X.K):=by
 intro pins s σ H x v vl vu lo hi sl Q I rx hs pl pu h;obtain⟨a,xs,rfl,hx,q⟩:=h;cases rx;obtain⟨its,r,ht,hz⟩:=I.list hx;have hlen:=r.length;refine⟨"list",_,slot_list_getitem.lookup,ht.isList.typeIs, ?_⟩;refine wpAny_getItem_list_slice ht.isList hs pl pu .none (by simp) ?_ (by rw[List.size_toArray]<;>omega)
 rw[ZiO,<-hlen];refine⟨.ref s.heap.objs.size,_,I.laid (t':=s.toks) (o:=.lst (Jr xs lo hi)) (fun b ob q=>Heap.get?_push_of_some _ q) (Nat.le_refl _) ?_,rfl,q _ (I.hok.fresh (Nat.le_refl _))⟩;exact⟨Nat.le_trans (ZgQ xs lo hi) hz,_,0,(r.drop (HT.sIx xs.length 0 lo)).take (HT.sIx xs.length xs.length hi-HT.sIx xs.length 0 lo),Heap.get?_push_size _ rfl⟩
def Jl:V->Bool
 | .non=>true
 | .bl _=>true
 | .int _=>true
 | .str _=>true
 |_=>false
def eqV:V->V->Bool
 | .non,.non=>true
 | .bl a,.bl b=>a==b
 | .bl a,.int b=>(if a then 1 else 0)==b
 | .int a,.bl b=>a==(if b then 1 else 0)
 | .int a,.int b=>a==b
 | .str a,.str b=>a==b
 |_,_=>false
theorem ZjU{A:Around}{s:Shared}{y x:V}{u v:Value}(ry:ZX y u)(rx:ZX x v)(fy:Jl y=true)(fx:Jl x=true):SeqAt.EqAt A s u v (eqV y x):=by
 cases y with
 |non=>
  cases ry;cases x with
  |non=>cases rx;exact SeqAt.EqAt.same _
  |bl b=>cases rx;exact SeqAt.EqAt.none_bool b
  |int b=>obtain⟨t,rfl⟩:=rx;exact SeqAt.EqAt.none_int b t
  |str b=>obtain⟨t,rfl⟩:=rx;exact SeqAt.EqAt.none_str b t
  |_=>exact absurd (show false=true from fx) Bool.false_ne_true
 |bl a=>
  cases ry;cases x with
  |non=>cases rx;exact SeqAt.EqAt.bool_none a
  |bl b=>cases rx;exact SeqAt.EqAt.bool_bool a b
  |int b=>obtain⟨t,rfl⟩:=rx;exact SeqAt.EqAt.bool_int a b t
  |str b=>obtain⟨t,rfl⟩:=rx;exact SeqAt.EqAt.bool_str a b t
  |_=>exact absurd (show false=true from fx) Bool.false_ne_true
 |int a=>
  obtain⟨t',rfl⟩:=ry;cases x with
  |non=>cases rx;exact SeqAt.EqAt.int_none a t'
  |bl b=>cases rx;exact SeqAt.EqAt.int_bool a t' b
  |int b=>obtain⟨t,rfl⟩:=rx;exact SeqAt.EqAt.int_int a t' b t
  |str b=>obtain⟨t,rfl⟩:=rx;exact SeqAt.EqAt.int_str a t' b t
  |_=>exact absurd (show false=true from fx) Bool.false_ne_true
 |str a=>
  obtain⟨t',rfl⟩:=ry;cases x with
  |non=>cases rx;exact SeqAt.EqAt.str_none a t'
  |bl b=>cases rx;exact SeqAt.EqAt.str_bool a t' b
  |int b=>obtain⟨t,rfl⟩:=rx;exact SeqAt.EqAt.str_int a t' b t
  |str b=>obtain⟨t,rfl⟩:=rx;exact SeqAt.EqAt.str_str a t' b t
  |_=>exact absurd (show false=true from fx) Bool.false_ne_true
 |_=>exact absurd (show false=true from fy) Bool.false_ne_true
def eqU(x:V)(u:Value):Bool:=match u with
 | .none=>eqV .non x
 | .bool b=>eqV (.bl b) x
 | .int i _=>eqV (.int i) x
 | .str z _=>eqV (.str z) x
 |_=>false
theorem Zp2{x y:V}{u:Value}(r:ZX y u)(f:Jl y=true):eqU x u=eqV y x:=by
 cases y with
 |non=>cases r;rfl
 |bl b=>cases r;rfl
 |int i=>obtain⟨t,rfl⟩:=r;rfl
 |str z=>obtain⟨t,rfl⟩:=r;rfl
 |_=>exact absurd (show false=true from f) Bool.false_ne_true
theorem ZfJ{x:V}:∀{xs:List V} {us:List Value},Yc xs us->xs.all Jl=true->us.any (eqU x)=xs.any fun y=>eqV y x
 |_,_,.nil,_=>rfl
 |y::xs,u::us,.cons r t,f=>by
  rw[List.all_cons,Bool.and_eq_true] at f
  rw[List.any_cons,List.any_cons,Zp2 r f.1,ZfJ t f.2]
theorem ZdF{A:Around}{s:Shared}{x:V}{v:Value}(rx:ZX x v)(fx:Jl x=true):∀{xs:List V} {us:List Value},Yc xs us->xs.all Jl=true->∀u∈us,SeqAt.EqAt A s u v (eqU x u)
 |_,_,.nil,_=>fun u hu=>by cases hu
 |y::xs,u::us,.cons r t,f=>fun u' hu=>by
  rw[List.all_cons,Bool.and_eq_true] at f
  rcases List.mem_cons.mp hu with rfl|hu
  ·rw[Zp2 r f.1];exact ZjU r rx f.1 fx
  ·exact ZdF rx fx t f.2 u' hu
def inV(x:V)(xs:List V):Bool:=xs.any fun y=>eqV y x
def rIn(K:PySem.W.Frag)(neg:Bool):R2:=fun x y H Q=>∃p xs,y=.ref p/\(SqL K H p xs\/SqT K H p xs)/\Jl x=true/\xs.all Jl=true/\Q (.bl (if neg then !inV x xs else inV x xs)) H
theorem ZcD:OpR X (compareOp .In) (rIn X.K false):=by
 intro pins s σ H x y v u Q I rx ry h;obtain⟨p,xs,rfl,hq,fx,fs,q⟩:=h;cases ry;rcases hq with hq|hq
 ·obtain⟨its,r,pl,hz⟩:=I.list hq;refine SeqAt.in_listAt (eqU x) pl.isList (fun w hw=>ZdF rx fx r fs w (by simpa using hw)) ⟨.bl _,H,I,rfl, ?_⟩;rw[show its.toArray.any (eqU x)=its.any (eqU x) by simp,ZfJ r fs];exact q
 ·obtain⟨its,r,pl,hz⟩:=I.tuple hq;refine SeqAt.in_tupleAt (eqU x) pl (fun w hw=>ZdF rx fx r fs w (by simpa using hw)) ⟨.bl _,H,I,rfl, ?_⟩;rw[show its.toArray.any (eqU x)=its.any (eqU x) by simp,ZfJ r fs];exact q
theorem Zd1:OpR X (compareOp .NotIn) (rIn X.K true):=by
 intro pins s σ H x y v u Q I rx ry h;obtain⟨p,xs,rfl,hq,fx,fs,q⟩:=h;cases ry;rcases hq with hq|hq
 ·obtain⟨its,r,pl,hz⟩:=I.list hq;refine SeqAt.notIn_listAt (eqU x) pl.isList (fun w hw=>ZdF rx fx r fs w (by simpa using hw)) ⟨.bl _,H,I,rfl, ?_⟩;rw[show its.toArray.any (eqU x)=its.any (eqU x) by simp,ZfJ r fs];exact q
 ·obtain⟨its,r,pl,hz⟩:=I.tuple hq;refine SeqAt.notIn_tupleAt (eqU x) pl (fun w hw=>ZdF rx fx r fs w (by simpa using hw)) ⟨.bl _,H,I,rfl, ?_⟩;rw[show its.toArray.any (eqU x)=its.any (eqU x) by simp,ZfJ r fs];exact q
theorem ZjV:Zbf X (.type "list") (fun xs H Q=>∃p ys,xs=[.ref p]/\(SqL X.K H p ys\/SqT X.K H p ys)/\∀l,H l=none->Q (.ref l) (upd H l (.lst ys))):=by
 intro pins s σ H xs us Q I r h;obtain⟨p,ys,rfl,hq,q⟩:=h;obtain⟨u,rfl,rx⟩:=Zbx r;cases rx;have fin:∀(its:List Value),Yc ys its->ys.length<=sizeLine->∀(h':Heap) (c':Nat),(∀b o',s.heap.get? b=some o'->h'.get? b=some o')->
   h'.get? s.heap.objs.size=some {cls:=.type "list",dict:=none,data:=.seq its.toArray c',slots:= #[]}->EP X pins σ Q (.ref s.heap.objs.size) {s with heap:=h'}:=fun its r' hz h' c' kp e=>
  ⟨.ref s.heap.objs.size,_,I.laid (t':=s.toks) kp (Nat.le_refl _) (show XH X.prog X.w _ h' _ (.lst ys) from⟨hz,its,c',r',e⟩),rfl,q _ (I.hok.fresh (Nat.le_refl _))⟩
 rcases hq with hq|hq
 ·obtain⟨its,r',pl,hz⟩:=I.list hq;have hlen:=r'.length;obtain⟨o,ho,hc,n,hd⟩:=pl.isList;exact call_list_seq p (.inl rfl) ho hc hd (fun h' c' kp e=>fin its r' hz h' c' kp e) (by simp only [List.size_toArray]<;>omega)
 ·obtain⟨its,r',pl,hz⟩:=I.tuple hq;have hlen:=r'.length;obtain⟨o,ho,hc,n,hd⟩:=pl;exact call_list_seq p (.inr rfl) ho hc hd (fun h' c' kp e=>fin its r' hz h' c' kp e) (by simp only [List.size_toArray]<;>omega)
theorem ZiP:Zbf X (.type "tuple") (fun xs H Q=>∃p ys,xs=[.ref p]/\((SqL X.K H p ys/\∀l,H l=none->Q (.ref l) (upd H l (.tup ys)))\/(SqT X.K H p ys/\Q (.ref p) H))):=by
 intro pins s σ H xs us Q I r h;obtain⟨p,ys,rfl,h⟩:=h;obtain⟨u,rfl,rx⟩:=Zbx r;cases rx;rcases h with ⟨hq,q⟩|⟨hq,q⟩
 ·obtain⟨its,r',pl,hz⟩:=I.list hq;have hlen:=r'.length;refine call_tuple_list pl.isList (fun h' kp=> ?_) (by simp only [List.size_toArray]<;>omega)
  have I1:Inv X pins σ H {s with heap:=h'}:=I.kept (t':=s.toks) kp;have I2:Inv X pins σ (upd H h'.objs.size (.tup ys)) {s with heap:=h'.push {cls:=.type "tuple",data:=.seq its.toArray}}:=
   I1.laid (t':=s.toks) (fun b o e=>Heap.get?_push_of_some _ e) (Nat.le_refl _) (show XH X.prog X.w _ _ _ (.tup ys) from⟨hz,its,r',IsTup.new _ _⟩)
  exact⟨.ref h'.objs.size,_,I2,rfl,q _ (I1.hok.fresh (Nat.le_refl _))⟩
 ·obtain⟨its,r',pl,hz⟩:=I.tuple hq;exact call_tuple_same pl ⟨.ref p,H,I,rfl,q⟩
def tyV(K:PySem.W.Frag)(T:String)(x:V)(H:Hp):Prop:=match x with
 | .str _=>T="str"
 | .int _=>T="int"
 | .ref p=>(T="list"/\∃xs,SqL K H p xs)\/(T="tuple"/\∃o,K.lookup p=some o/\o.cls=.type "tuple"/\o.dict=none)\/
   (T="dict"/\((∃kvs,H p=some (.dK kvs))\/∃kvs,H p=some (.dT kvs)))\/(T="set"/\∃S n,H p=some (.set S n))
 |_=>False
theorem Zmo{pins:List (Addr×Obj)}{σ:St}{H:Hp}{s:Shared}{T:String}{x:V}{v:Value}(I:Inv X pins σ H s)(r:ZX x v)(ty:tyV X.K T x H):
  s.TypeIs v T/\∀a,v=.ref a->∃ob,s.heap.get? a=some ob/\ob.dict=none:=by
 cases x with
 |str z=>
  obtain⟨t,rfl⟩:=r;cases(show T="str" from ty);exact⟨typeIs_str s z t,fun _ e=>nomatch e⟩
 |int i=>
  obtain⟨t,rfl⟩:=r;cases(show T="int" from ty);exact⟨typeIs_int s i t,fun _ e=>nomatch e⟩
 |ref p=>
  cases r;rcases ty with ⟨rfl,xs,hq⟩|⟨rfl,o,hk,hc,hd⟩|⟨rfl,hk⟩|⟨rfl,S,n,hk⟩
  ·obtain⟨its,_,pl,_⟩:=I.list hq;refine⟨pl.isList.typeIs,fun a e=> ?_⟩;cases e;obtain⟨o,n,e,c,hd,_⟩:=pl;exact⟨o,e,hd⟩
  ·refine⟨⟨o,I.kIn p o hk,hc⟩,fun a e=> ?_⟩;cases e;exact⟨o,I.kIn _ o hk,hd⟩
  ·have z:∃o,s.heap.get? p=some o/\o.ExactDict:=by
    rcases hk with ⟨kvs,hk⟩|⟨kvs,hk⟩
    ·obtain⟨_,_,_,_,o,_,_,e,ex,_⟩:=I.hok p _ hk;exact⟨o,e,ex⟩
    ·obtain⟨_,_,_,_,o,_,_,e,ex,_⟩:=I.hok p _ hk;exact⟨o,e,ex⟩
   obtain⟨o,e,ex⟩:=z;refine⟨⟨o,e,ex.1⟩,fun a e2=> ?_⟩;cases e2;exact⟨o,e,ex.2.1⟩
  ·obtain⟨o,_,_,_,e,ex,_⟩:=I.hok p _ hk;refine⟨⟨o,e,ex.1⟩,fun a e2=> ?_⟩;cases e2;exact⟨o,e,ex.2.1⟩
 |_=>exact False.elim ty
def Zty(K:PySem.W.Frag)(T:String)(r:V->List V->Hp->VK->Prop)(to:TE):TE:=fun σ H Q=>to σ H fun x H1=>tyV K T x H1/\r x [] H1 Q
def tBM(K:PySem.W.Frag)(T:String)(r:V->List V->Hp->VK->Prop)(to:TE)(t:TA):TE:=fun σ H Q=>to σ H fun x H1=>tyV K T x H1/\t σ H1 fun xs H2=>r x xs H2 Q
variable {o e:Expr} {es:List Expr} {to:TE} {t:TA} {name:Str} {apos cpos:Pos} {T id:String} {r:V->List V->Hp->VK->Prop}
theorem ZjW(pa:PlainAttrs T)(slot:Slot T name id)(hty:typeOf (.builtin id)=pure (.type "method_descriptor"))(hm:MtR X id r)(ho:PE X o to)
  (hbase:attributeBase o name X.env (eval o X.env)=eval o X.env:=by rfl)(hline:(apos.endLine==cpos.line)=true:=by rfl):PE X (.Call (.Attribute o name apos) [] [] cpos) (Zty X.K T r to):=by
 intro pins s σ H Q I h;refine wpAny_Call_method0_late hbase hline (thn (ho pins s σ H _ I h) fun v s1 ⟨x,H1,I1,r1,ty,q1⟩=> ?_);obtain⟨h1,h2⟩:=Zmo I1 r1 ty;exact⟨T,id,pa,slot,hty,h1,h2,Calls.callWith_builtin rfl (PySem.evalArgs_none (hm pins s1 σ H1 x [] v [] Q I1 r1 .nil q1))⟩
theorem ZaL(pa:PlainAttrs T)(slot:Slot T name id)(hty:typeOf (.builtin id)=pure (.type "method_descriptor"))(hm:MtR X id r)(ho:PE X o to)(ha:PA X (e::es) t)
  (hbase:attributeBase o name X.env (eval o X.env)=eval o X.env:=by rfl)
  (hfew:((backTo cpos (starEach (e::es) X.env)).all (fun x=> !x.1)&&(backToKw cpos (keywordEach [] X.env)).all (fun x=>x.1.isSome)
   &&decide ((e::es).length+([]:List Keyword).length+(if([]:List Keyword).isEmpty then 0 else 1)<30))=true:=by rfl)
  (hline:(apos.endLine==cpos.line)=true:=by rfl)(hs:starEach (e::es) X.env=(false,eval e X.env)::starEach es X.env:=by rfl)(hplain:(backTo cpos (starEach es X.env)).any (·.1)=false:=by rfl):
  PE X (.Call (.Attribute o name apos) (e::es) [] cpos) (tBM X.K T r to t):=by
 intro pins s σ H Q I h;refine wpAny_Call_method_late hbase hfew hline rfl (thn (ho pins s σ H _ I h) fun v s1 ⟨x,H1,I1,r1,ty,q1⟩=> ?_);obtain⟨h1,h2⟩:=Zmo I1 r1 ty;refine⟨T,id,pa,slot,hty,h1,h2, ?_⟩;have hA:=ha cpos pins s1 σ H1 _ I1 q1;rw[hs] at hA⊢
 refine Calls.callWith_builtin (by show(false||(backTo cpos (starEach es X.env)).any (·.1))=false;rw[hplain]<;>rfl) (Calls.evalArgs_plain ?_)
 exact thn hA fun us s2 ⟨vs,H2,I2,r2,q2⟩=>hm pins s2 σ H2 x vs v us Q I2 r1 r2 q2
end
end L2
namespace L2
open PySem PySem.Spec PyProof.Rows
def MtM(X:Cx)(id:String)(r:V->List V->Hp->VK->Prop):Prop:=
 ∀(pins:List (Addr×Obj)) (s:Shared) (σ:St) (H:Hp) (x:V) (xs:List V) (v:Value) (us:List Value) (Q:VK),Inv X pins σ H s->ZX x v->Yc xs us->r x xs H Q->
  wpAny (model X.prog X.w) X.A (call (.builtin id) (v::us)) (EP X pins σ Q) X.xe s
theorem Yc.one:∀{x:V} {us:List Value},Yc [x] us->∃u,us=[u]/\ZX x u
 |_,_,.cons r .nil=>⟨_,rfl,r⟩
theorem Yc.zero:∀{us:List Value},Yc [] us->us=[]
 |_,.nil=>rfl
theorem Yc.dropLast{xs:List V}{us:List Value}(h:Yc xs us):Yc xs.dropLast us.dropLast:=by
 induction h with
 |nil=>exact .nil
 |cons r t ih=>
  cases t with
  |nil=>exact .nil
  |cons q t'=>exact .cons r ih
theorem Zmp{α:Type}(l:List α):l.eraseIdx (l.length-1)=l.dropLast:=by
 induction l with
 |nil=>rfl
 |cons a r ih=>
  cases r with
  |nil=>rfl
  |cons b r=>
   have e:(a::b::r).length-1=((b::r).length-1)+1:=by
    have h1:(a::b::r).length=r.length+2:=rfl;have h2:(b::r).length=r.length+1:=rfl;omega
   rw[e,List.eraseIdx_cons_succ,ih]
   all_goals rfl
section
variable {X:Cx} {pins:List (Addr×Obj)} {σ:St} {H:Hp} {s:Shared} {l b:Addr} {xs ys zs:List V}
theorem Inv.lset{its its':List Value}{n:Nat}{f:Array Value->Array Value}{t':Nat}(I:Inv X pins σ H s)(hH:H l=some (.lst xs))
  (e:s.heap.get? l=some {cls:=.type "list",data:=.seq its.toArray n})(hf:f its.toArray=its'.toArray)(hv:Yc ys its')(hz:ys.length<=sizeLine):
  Inv X pins σ (upd H l (.lst ys)) {s with heap:=s.heap.update l (Obj.mapSeq f),toks:=t'}:=by
 have q:=PySem.IsL.update e f;rw[hf] at q
 refine I.write (x:=l) (e:=l) (by rw[hH];exact trivial) (.inl rfl) (fun b' u hb hu=>(Heap.get?_update_other s.heap (Obj.mapSeq f) (Ne.symm hb)).trans hu) ⟨_,q⟩ ?_
 exact⟨hz,its',_,hv,q⟩
theorem Inv.lnew{its:List Value}{t':Nat}(I:Inv X pins σ H s)(hv:Yc ys its)(hz:ys.length<=sizeLine):
  Inv X pins σ (upd H s.heap.objs.size (.lst ys)) {s with heap:=s.heap.push {cls:=.type "list",data:=.seq its.toArray},toks:=t'}:=
 I.laid (fun _ _ q=>Heap.get?_push_of_some _ q) (Nat.le_refl _) ⟨hz,its,0,hv,Heap.get?_push_size _ rfl⟩
theorem Inv.fresh(I:Inv X pins σ H s):H s.heap.objs.size=none:=I.hok.fresh (Nat.le_refl _)
theorem Inv.lstM(I:Inv X pins σ H s)(hH:H l=some (.lst xs)):xs.length<=sizeLine/\∃(its:List Value) (n:Nat),Yc xs its/\xs.length=its.length/\s.heap.get? l=some {cls:=.type "list",data:=.seq its.toArray n}:=by
 obtain⟨z,its,n,r,e⟩:=I.hok l _ hH;exact⟨z,its,n,r,r.length,e⟩
end
section
variable {X:Cx}
def Zqw:V->List V->Hp->VK->Prop:=fun x vs H Q=>∃l xs y,x=.ref l/\vs=[y]/\H l=some (.lst xs)/\xs.length<sizeLine/\Q .non (upd H l (.lst (xs++[y])))
theorem YC:MtM X "list.append" Zqw:=by
 intro pins s σ H x vs v us Q I rx rv h;obtain⟨l,xs,y,rfl,rfl,hH,hz,q⟩:=h;cases rx;obtain⟨u,rfl,ru⟩:=rv.one;obtain⟨z,its,n,r,hl,e⟩:=I.lstM hH;refine call_meets F.slot_list_append ⟨_,e,rfl⟩ F.entry_list_append (F.args_list_append_2 _ _) (PySem.list_append l its.toArray n u (by rw[List.size_toArray];omega)) ⟨e, ?_⟩
 refine⟨.non,_,I.lset (its':=its++[u]) hH e (by simp) (r.append (.cons ru .nil)) ?_,rfl,q⟩;rw[List.length_append,List.length_singleton];omega
def ZsE:V->List V->Hp->VK->Prop:=fun x vs H Q=>∃l xs y,x=.ref l/\vs=[]/\H l=some (.lst xs)/\xs[xs.length-1]? =some y/\Q y (upd H l (.lst xs.dropLast))
theorem ZjX:MtM X "list.pop" ZsE:=by
 intro pins s σ H x vs v us Q I rx rv h;obtain⟨l,xs,y,rfl,rfl,hH,hy,q⟩:=h;cases rx;have hus:=rv.zero;subst hus;obtain⟨z,its,n,r,hl,e⟩:=I.lstM hH;obtain⟨u,hu,ru⟩:=r.get hy;have hy':its.toArray[its.toArray.size-1]? =some u:=by
  show its.toArray[its.length-1]? =some u;rw[<-Array.getElem?_toList,<-hl];exact hu
 refine call_meets F.slot_list_pop ⟨_,e,rfl⟩ F.entry_list_pop (F.args_list_pop_1 _) (MeetsSeq.list_pop_last l its.toArray n u hy' (by rw[List.size_toArray];omega)) ⟨e, ?_⟩
 refine⟨y,_,I.lset (its':=its.dropLast) hH e ?_ r.dropLast ?_,ru,q⟩
 ·show its.toArray.eraseIdxIfInBounds (its.toArray.size-1)=its.dropLast.toArray;rw[List.size_toArray,List.eraseIdxIfInBounds_toArray,Zmp]
 ·rw[List.length_dropLast];omega
end
section
variable {prog:Program} {w:World} {A:Around} {E:Value->Shared->Prop} {s:Shared}
end
section
variable {X:Cx}
end
end L2
namespace L2
open PySem PySem.Spec PyProof.Rows
section
variable {κ:Type} [DecidableEq κ]
def Yp(kvs:List (κ×V))(k:κ):Option V:=(kvs.find? fun kv=>decide (kv.1=k)).map (·.2)
def Js(kvs:List (κ×V))(k:κ)(v:V):List (κ×V):=
 if(kvs.any fun kv=>decide (kv.1=k))=true then kvs.map (fun kv=>if kv.1=k then(kv.1,v) else kv) else kvs++[(k,v)]
theorem Yr{p:κ×V}{r:List (κ×V)}{k:κ}(e:p.1=k):Yp (p::r) k=some p.2:=by simp[Yp,List.find?_cons,e]
theorem Yn{p:κ×V}{r:List (κ×V)}{k:κ}(e:¬p.1=k):Yp (p::r) k=Yp r k:=by simp[Yp,List.find?_cons,e]
theorem Za8(k:κ):∀kvs:List (κ×V),(kvs.any fun kv=>decide (kv.1=k))=(Yp kvs k).isSome
 |[]=>rfl
 |p::r=>by
  rw[List.any_cons]
  by_cases e:p.1=k
  ·simp only [Yr e,decide_eq_true e,Bool.true_or,Option.isSome_some]
  ·rw[Yn e,decide_eq_false e,Bool.false_or];exact Za8 k r
theorem ZhC(k j:κ)(y:V):∀kvs:List (κ×V),Yp (kvs.map fun kv=>if kv.1=k then(kv.1,y) else kv) j=(Yp kvs j).map fun x=>if j=k then y else x
 |[]=>rfl
 |p::r=>by
  have ih:=ZhC k j y r;rw[List.map_cons]
  by_cases h:p.1=k
  ·rw[if_pos h]
   by_cases e:p.1=j
   ·rw[Yr (p:=(p.1,y)) e,Yr e,Option.map_some,if_pos (e.symm.trans h)]
   ·rw[Yn (p:=(p.1,y)) e,Yn e,ih]
  ·rw[if_neg h]
   by_cases e:p.1=j
   ·rw[Yr (p:=p) e,Yr e,Option.map_some,if_neg (fun z=>h (e.trans z))]
   ·rw[Yn (p:=p) e,Yn e,ih]
theorem Zjc(k j:κ)(y:V):∀kvs:List (κ×V),Yp kvs k=none->Yp (kvs++[(k,y)]) j=if j=k then some y else Yp kvs j
 |[],_=>by
  by_cases e:k=j
  ·rw[if_pos e.symm];exact Yr (p:=(k,y)) e
  ·rw[if_neg (fun z=>e z.symm)];exact Yn (p:=(k,y)) e
 |p::r,hn=>by
  rw[List.cons_append];have hk:¬p.1=k:=fun z=>by rw[Yr z] at hn;cases hn
  rw[Yn hk] at hn
  have ih:=Zjc k j y r hn
  by_cases e:p.1=j
  ·rw[Yr e,Yr e,if_neg (fun z=>hk (e.trans z))]
  ·rw[Yn e,Yn e,ih]
theorem ZfK(kvs:List (κ×V))(k j:κ)(y:V):Yp (Js kvs k y) j=if j=k then some y else Yp kvs j:=by
 unfold Js
 by_cases a:(kvs.any fun kv=>decide (kv.1=k))=true
 ·rw[if_pos a,ZhC];rw[Za8] at a
  by_cases e:j=k
  ·obtain⟨x,hx⟩:=Option.isSome_iff_exists.mp a;rw[if_pos e,e,hx,Option.map_some,if_pos rfl]
  ·rw[if_neg e];cases Yp kvs j with
   |none=>rfl
   |some x=>rw[Option.map_some,if_neg e]
 ·rw[if_neg a];refine Zjc k j y kvs ?_;rw[Za8] at a
  cases q:Yp kvs k with
  |none=>rfl
  |some x=>rw[q] at a;exact(a rfl).elim
theorem ZaM(kvs:List (κ×V))(k:κ)(v:V):(Js kvs k v).length<=kvs.length+1:=by
 unfold Js
 split
 ·rw[List.length_map];omega
 ·rw[List.length_append,List.length_cons,List.length_nil];omega
theorem ZcX.isSome_eq{o:Option V}{u:Option Value}(r:ZcX o u):o.isSome=u.isSome:=by
 cases o with
 |none=>cases u with
  |none=>rfl
  |some _=>exact(show False from r).elim
 |some _=>cases u with
  |none=>exact(show False from r).elim
  |some _=>rfl
theorem ZcX.getD{o:Option V}{u:Option Value}{d:V}{d':Value}(r:ZcX o u)(rd:ZX d d'):ZX (o.getD d) (u.getD d'):=by
 cases o with
 |none=>cases u with
  |none=>exact rd
  |some _=>exact(show False from r).elim
 |some _=>cases u with
  |none=>exact(show False from r).elim
  |some _=>exact r
theorem KV.val{kvs:List (κ×V)}{vs:List (κ×Value)}(r:KV kvs vs)(k:κ):ZcX (Yp kvs k) (valueAt vs k):=by
 unfold KV at r
 induction r with
 |nil=>exact True.intro
 | @cons p q ps qs h t ih=>
  obtain⟨h1,h2⟩:=h
  by_cases e:p.1=k
  ·have e':q.1=k:=h1.symm.trans e;have b:valueAt (q::qs) k=some q.2:=by simp[valueAt,List.find?_cons,e']
   rw[Yr e,b];exact h2
  ·have e':¬q.1=k:=fun z=>e (h1.trans z);have b:valueAt (q::qs) k=valueAt qs k:=by simp[valueAt,List.find?_cons,e']
   rw[Yn e,b];exact ih
theorem KV.any{kvs:List (κ×V)}{vs:List (κ×Value)}(r:KV kvs vs)(k:κ):(kvs.any fun kv=>decide (kv.1=k))=vs.any fun kv=>decide (kv.1=k):=by
 unfold KV at r
 induction r with
 |nil=>rfl
 |cons h t ih=>rw[List.any_cons,List.any_cons,ih,h.1]
theorem KV.repl{kvs:List (κ×V)}{vs:List (κ×Value)}(r:KV kvs vs)(k:κ){y:V}{u:Value}(ry:ZX y u):
  KV (kvs.map fun kv=>if kv.1=k then(kv.1,y) else kv) (vs.map fun kv=>if kv.1=k then(kv.1,u) else kv):=by
 unfold KV at r⊢
 induction r with
 |nil=>exact .nil
 | @cons p q ps qs h t ih=>
  rw[List.map_cons,List.map_cons];refine .cons ?_ ih;obtain⟨h1,h2⟩:=h
  by_cases e:p.1=k
  ·rw[if_pos e,if_pos (h1.symm.trans e)];exact⟨h1,ry⟩
  ·rw[if_neg e,if_neg (fun z=>e (h1.trans z))];exact⟨h1,h2⟩
theorem KV.put{kvs:List (κ×V)}{vs:List (κ×Value)}(r:KV kvs vs)(k:κ){y:V}{u:Value}(ry:ZX y u):KV (Js kvs k y) (stored vs k u):=by
 unfold Js stored;rw[r.any k]
 by_cases e:(vs.any fun kv=>decide (kv.1=k))=true
 ·rw[if_pos e,if_pos e];exact r.repl k ry
 ·rw[if_neg e,if_neg e];exact Paired.snoc r ⟨rfl,ry⟩
theorem KV.keys{kvs:List (κ×V)}{vs:List (κ×Value)}(r:KV kvs vs):kvs.map (·.1)=vs.map (·.1):=by
 unfold KV at r
 induction r with
 |nil=>rfl
 |cons h t ih=>rw[List.map_cons,List.map_cons,ih,h.1]
theorem KV.length{kvs:List (κ×V)}{vs:List (κ×Value)}(r:KV kvs vs):kvs.length=vs.length:=Paired.length r
end
theorem ZgR{P:Program}{w:World}{k:Key}{u:Value}(r:ZX (kV k) u):(Yy P w).is k u=true:=by
 cases k with
 |inl i=>obtain⟨t,e⟩:=(show∃t,u=Value.int i t from r);subst e;exact Zl4 P w i t
 |inr x=>obtain⟨t,e⟩:=(show∃t,u=Value.str x t from r);subst e;exact Zl5 P w x t
theorem Zjd{P:Program}{w:World}:∀{ks:List Key} {us:List Value},Yc (ks.map kV) us->ItemsAre (Yy P w) ks us
 |[],_,r=>by rw[List.map_nil] at r;cases r;exact .nil
 |k::ks,_,r=>by
  rw[List.map_cons] at r
  cases r with
  |cons h t=>exact .cons (ZgR h) (Zjd t)
abbrev KT(H:Hp):List (List Key×V)->List (List Key×Addr×Value)->Prop:=Paired fun p q=>p.1=q.1/\H q.2.1=some (.tup (p.1.map kV))/\ZX p.2 q.2.2
theorem KT.val{H:Hp}{kvs:List (List Key×V)}{xs:List (List Key×Addr×Value)}(r:KT H kvs xs)(k:List Key):ZcX (Yp kvs k) ((atKey xs k).map (·.2)):=by
 induction r with
 |nil=>exact True.intro
 | @cons p q ps qs h t ih=>
  obtain⟨h1,_,h2⟩:=h
  by_cases e:p.1=k
  ·have e':q.1=k:=h1.symm.trans e;have b:atKey (q::qs) k=some q.2:=by simp[atKey,List.find?_cons,e']
   rw[Yr e,b];exact h2
  ·have e':¬q.1=k:=fun z=>e (h1.trans z);have b:atKey (q::qs) k=atKey qs k:=by simp[atKey,List.find?_cons,e']
   rw[Yn e,b];exact ih
theorem KT.repl{H:Hp}{kvs:List (List Key×V)}{xs:List (List Key×Addr×Value)}(r:KT H kvs xs)(k:List Key){y:V}{u:Value}(ry:ZX y u):
  KT H (kvs.map fun kv=>if kv.1=k then(kv.1,y) else kv) (xs.map (putAt k u)):=by
 induction r with
 |nil=>exact .nil
 | @cons p q ps qs h t ih=>
  rw[List.map_cons,List.map_cons];refine .cons ?_ ih;obtain⟨h1,h2,h3⟩:=h;unfold putAt
  by_cases e:p.1=k
  ·rw[if_pos e,if_pos (h1.symm.trans e)];exact⟨h1,h2,ry⟩
  ·rw[if_neg e,if_neg (fun z=>e (h1.trans z))];exact⟨h1,h2,h3⟩
theorem KT.put{H:Hp}{kvs:List (List Key×V)}{xs:List (List Key×Addr×Value)}(r:KT H kvs xs)(k:List Key){b:Addr}{y:V}{u:Value}(hb:H b=some (.tup (k.map kV)))(ry:ZX y u):
  KT H (Js kvs k y) (storedH xs k b u):=by
 have e:(kvs.any fun kv=>decide (kv.1=k))=(atKey xs k).isSome:=by
  rw[Za8,(r.val k).isSome_eq,Option.isSome_map]
 unfold Js storedH;rw[e]
 by_cases q:(atKey xs k).isSome=true
 ·rw[if_pos q,if_pos q];exact r.repl k ry
 ·rw[if_neg q,if_neg q];exact Paired.snoc r ⟨rfl,hb,ry⟩
theorem KT.keeps{H H':Hp}{kvs:List (List Key×V)}{xs:List (List Key×Addr×Value)}(r:KT H kvs xs)(ht:∀b ys,H b=some (.tup ys)->H' b=some (.tup ys)):KT H' kvs xs:=
 Paired.mapP r fun _ _ z=>⟨z.1,ht _ _ z.2.1,z.2.2⟩
section
variable {P:Program} {w:World} {H:Hp} {h:Heap} {a:Addr}
theorem Zrk{u:HO}(ok:HOk P w H h)(e:Rd H a u):XH P w H h a u:=e.ok ok
theorem ZdG{kvs:List (Key×V)}(ok:HOk P w H h)(e:Rd H a (.dK kvs)):kvs.length<=sizeLine/\(a==sysModules)=false/\∃vs,KV kvs vs/\h.DictOf (Yy P w) a vs:=
 show XH P w H h a (.dK kvs) from Zrk ok e
theorem Zrl{kvs:List (Key×V)}(ok:HOk P w H h)(e:H a=some (.dK kvs)):kvs.length<=sizeLine/\(a==sysModules)=false/\∃vs,KV kvs vs/\h.DictOf (Yy P w) a vs:=ZdG ok (.inl e)
theorem ZeZ{ks:List Key}(ok:HOk P w H h)(e:H a=some (.tup (ks.map kV))):(tupleKind (Yy P w)).is h ks a:=by
 obtain⟨_,its,r,o,h1,h2,n,h3⟩:=(show XH P w H h a (.tup (ks.map kV)) from ok a _ e)
 exact⟨o,its.toArray,n,h1,h2,h3,by simpa using Zjd r⟩
theorem ZgS{kvs:List (List Key×V)}(ok:HOk P w H h)(e:Rd H a (.dT kvs)):kvs.length<=sizeLine/\(a==sysModules)=false/\
  ∃xs,KT H kvs xs/\h.DictOfH (tupleKind (Yy P w)) a xs:=by
 obtain⟨z,y,xs,r,o,es,ep,h1,h2,h3,h4,h5⟩:=(show XH P w H h a (.dT kvs) from Zrk ok e)
 refine⟨z,y,xs,r,o,es,ep,h1,h2,h3,h4,fun x hx=> ?_,h5⟩;have all:∀{l:List (List Key×V)} {m:List (List Key×Addr×Value)},KT H l m->∀x∈m,(tupleKind (Yy P w)).is h x.1 x.2.1:=by
  intro l m q
  induction q with
  |nil=>intro x hx;exact nomatch hx
  | @cons p q ps qs hq t ih=>
   intro x hx;rcases List.mem_cons.mp hx with e|hx
   ·subst e;exact ZeZ ok (by rw[<-hq.1];exact hq.2.1)
   ·exact ih x hx
 exact all r x hx
theorem ZsF{kvs:List (List Key×V)}(ok:HOk P w H h)(e:H a=some (.dT kvs)):kvs.length<=sizeLine/\(a==sysModules)=false/\
  ∃xs,KT H kvs xs/\h.DictOfH (tupleKind (Yy P w)) a xs:=ZgS ok (.inl e)
end
def Zd2(H:Hp)(a:Addr)(y:V)(r:Option V):Prop:=
 (∃kvs k,Rd H a (.dK kvs)/\y=kV k/\r=Yp kvs k)\/∃kvs k b,Rd H a (.dT kvs)/\y=.ref b/\H b=some (.tup (k.map kV))/\r=Yp kvs k
def ZfL(H:Hp)(a:Addr)(y v:V)(H':Hp):Prop:=
 (∃kvs k,H a=some (.dK kvs)/\y=kV k/\kvs.length<sizeLine/\H'=upd H a (.dK (Js kvs k v)))\/
 ∃kvs k b,H a=some (.dT kvs)/\y=.ref b/\H b=some (.tup (k.map kV))/\kvs.length<sizeLine/\H'=upd H a (.dT (Js kvs k v))
theorem ZfL.k{H:Hp}{a:Addr}{kvs:List (Key×V)}{k:Key}{v:V}(e:H a=some (.dK kvs))(hl:kvs.length<sizeLine):ZfL H a (kV k) v (upd H a (.dK (Js kvs k v))):=.inl ⟨kvs,k,e,rfl,hl,rfl⟩
section
variable {X:Cx} {pins:List (Addr×Obj)} {σ:St} {H:Hp} {s:Shared} {a:Addr} {y v:V} {u r:Value} {o:Option V} {A:Around} {E:Value->Shared->Prop}
theorem Inv.big(I:Inv X pins σ H s):sysModules<s.heap.objs.size:=by
 have h:mainGlobals<s.heap.objs.size:=(I.mod.glob.keeps I.bk).lt;exact Nat.lt_trans (by decide) h
theorem ZnY{Q:Value->Shared->Prop}(hu:A.units+1<cLine)(I:Inv X pins σ H s)(g:Zd2 H a y (some v))(ry:ZX y u)(h:∀w' s',Inv X pins σ H s'->ZX v w'->Q w' s'):
  wpAny (model X.prog X.w) A (getItem (.ref a) u) Q E s:=by
 rcases g with ⟨kvs,k,e,ey,l⟩|⟨kvs,k,b,e,ey,eb,l⟩
 ·subst ey;obtain⟨z,hd,vs,rel,dd⟩:=ZdG I.hok e;obtain⟨w',hw,rw'⟩:=ZcX.some_of (v:=v) (o:=valueAt vs k) (by rw[l];exact rel.val k)
  exact wpAny_getItem_of (ZgR ry) dd.mapOf hw (h w' _ (I.tok _) rw')
 ·subst ey;cases(show u=Value.ref b from ry);obtain⟨z,hd,xs,rel,dd⟩:=ZgS I.hok e;obtain⟨w',hw,rw'⟩:=ZcX.some_of (v:=v) (o:=(atKey xs k).map (·.2)) (by rw[l];exact rel.val k)
  obtain⟨p,hp,hp2⟩:=Option.map_eq_some_iff.mp hw;refine wpAny_getItem_heap (tupleKind_room_in1 hu) (ZeZ I.hok eb) dd hp ?_;rw[hp2];exact h w' _ (I.tok _) rw'
theorem Ztz{Q:Value->Shared->Prop}(hu:A.units+1<cLine)(I:Inv X pins σ H s)(g:Zd2 H a y o)(ry:ZX y u)(h:∀s',Inv X pins σ H s'->Q (.bool o.isSome) s'):
  wpAny (model X.prog X.w) A (compareOp .In u (.ref a)) Q E s:=by
 rcases g with ⟨kvs,k,e,ey,l⟩|⟨kvs,k,b,e,ey,eb,l⟩
 ·subst ey;obtain⟨z,hd,vs,rel,dd⟩:=ZdG I.hok e;refine wpAny_in_of (ZgR ry) hd dd.mapOf ?_;rw[<-(rel.val k).isSome_eq,<-l];exact h _ (I.tok _)
 ·subst ey;cases(show u=Value.ref b from ry);obtain⟨z,hd,xs,rel,dd⟩:=ZgS I.hok e;refine wpAny_in_heap (tupleKind_room_in1 hu) (ZeZ I.hok eb) hd dd ?_;have q:=(rel.val k).isSome_eq;rw[Option.isSome_map] at q
  rw[<-q,<-l];exact h _ (I.tok _)
theorem Zqx{Q:Value->Shared->Prop}(hu:A.units+1<cLine)(I:Inv X pins σ H s)(g:Zd2 H a y o)(ry:ZX y u)(h:∀s',Inv X pins σ H s'->Q (.bool (!o.isSome)) s'):
  wpAny (model X.prog X.w) A (compareOp .NotIn u (.ref a)) Q E s:=by
 rcases g with ⟨kvs,k,e,ey,l⟩|⟨kvs,k,b,e,ey,eb,l⟩
 ·subst ey;obtain⟨z,hd,vs,rel,dd⟩:=ZdG I.hok e;refine wpAny_notIn_of (ZgR ry) hd dd.mapOf ?_;rw[<-(rel.val k).isSome_eq,<-l];exact h _ (I.tok _)
 ·subst ey;cases(show u=Value.ref b from ry);obtain⟨z,hd,xs,rel,dd⟩:=ZgS I.hok e;refine wpAny_notIn_heap (tupleKind_room_in1 hu) (ZeZ I.hok eb) hd dd ?_;have q:=(rel.val k).isSome_eq;rw[Option.isSome_map] at q
  rw[<-q,<-l];exact h _ (I.tok _)
theorem ZjY{h':Heap}{t':Nat}{ob:HO}(I:Inv X pins σ H s)(mu:Mut (H a))(hs:Heap.SameBut a s.heap h')(he:∃q,h'.get? a=some q)(new:XH X.prog X.w (upd H a ob) h' a ob):
  Inv X pins σ (upd H a ob) {s with heap:=h',toks:=t'}:=
 I.write (x:=a) (e:=a) mu (.inl rfl) (fun b q hb z=>(hs.2 b hb).trans z) he new
theorem Zp3{P:Program}{w:World}{H':Hp}{h':Heap}{kvs:List (Key×V)}{vs:List (Key×Value)}(z:kvs.length<=sizeLine)(hd:(a==sysModules)=false)(rel:KV kvs vs)(dd:h'.DictOf (Yy P w) a vs):
  XH P w H' h' a (.dK kvs):=⟨z,hd,vs,rel,dd⟩
theorem ZnZ{H':Hp}{Q:Unit->Shared->Prop}(hu:A.units+1<cLine)(I:Inv X pins σ H s)(g:ZfL H a y v H')(ry:ZX y u)(rv:ZX v r)(h:∀s',Inv X pins σ H' s'->Q () s'):
  wpAny (model X.prog X.w) A (setItem (.ref a) u r) Q E s:=by
 rcases g with ⟨kvs,k,e,ey,l,eH⟩|⟨kvs,k,b,e,ey,eb,l,eH⟩
 ·subst ey eH;obtain⟨z,hd,vs,rel,dd⟩:=Zrl I.hok e;have hz:vs.length<=sizeLine:=by rw[<-rel.length];exact z
  have hl:(Js kvs k v).length<=sizeLine:=by have:=ZaM kvs k v;omega
  refine wpAny_setItem_pairs (hsz:=hz) (ZgR ry) dd fun h' dd' hs=>h _ ?_;have he:∃q,h'.get? a=some q:=let ⟨q,_,_,hq,_⟩:=dd';⟨q,hq⟩;exact ZjY I (by rw[e];exact True.intro) hs he (Zp3 hl hd (rel.put k rv) dd')
 ·subst ey eH;cases(show u=Value.ref b from ry);obtain⟨z,hd,xs,rel,dd⟩:=ZsF I.hok e;have hz:xs.length<=sizeLine:=by rw[<-Paired.length rel];exact z
  have hl:(Js kvs k v).length<=sizeLine:=by have:=ZaM kvs k v;omega
  refine wpAny_setItem_heap (hsz:=hz) (tupleKind_room_in1 hu) (ZeZ I.hok eb) dd fun h' dd' hs=>h _ ?_;obtain⟨q,es,ep,hq,h2,h3,h4,_,h5⟩:=dd';refine ZjY I (by rw[e];exact True.intro) hs ⟨q,hq⟩ ⟨hl,hd,_,(rel.put k eb rv).keeps fun c ys ec=> ?_,q,es,ep,hq,h2,h3,h4,h5⟩
  rw[Zm (Yj ec e (fun z=>nomatch z))];exact ec
end
section
variable {X:Cx} {pins:List (Addr×Obj)} {σ:St} {H:Hp} {s:Shared} {a:Addr} {kvs:List (Key×V)} {k:Key} {u:Value} {A:Around} {E:Value->Shared->Prop}
end
def ZsG(i:Expr):Prop:=∀ov iv,subscripted i false ov iv=operate [ov,iv] (getItem ov iv)
theorem Zqy{prog:Program}{w:World}{A:Around}{E:Value->Shared->Prop}{s:Shared}{env:Env}{value slice:Expr}{pos:Pos}{T id:String}{Q:Value->Shared->Prop}
  (hl:typeLookup (.type T) "__getitem__"=pure (some (.builtin id)))(hs:ZsG slice)
  (h:wpAny (model prog w) A (eval value env) (fun o s₁=>wpAny (model prog w) A (eval slice env) (fun i s₂=>s₂.TypeIs o T/\wpAny (model prog w) A (getItem o i) Q E s₂) E s₁) E s):
  wpAny (model prog w) A (eval (.Subscript value slice pos) env) Q E s:=by
 refine Subscript_ (wpAny_mono h (fun o s₁ h₁=>wpAny_mono h₁ (fun i s₂ h₂=> ?_) fun _ _ x=>x) fun _ _ x=>x);obtain⟨hT,h₂⟩:=h₂;unfold subscriptTail;refine wpAny_bind ?_;rw[getitemInPython_of_ne hT.not_modules];refine wpAny_bind (wpAny_specialOf hT hl ?_);have fin:wpAny (model prog w) A (subscripted slice false o i) (fun r s₃=>wpAny (model prog w) A (letTemporaryGo value o r>>=fun _=>pure r) Q E s₃) E s₂:=by
  rw[hs o i];exact wpAny_operating (wpAny_mono h₂ (fun r s₃ h₃=>wpAny_bind (wpAny_letTemporaryGo (wpAny_pure h₃))) fun _ _ x=>x)
 first
  |exact wpAny_pure (wpAny_bind fin)
  |exact wpAny_bind (wpAny_pure (wpAny_bind fin))
  |exact wpAny_bind fin
theorem Zlb{X:Cx}{pins:List (Addr×Obj)}{σ:St}{H:Hp}{s:Shared}{a:Addr}{y:V}{o:Option V}(I:Inv X pins σ H s)(g:Zd2 H a y o):s.TypeIs (.ref a) "dict":=by
 rcases g with ⟨kvs,k,e,_,_⟩|⟨kvs,k,b,e,_,_,_⟩
 ·obtain⟨_,_,vs,_,dd⟩:=ZdG I.hok e;exact dd.typeIs
 ·obtain⟨_,_,xs,_,dd⟩:=ZgS I.hok e;exact dd.typeIs
def ZsH(td ty:TE):TE:=fun σ H Q=>td σ H fun x H1=>ty σ H1 fun y H2=>∃a v,x=.ref a/\Zd2 H2 a y (some v)/\Q v H2
def ZtA(ty td:TE):TE:=fun σ H Q=>ty σ H fun y H1=>td σ H1 fun x H2=>∃a o,x=.ref a/\Zd2 H2 a y o/\Q (.bl o.isSome) H2
def Zqz(ty td:TE):TE:=fun σ H Q=>ty σ H fun y H1=>td σ H1 fun x H2=>∃a o,x=.ref a/\Zd2 H2 a y o/\Q (.bl (!o.isSome)) H2
def ZsI(td ty tv:TE):TS:=fun D σ H=>tv σ H fun v H1=>td σ H1 fun x H2=>ty σ H2 fun y H3=>∃a H4,x=.ref a/\ZfL H3 a y v H4/\D.nx σ H4
section
variable {X:Cx} {o i e value:Expr} {pos pos' tpos:Pos} {td ty tv:TE}
theorem Za9(hu:X.A.units+1<cLine)(ho:PE X o td)(hi:PE X i ty)(hs:ZsG i):PE X (.Subscript o i pos) (ZsH td ty):=by
 intro pins s σ H Q I h;refine Zqy PySem.F.slot_dict_getitem.lookup hs (thn (ho pins s σ H _ I h) fun u s1 ⟨x,H1,I1,rx,q1⟩=>thn (hi pins s1 σ H1 _ I1 q1) fun iv s2 ⟨y,H2,I2,ry,a,v,ex,g,q2⟩=> ?_);subst ex;obtain rfl:u=Value.ref a:=rx;exact⟨Zlb I2 g,ZnY hu I2 g ry fun w' s3 I3 rw'=>⟨v,H2,I3,rw',q2⟩⟩
theorem ZjZ(hu:X.A.units+1<cLine)(hi:PE X i ty)(ho:PE X o td):PC X .In i o (ZtA ty td):=by
 intro pins s σ H Q I h;refine thn (hi pins s σ H _ I h) fun iv s1 ⟨y,H1,I1,ry,q1⟩=>thn (ho pins s1 σ H1 _ I1 q1) fun u s2 ⟨x,H2,I2,rx,a,ov,ex,g,q2⟩=> ?_;subst ex;obtain rfl:u=Value.ref a:=rx;exact Ztz hu I2 g ry fun s3 I3=>⟨.bl ov.isSome,H2,I3,rfl,q2⟩
theorem Zbr(hu:X.A.units+1<cLine)(hi:PE X i ty)(ho:PE X o td):PC X .NotIn i o (Zqz ty td):=by
 intro pins s σ H Q I h;refine thn (hi pins s σ H _ I h) fun iv s1 ⟨y,H1,I1,ry,q1⟩=>thn (ho pins s1 σ H1 _ I1 q1) fun u s2 ⟨x,H2,I2,rx,a,ov,ex,g,q2⟩=> ?_;subst ex;obtain rfl:u=Value.ref a:=rx;exact Zqx hu I2 g ry fun s3 I3=>⟨.bl (!ov.isSome),H2,I3,rfl,q2⟩
theorem ZaE(hu:X.A.units+1<cLine)(ho:PE X o td)(hi:PE X i ty)(hv:PE X value tv)(hs:swapsWith value (some (.Subscript o i pos')) pos.line X.env=pure false):
  PS X (.Assign [.Subscript o i pos'] value pos) (ZsI td ty tv):=by
 intro pins s σ H D I h;refine wpAny_Assign_Subscript (thn (hv pins s σ H _ I h) fun r s1 ⟨v,H1,I1,rv,q1⟩=>thn (ho pins s1 σ H1 _ I1 q1) fun u s2 ⟨x,H2,I2,rx,q2⟩=>thn (hi pins s2 σ H2 _ I2 q2) fun iv s3 ⟨y,H3,I3,ry,a,H4,ex,g,q3⟩=> ?_) hs;subst ex;obtain rfl:u=Value.ref a:=rx;exact ZnZ hu I3 g ry rv fun s4 I4=>⟨σ,H4,I4,q3⟩
end
theorem Zp4{P:Program}{w:World}{H:Hp}(h:Heap)(hb:sysModules<h.objs.size):XH P w H (h.push {cls:=.type "dict",data:=.dict #[]}) h.objs.size (.dK []):=
 ⟨Nat.zero_le _,beq_eq_false_iff_ne.mpr (Ne.symm (Nat.ne_of_lt hb)),[],.nil,Heap.DictOf.new h⟩
def ZrH:TE:=fun _ H Q=>∀p,H p=none->Q (.ref p) (upd H p (.dK []))
section
variable {X:Cx} {pos:Pos}
theorem JQ:PE X (.Dict [] [] pos) ZrH:=fun pins s σ H Q I h=>
 wpAny_Dict_empty ⟨.ref s.heap.objs.size,_,I.laid (a:=s.heap.objs.size) (o:=.dK []) (t':=s.toks) (fun _ _ q=>Heap.get?_push_of_some _ q) (Nat.le_refl _) (Zp4 s.heap I.big),rfl,h _ (I.hok.fresh (Nat.le_refl _))⟩
end
structure M1 (X:Cx) (o:Expr) (m:Str) (apos:Pos) (e:Expr) (cpos:Pos):Prop where
 base:attributeBase o m X.env (eval o X.env)=eval o X.env
 few:((backTo cpos (starEach [e] X.env)).all (fun x=> !x.1)&&(backToKw cpos (keywordEach [] X.env)).all (fun x=>x.1.isSome)
  &&decide (([e]:List Expr).length+([]:List Keyword).length+(if([]:List Keyword).isEmpty then 0 else 1)<30))=true
 line:(apos.endLine==cpos.line)=true
 trees:backTo cpos (starEach [e] X.env)=[(false,eval e X.env)]
structure M2 (X:Cx) (o:Expr) (m:Str) (apos:Pos) (e f:Expr) (cpos:Pos):Prop where
 base:attributeBase o m X.env (eval o X.env)=eval o X.env
 few:((backTo cpos (starEach [e,f] X.env)).all (fun x=> !x.1)&&(backToKw cpos (keywordEach [] X.env)).all (fun x=>x.1.isSome)
  &&decide (([e,f]:List Expr).length+([]:List Keyword).length+(if([]:List Keyword).isEmpty then 0 else 1)<30))=true
 line:(apos.endLine==cpos.line)=true
 trees:backTo cpos (starEach [e,f] X.env)=[(false,eval e X.env),(false,eval f X.env)]
def IsD(H:Hp)(a:Addr):Prop:=(∃kvs,Rd H a (.dK kvs))\/∃kvs,Rd H a (.dT kvs)
theorem Zk0{X:Cx}{pins:List (Addr×Obj)}{σ:St}{H:Hp}{s:Shared}{a:Addr}(I:Inv X pins σ H s)(d:IsD H a):
  s.TypeIs (.ref a) "dict"/\(∀b,Value.ref a=.ref b->∃ob,s.heap.get? b=some ob/\ob.dict=none)/\(a==sysModules)=false:=by
 rcases d with ⟨kvs,e⟩|⟨kvs,e⟩
 ·obtain⟨_,hd,vs,_,dd⟩:=ZdG I.hok e;refine⟨dd.typeIs,fun b q=> ?_,hd⟩;cases q;obtain⟨ob,_,_,h1,h2,_⟩:=dd;exact⟨ob,h1,h2.2.1⟩
 ·obtain⟨_,hd,xs,_,dd⟩:=ZgS I.hok e;refine⟨dd.typeIs,fun b q=> ?_,hd⟩;cases q;obtain⟨ob,_,_,h1,h2,_⟩:=dd;exact⟨ob,h1,h2.2.1⟩
section
variable {X:Cx} {pins:List (Addr×Obj)} {σ:St} {H:Hp} {s:Shared} {a:Addr} {y d:V} {u r:Value} {o:Option V} {A:Around} {E:Value->Shared->Prop}
theorem ZrI{Q:Value->Shared->Prop}(hu:A.units+1<cLine)(I:Inv X pins σ H s)(g:Zd2 H a y o)(ry:ZX y u)(h:∀w' s',Inv X pins σ H s'->ZX (o.getD .non) w'->Q w' s'):
  wpAny (model X.prog X.w) A (call (.builtin "dict.get") [.ref a,u]) Q E s:=by
 rcases g with ⟨kvs,k,e,ey,l⟩|⟨kvs,k,b,e,ey,eb,l⟩
 ·subst ey;obtain⟨z,hd,vs,rel,dd⟩:=ZdG I.hok e;refine call_meetsIn PySem.F.slot_dict_get dd.typeIs PySem.F.entry_dict_get (PySem.F.args_dict_get_2 _ _) (meets_dict_get (Yy X.prog X.w) a (ZgR ry) hd) ⟨_,dd.mapOf,h _ _ (I.tok _) ?_⟩;rw[l];exact(rel.val k).getD rfl
 ·subst ey;cases(show u=Value.ref b from ry);obtain⟨z,hd,xs,rel,dd⟩:=ZgS I.hok e;refine call_meetsIn PySem.F.slot_dict_get dd.typeIs PySem.F.entry_dict_get (PySem.F.args_dict_get_2 _ _) (meetsH_dict_get (tupleKind (Yy X.prog X.w)) a b hd) ⟨tupleKind_room_in1 hu,k,xs,ZeZ I.hok eb,dd,h _ _ (I.tok _) ?_⟩;rw[l];exact(rel.val k).getD rfl
theorem ZrJ{Q:Value->Shared->Prop}(hu:A.units+1<cLine)(I:Inv X pins σ H s)(g:Zd2 H a y o)(ry:ZX y u)(rd:ZX d r)(h:∀w' s',Inv X pins σ H s'->ZX (o.getD d) w'->Q w' s'):
  wpAny (model X.prog X.w) A (call (.builtin "dict.get") [.ref a,u,r]) Q E s:=by
 rcases g with ⟨kvs,k,e,ey,l⟩|⟨kvs,k,b,e,ey,eb,l⟩
 ·subst ey;obtain⟨z,hd,vs,rel,dd⟩:=ZdG I.hok e;refine call_meetsIn PySem.F.slot_dict_get dd.typeIs PySem.F.entry_dict_get (PySem.F.args_dict_get_3 _ _ _) (meets_dict_get_default (Yy X.prog X.w) a (ZgR ry) hd r) ⟨_,dd.mapOf,h _ _ (I.tok _) ?_⟩;rw[l];exact(rel.val k).getD rd
 ·subst ey;cases(show u=Value.ref b from ry);obtain⟨z,hd,xs,rel,dd⟩:=ZgS I.hok e;refine call_meetsIn PySem.F.slot_dict_get dd.typeIs PySem.F.entry_dict_get (PySem.F.args_dict_get_3 _ _ _) (meetsH_dict_get_default (tupleKind (Yy X.prog X.w)) a b hd r) ⟨tupleKind_room_in1 hu,k,xs,ZeZ I.hok eb,dd,h _ _ (I.tok _) ?_⟩;rw[l];exact(rel.val k).getD rd
end
def ZrK(td ty:TE):TE:=fun σ H Q=>td σ H fun x H1=>∃a,x=.ref a/\IsD H1 a/\ty σ H1 fun y H2=>∃o,Zd2 H2 a y o/\Q (o.getD .non) H2
def ZrL(td ty tx:TE):TE:=fun σ H Q=>td σ H fun x H1=>∃a,x=.ref a/\IsD H1 a/\ty σ H1 fun y H2=>tx σ H2 fun z H3=>∃o,Zd2 H3 a y o/\Q (o.getD z) H3
section
variable {X:Cx} {o e f:Expr} {apos cpos:Pos} {td ty tx:TE}
theorem Zp5(hu:X.A.units+1<cLine)(ho:PE X o td)(he:PE X e ty)(m:M1 X o "get" apos e cpos):PE X (.Call (.Attribute o "get" apos) [e] [] cpos) (ZrK td ty):=by
 intro pins s σ H Q I h;refine wpAny_Call_method m.base m.few m.line PySem.F.plainAttrs_dict PySem.F.slot_dict_get PySem.F.type_dict_get (thn (ho pins s σ H _ I h) fun u s1 ⟨x,H1,I1,rx,a,ex,d,q1⟩=> ?_);subst ex;obtain rfl:u=Value.ref a:=rx;obtain⟨t1,t2,_⟩:=Zk0 I1 d;refine⟨t1,t2, ?_⟩;rw[m.trees];refine Calls.callWith_builtin rfl (Calls.evalArgs_plain (Calls.spliced_cons (thn (he pins s1 σ H1 _ I1 q1) fun iv s2 ⟨y,H2,I2,ry,ov,g,q2⟩=>Calls.spliced_nil ?_)))
 exact ZrI hu I2 g ry fun w' s3 I3 rw'=>⟨_,H2,I3,rw',q2⟩
theorem ZhD(hu:X.A.units+1<cLine)(ho:PE X o td)(he:PE X e ty)(hf:PE X f tx)(m:M2 X o "get" apos e f cpos):PE X (.Call (.Attribute o "get" apos) [e,f] [] cpos) (ZrL td ty tx):=by
 intro pins s σ H Q I h;refine wpAny_Call_method m.base m.few m.line PySem.F.plainAttrs_dict PySem.F.slot_dict_get PySem.F.type_dict_get (thn (ho pins s σ H _ I h) fun u s1 ⟨x,H1,I1,rx,a,ex,d,q1⟩=> ?_);subst ex;obtain rfl:u=Value.ref a:=rx;obtain⟨t1,t2,_⟩:=Zk0 I1 d;refine⟨t1,t2, ?_⟩;rw[m.trees];refine Calls.callWith_builtin rfl (Calls.evalArgs_plain (Calls.spliced_cons (thn (he pins s1 σ H1 _ I1 q1) fun iv s2 ⟨y,H2,I2,ry,q2⟩=>
  Calls.spliced_cons (thn (hf pins s2 σ H2 _ I2 q2) fun fv s3 ⟨z,H3,I3,rz,ov,g,q3⟩=>Calls.spliced_nil ?_))))
 exact ZrJ hu I3 g ry rz fun w' s4 I4 rw'=>⟨_,H3,I4,rw',q3⟩
end
section
variable {X:Cx} {pins:List (Addr×Obj)} {σ:St} {H:Hp} {s:Shared} {a:Addr} {kvs:List (Key×V)} {A:Around} {E:Value->Shared->Prop}
end
section
variable {X:Cx} {pins:List (Addr×Obj)} {σ:St} {H:Hp} {s:Shared} {a:Addr} {y:V} {u:Value} {A:Around} {E:Value->Shared->Prop}
end
end L2
namespace Att
open PySem PySem.W PySem.Calls PyProof.Rows
theorem Zh5{P:Params}{h:Heap}:∀(ns:List Int) (vs:List Value),WellAll P h vs (ns.map WData.int)->IntsAre vs ns:=by
 intro ns
 induction ns with
 |nil=>
  intro vs w;rw[List.map_nil] at w
  cases w;exact .nil
 |cons n ns ih=>
  intro vs w;rw[List.map_cons] at w
  cases w with
  |cons a b=>
   cases a;exact .cons _ _ (ih _ b)
theorem script_of{l:OpenLaw}{n:Nat}(hn:l.most=some n){P:Params}{h:Heap}{args:List WData}{vals:List Value}
  (hpre:l.row.toRowW.claim.pre args=true)(hwl:WellAll P h vals args):
  ∃a vs ns,vals=[Value.ref a]/\args=[WData.list (ns.map WData.int)]/\h.get? a=some {cls:=.type "list",data:=.seq vs.toArray}/\IntsAre vs ns/\ns.length<=n:=by
 have hsh:WShape.hasAll [] args [.list .int]=true:=(pre_splitW hpre).1;have hc:l.pre.holds [] {args:=args}=true:=(pre_splitW hpre).2;obtain⟨d,r,rfl,h1,h2⟩:=hasAllW_cons hsh;obtain rfl:=hasAllW_nil h2;obtain⟨xs,rfl,h3⟩:=hasW_list h1;obtain⟨ns,rfl⟩:=items_int h3;have hlen:ns.length<=n:=by
  unfold OpenLaw.pre at hc
  have h4:(WTm.not (.lt (.lit (.int (n:Int))) (.len (.arg 0)))).holds [] {args:=[.list (ns.map .int)]}=true:=by
   have h4:=(holds_andW hc).1;rw[hn] at h4
   exact h4
  have h5:=condW_of h4 (w_not (w_lt w_lit (w_len_list (w_arg rfl))));rw[List.length_map] at h5
  refine Nat.le_of_not_lt fun q=> ?_;have q':(n:Int)<((ns.length:Nat):Int):=by omega
  first
   |(rw[decide_eq_true q'] at h5;exact absurd h5 (by decide))
   |(simp at h5;omega)
 cases hwl with
 |cons w1 w2=>
  cases w2;cases w1 with
  |list ho hall=>exact⟨_,_,ns,rfl,rfl,ho,Zh5 ns _ hall,hlen⟩
theorem post_true(l:OpenLaw)(args:List WData):l.row.toRowW.claim.post args (.bool true) args=true:=
 postW_of (r:=l.row.toRowW) (X:=(true==true))
  (show WShape.has [] (.bool true) .bool=true by first|rfl|decide|simp[WShape.has,WShape.arms,WShape.armsAll])
  (show(WTm.eq .res (.lit (.bool true))).value [] {args:=args,res:=some (.bool true),after:=args}=some (.bool (true==true)) from w_eq_bool (w_res rfl) w_lit) rfl
section
variable {prog:Program} {w:World} {A:Around} {E:Value->Shared->Prop} {s:Shared} {K:Frag}
end
end Att
namespace L2
open PySem PySem.Spec PyProof.Rows
theorem Zje:∀{vs:List Value} {ns:List Int},IntsAre vs ns->Yc (ns.map V.int) vs
 |_,_,.nil=> .nil
 |_,_,.cons n t h=> .cons ⟨t,rfl⟩ (Zje h)
def ZsJ(H:Hp):Prop:=∀b,H b=none\/∃o xs,H b=some (.frz o (.lst xs))
theorem Zp6{P:Program}{w:World}{K:PySem.W.Frag}{mg mb:Str->Option Value}{CX:CXT}{k:Nat}{fa a:Addr}{fd:FuncData}{x:Str}{sp:Sp}{s₁:Shared}{vs:List Value}{ns:List Int}
  (KX:K.In s₁.heap)(hns:s₁.heap.Ns mainGlobals mg)(hb:s₁.heap.Ns builtinsNs mb)(hbb:∀x:Str,x≠"__name__"->mb x=bootBuiltins x)(hlim:s₁.heap.NoLimit)(hg:s₁.gens= #[])
  (ha:s₁.heap.get? a=some {cls:=.type "list",data:=.seq vs.toArray})(hi:IntsAre vs ns)(hl:ns.length<=sizeLine)(hr:Ju k callerA)
  (F:∀base:Heap,K.In base->base.Ns mainGlobals mg->Yl P w K mg base CX k fa fd [x] sp)(hbind:∀(s:Shared) (u:Value),BindsTo s fd ⟨[u],[]⟩ [(x,u)])
  (hsp:∀H:Hp,ZsJ H->SqL K H a (ns.map V.int)->sp [.ref a] H (fun v _=>v=.bl true) fun _ _ _=>False)
  (hCX:∀H e s',CX [] H s₁ (fun _ _ _=>False) e s'->False):
  codeAny (model P w) callerA (.call (.ref fa) ⟨[.ref a],[]⟩) (fun r s'=>r=.ok (.ret (.bool true))/\OldK s₁.heap s'.heap/\s'.os=s₁.os/\AllBare s'.gens) s₁:=by
 have rv:=Zje hi;have lenV:=hi.length;have core:∀H:Hp,ZsJ H->SqL K H a (ns.map V.int)->HOk P w H s₁.heap->(∀b,H b≠none->b=a)->(H a≠none->K.lookup a=none)->
   codeAny (model P w) callerA (.call (.ref fa) ⟨[.ref a],[]⟩) (fun r s'=>r=.ok (.ret (.bool true))/\OldK s₁.heap s'.heap/\s'.os=s₁.os/\AllBare s'.gens) s₁:=by
  intro H hO hS hok hA hK;have base_of:∀{b:Addr} {o:Obj},s₁.heap.get? b=some o->H b=none->(ZjN s₁.heap H).get? b=some o:=fun e n=>ZoI e n;have noA:∀{b:Addr} {o:Obj} {es:Array DictEntry} {ep:Nat},s₁.heap.get? b=some o->o.data=.dict es ep->H b=none:=fun{b o es ep} e d=>by
   cases q:H b with
   |none=>rfl
   |some u=>
    have e':b=a:=hA b (by rw[q];simp)
    subst e';rw[ha] at e;cases e
    have d':Data.seq vs.toArray _=Data.dict es ep:=d;cases d'
  have nsK:∀{b:Addr} {m:Str->Option Value},s₁.heap.Ns b m->(ZjN s₁.heap H).Ns b m:=fun{b m} ⟨o,es,ep,e,d,r⟩=>⟨o,es,ep,base_of e (noA e d),d,r⟩
  have hKb:K.In (ZjN s₁.heap H):=fun b o e=>base_of (KX b o e) (by
   cases q:H b with
   |none=>rfl
   |some u=>
    have e':b=a:=hA b (by rw[q];simp)
    subst e';rw[hK (by rw[q];simp)] at e;cases e)
  have hM:Mod K mg (ZjN s₁.heap H):=⟨hKb,nsK hns,⟨mb,nsK hb,hbb⟩,let ⟨mc,h1,h2⟩:=hlim;⟨mc,nsK h1,h2⟩⟩
  have e0:ZiN P w K mg (ZjN s₁.heap H) callerA [] s₁ H:=⟨rfl,hM,fun b o e=>Zql e,Nat.le_of_eq (ZnQ _ _),trivial,fun b hb=>absurd (show b∈([]:List Addr) from hb) (by simp),hok,.of_eq hg⟩
  refine codeAny_mono ((F _ hKb (nsK hns)).run callerA [] s₁ H ⟨[.ref a],[]⟩ [.ref a] [.ref a] _ _ hr e0 (hbind s₁ (.ref a)) (.cons rfl .nil) (hsp H hO hS)) fun r s' h=> ?_;cases r with
  |error e=>exact(hCX H e s' h).elim
  |ok fl=>
   cases fl with
   |next=>exact False.elim h
   |brk=>exact False.elim h
   |cont=>exact False.elim h
   |ret u=>
    obtain⟨v,H',os,bare,un,hok',r',q⟩:=h;have q':v=.bl true:=q;subst q';obtain rfl:u=Value.bool true:=r';refine⟨rfl,OldK.of_keep fun b o e=> ?_,os,bare⟩;cases q:H b with
    |none=>exact un.keep b o e q (by intro z;exact absurd (show b∈([]:List Addr) from z) (by simp)) (by simp)
    |some u=>
     rcases hO b with z|⟨ob,xs,z⟩
     ·rw[q] at z;cases z
     ·have z2:=un.frzs b ob _ z;obtain⟨e1,_⟩:=hok b _ z;obtain⟨e2,_⟩:=hok' b _ z2;rw[e] at e1;cases e1
      exact e2
 cases hk:K.lookup a with
 |some o=>
  have e:=KX a o hk;rw[ha] at e
  cases e;refine core (fun _=>none) (fun _=> .inl rfl) (.inr ⟨_,vs.toArray,_,hk,rfl,rfl,rfl,by rw[List.size_toArray,lenV];exact hl,by simpa using rv⟩) (fun b u z=>by have z':(none:Option HO)=some u:=z;cases z') (fun b z=>absurd rfl z) fun z=>absurd rfl z
 |none=>
  refine core (fun b=>if b=a then some (.frz {cls:=.type "list",data:=.seq vs.toArray} (.lst (ns.map V.int))) else none) (fun b=> ?_) (.inl (.inr ⟨{cls:=.type "list",data:=.seq vs.toArray},if_pos rfl⟩)) (fun b u z=> ?_) (fun b z=> ?_) fun _=>hk
  ·by_cases hb:b=a
   ·exact .inr ⟨_,_,if_pos hb⟩
   ·exact .inl (if_neg hb)
  ·by_cases hb:b=a
   ·have z':=(if_pos hb).symm.trans z;cases z';subst hb;exact⟨ha,by rw[List.length_map];exact hl,vs,_,rv,ha⟩
   ·have z':=(if_neg hb).symm.trans z;cases z'
  ·by_cases hb:b=a
   ·exact hb
   ·exact absurd (if_neg hb) z
end L2
namespace L2
open PySem PySem.Spec PyProof.Rows
end L2
namespace L2
open PySem PySem.Spec PyProof.Rows
def Xw(s:Stmt)(j:Nat):Stmt:=match s with
 | .ClassDef _ _ _ body _ _ _ _ _ _ _=>body.getD j (.Pass ⟨0,0,0,0⟩)
 |_=> .Pass ⟨0,0,0,0⟩
def ZeB(s:Stmt):Arguments:=match s with
 | .FunctionDef _ a _ _ _ _ _ _ _ _=>a
 |_=>{posonlyargs:=[],args:=[],vararg:=none,kwonlyargs:=[],kw_defaults:=[],kwarg:=none,defaults:=[]}
def Zd3(s:Stmt):List Stmt:=match s with
 | .FunctionDef _ _ b _ _ _ _ _ _ _=>b
 |_=>[]
def Zt(s:Stmt):Scope:=match s with
 | .FunctionDef _ _ _ _ _ _ sc _ _ _=>sc
 |_=>{kind:=.function,names:=[],isGenerator:=false,isCoroutine:=false}
abbrev CX0:CXT:=fun _ _ _ _ _ _=>False
abbrev E0:XK:=fun _ _ _=>False
theorem ZJ{X:Cx}:Zbz CX0 X E0:=fun _ _ _ _ _ _ _ h=>h.elim
structure Fun (K:PySem.W.Frag) (x qual:Str) (st:Stmt) (f:Addr) (fd:FuncData):Prop where
 ex:∃(oc:Value) (od:Option Addr) (kV doc pm:Value) (an:Option Addr) (cdv ct:Value) (osl:Array (Option Value)),
  fd=PySem.W.fnOf x qual (ZeB st) (Zd3 st) (Zt st) .none kV doc pm an cdv ct/\K.lookup f=some ⟨oc,od,.func fd,osl⟩/\PySem.W.codeIn K cdv qual=true
 kp:PySem.W.keepIn K (.ref f)=true
section
variable {P:Program} {w:World} {K:PySem.W.Frag} {mg:Str->Option Value} {base:Heap}
theorem Fun.ok{x qual:Str}{st:Stmt}{f:Addr}{fd:FuncData}{N ps:List Str}{k:Nat}{sp:Sp}(F:Fun K x qual st f fd)(S:ZC N ps (Zt st))(len:∀vs H Q E,sp vs H Q E->vs.length=ps.length)
  (hbody:∀(cdv:Value) (A:Around) (outer:List Env) (s:Shared) (H:Hp) (vs:List V) (Q:VK) (E:XK),Ju k (A.deeper (envOfC qual (Zt st) s.heap.objs.size f cdv))->sp vs H Q E->
   ∃t,PSs (ZnW CX0 P w K mg base N qual (Zt st) f cdv A outer s H E).nox (Zd3 st) t/\t {nx:=fun _ H'=>Q .non H',rt:=Q} (ZeT N vs) H):Yl P w K mg base CX0 (k+1) f fd ps sp:=by
 obtain⟨oc,od,kV,doc,pm,an,cdv,ct,osl,rfl,lk,hcd⟩:=F.ex;refine ZsA lk hcd S len fun A outer s H vs Q E hr hsp=> ?_;obtain⟨t,h,q⟩:=hbody cdv A outer s H vs Q E hr hsp;exact⟨t,h.nox,q⟩
theorem Fun.binds{x qual:Str}{st:Stmt}{f:Addr}{fd:FuncData}{ps:List Str}(F:Fun K x qual st f fd)
  (h:∀(kV doc pm:Value) (an:Option Addr) (cdv ct:Value) (us:List Value),us.length=ps.length->bindArgs (PySem.W.fnOf x qual (ZeB st) (Zd3 st) (Zt st) .none kV doc pm an cdv ct) ⟨us,[]⟩=pure (ps.zip us)):ZbZ K fd ps []:=by
 obtain⟨oc,od,kV,doc,pm,an,cdv,ct,osl,rfl,lk,hcd⟩:=F.ex;exact .all (h kV doc pm an cdv ct)
theorem Zmq{x qual:Str}{st:Stmt}{f:Addr}{oc:Value}{od an:Option Addr}{osl:Array (Option Value)}{kV doc pm cdv ct:Value}(l:K.lookup f=some ⟨oc,od,.func (PySem.W.fnOf x qual (ZeB st) (Zd3 st) (Zt st) .none kV doc pm an cdv ct),osl⟩)
  (c:PySem.W.codeIn K cdv qual=true)(k:PySem.W.keepIn K (.ref f)=true):Fun K x qual st f (PySem.W.fnOf x qual (ZeB st) (Zd3 st) (Zt st) .none kV doc pm an cdv ct):=⟨⟨oc,od,kV,doc,pm,an,cdv,ct,osl,rfl,l,c⟩,k⟩
end
theorem Zbg{A:Around}{k:Nat}(hr:Ju k A):A.units+1<cLine:=Nat.lt_of_le_of_lt (Nat.add_le_add_left (by decide:1<=64) _) hr.units
section
variable {X:Cx}
theorem pv(i:Nat){x:Str}{pos:Pos}(hN:X.N[i]? =some x:=by rfl)(hv:Vis X.env.scope x:=by first|exact Or.inl rfl|exact Or.inr (Or.inl rfl)|exact Or.inr (Or.inr rfl)) (hd:(x==("__debug__":Str))=false:=by decide)
  (hcd:(x==("__classdict__":Str))=false:=by decide):PE X (.Name x pos) (ZoK i):=Zrx hN hv hd hcd
end
theorem Yt{A B:Prop}(h:B):if false=true then A else B:=by
 rw[if_neg Bool.false_ne_true];exact h
theorem JZ{A B:Prop}(h:A):if true=true then A else B:=by
 rw[if_pos rfl];exact h
theorem YQ{c A B:Prop} [Decidable c](h1:c->A)(h2:¬c->B):if c then A else B:=by
 by_cases h:c
 ·rw[if_pos h];exact h1 h
 ·rw[if_neg h];exact h2 h
theorem ZsK{c A B:Prop} [Decidable c](hc:c)(h:B):if(!decide c)=true then A else B:=by
 rw[decide_eq_true hc];exact Yt h
def Zy(H H':Hp):Prop:=∀b o,H b=some o->H' b=some o
theorem Zy.refl(H:Hp):Zy H H:=fun _ _ h=>h
theorem Zy.trans{H H1 H2:Hp}(a:Zy H H1)(b:Zy H1 H2):Zy H H2:=fun c o h=>b c o (a c o h)
theorem Zy.free{H H':Hp}(e:Zy H H'){l:Addr}(h:H' l=Option.none):H l=Option.none:=by
 cases q:H l with
 |none=>rfl
 |some o=>
  rw[e l o q] at h
  cases h
theorem Zy.seq{K:PySem.W.Frag}{H H':Hp}{a:Addr}{xs:List V}(e:Zy H H')(h:SqL K H a xs):SqL K H' a xs:=by
 rcases h with (h|⟨o,h⟩)|h
 ·exact .inl (.inl (e _ _ h))
 ·exact .inl (.inr ⟨o,e _ _ h⟩)
 ·exact .inr h
section
variable {κ:Type} [DecidableEq κ]
end
end L2
namespace L3
open PySem PySem.Spec PyProof.Rows L2
theorem up{α:Type}{M:Model}{A:Around}{t:Sem α}{Q:α->Shared->Prop}{E:Value->Shared->Prop}{s:Shared}(h:wpAny M A t Q (fun _ _=>False) s):wpAny M A t Q E s:=wpAny_mono h (fun _ _ z=>z) fun _ _ z=>z.elim
theorem ZqA{prog:Program}{w:World}{A:Around}{E:Value->Shared->Prop}{s:Shared}{l b:Addr}{vs ws:List Value}{Q:Value->Shared->Prop}(hl:s.heap.IsList l vs.toArray)(hb:s.heap.IsList b ws.toArray)
  (h:Q (.ref s.heap.objs.size) {s with heap:=s.heap.push {cls:=.type "list",data:=.seq (vs++ws).toArray}})(hz:vs.length+ws.length<=sizeLine):wpAny (model prog w) A (binaryOp .Add (.ref l) (.ref b)) Q E s:=by
 obtain⟨⟨c1,d1,t1,l1⟩,o1,k1,n1,e1⟩:=id hl;obtain⟨⟨c2,d2,t2,l2⟩,o2,k2,n2,e2⟩:=id hb;simp only at k1 e1 k2 e2
 subst k1 e1 k2 e2;refine concat_meets ⟨_,o1,rfl⟩ ⟨_,o2,rfl⟩ noFill_list_add seq_list_add PySem.F.slot_list_add PySem.F.entry_list_add (PySem.F.args_list_add_2 _ _) (list_addW l b vs.toArray ws.toArray n1 n2 d1 d2 l1 l2 (by simpa using hz)) ⟨o1,o2, ?_⟩;have ea:vs.toArray++ws.toArray=(vs++ws).toArray:=by simp
 rw[ea];exact h
section
variable {X:Cx}
theorem ZaF:OpR X (binaryOp .Mult) (rI IntMulOk fun i j=> .int (i*j)):=opI fun _ _ _ _ _ _ _ hc q=>mul_int q hc
def ZsL(K:PySem.W.Frag):R2:=fun x y H Q=>∃l b xs zs,x=.ref l/\y=.ref b/\SqL K H l xs/\SqL K H b zs/\xs.length+zs.length<=sizeLine/\∀p,H p=none->Q (.ref p) (upd H p (.lst (xs++zs)))
theorem Zd4:OpR X (binaryOp .Add) (ZsL X.K):=by
 intro pins s σ H x y v u Q I rx ry h;obtain⟨l,b,xs,zs,rfl,rfl,h1,h2,hz,q⟩:=h;cases rx;cases ry;obtain⟨its,r,pl,_⟩:=I.list h1;obtain⟨its2,r2,pl2,_⟩:=I.list h2;obtain⟨m,F⟩:=I.fr;have e1:=r.length;have e2:=r2.length;refine ZqA pl.isList pl2.isList ?_ (by omega);exact⟨.ref _,_,I.lnew (t':=s.toks) (r.append r2) (by rw[List.length_append];omega),rfl,q _ I.fresh⟩
theorem ZhE:∀{bs:List Bool} {us:List Value},Yc (bs.map V.bl) us->LSm.BoolsAre us bs
 |[],us,r=>by
  rw[List.map_nil] at r
  cases r;exact .nil
 |b::bs,us,r=>by
  rw[List.map_cons] at r
  cases r with
  |cons r1 r2=>
   cases(show _=Value.bool b from r1);exact .cons b (ZhE r2)
end
def Ext:L2.St->L2.St->Prop
 |[],[]=>True
 |none::a,_::b=>Ext a b
 |some v::a,w::b=>w=some v/\Ext a b
 |_,_=>False
theorem Ext.len:∀{a b:L2.St},Ext a b->a.length=b.length
 |[],[],_=>rfl
 |none::a,_::b,h=>by
  have h:Ext a b:=h;simp[h.len]
 |some v::a,w::b,h=>by
  have h:w=some v/\Ext a b:=h;simp[h.2.len]
 |[],_::_,h=>h.elim
 |none::_,[],h=>h.elim
 |some _::_,[],h=>h.elim
theorem Ext.get:∀{a b:L2.St},Ext a b->∀(i:Nat) (v:V),a[i]? =some (some v)->b[i]? =some (some v)
 |[],[],_,i,v,e=>by simp at e
 |none::a,_::b,h,i,v,e=>by
  have h:Ext a b:=h;cases i with
  |zero=>simp at e
  |succ i=>simpa using h.get i v (by simpa using e)
 |some z::a,w::b,h,i,v,e=>by
  have h:w=some z/\Ext a b:=h;cases i with
  |zero=>
   have e':z=v:=by simpa using e
   subst e';rw[h.1]
   rfl
  |succ i=>simpa using h.2.get i v (by simpa using e)
 |[],_::_,h,_,_,_=>h.elim
 |none::_,[],h,_,_,_=>h.elim
 |some _::_,[],h,_,_,_=>h.elim
def frY(own:List Str)(fr:List (Str×Nat))(σ:L2.St):L2.St:=own.map (fun _=>none)++fr.map fun p=>σ.getD p.2 none
def nmY(own:List Str)(fr:List (Str×Nat)):List Str:=own++fr.map (·.1)
def Jo(X:Cx)(N:List Str)(scope:Scope)(cl:List (Str×Addr))(C:Addr)(s:Shared)(H:Hp)(fp:List Addr):Cx:=
 {X with N:=N,s₀:=s,H₀:=H,env:=compEnvC scope cl C X.env,outer:=X.stack,stack:=X.stack,ex:=fp,fn:=fun _=>false,pn:=[],xe:=fun _ _=>False}
def Zmr:Option NameKind->Bool
 |some .cell=>true
 |some .free=>true
 |_=>false
theorem Zk1{o:Option NameKind}(h:Zmr o=true):o=some .cell\/o=some .free:=by
 cases o with
 |none=>cases h
 |some k=>cases k<;>first|exact .inl rfl|exact .inr rfl|cases h
def Zms(X:Cx)(scope:Scope):List (Str×Nat)->Prop
 |[]=>True
 |p::r=>(X.N[p.2]? =some p.1/\Zmr (X.env.scope.names.lookup p.1)=true/\Zmr ((relabel scope X.env).names.lookup p.1)=true)/\Zms X scope r
theorem Zms.mem{X:Cx}{scope:Scope}:∀{fr:List (Str×Nat)},Zms X scope fr->∀p∈fr,X.N[p.2]? =some p.1/\Zmr (X.env.scope.names.lookup p.1)=true/\Zmr ((relabel scope X.env).names.lookup p.1)=true
 |[],_,p,hp=>by simp at hp
 |q::r,h,p,hp=>by
  have h:_/\Zms X scope r:=h;rcases List.mem_cons.mp hp with rfl|hmore
  ·exact h.1
  ·exact h.2.mem p hmore
def Zmt(X:Cx):List (Str×Addr)->Prop
 |[]=>True
 |p::r=>X.env.cells.lookup p.1=some p.2/\Zmt X r
theorem Zmt.get{X:Cx}:∀{cl:List (Str×Addr)},Zmt X cl->∀x c,cl.lookup x=some c->X.env.cells.lookup x=some c
 |[],_,x,c,e=>by simp at e
 |(n,a)::r,h,x,c,e=>by
  have h:X.env.cells.lookup n=some a/\Zmt X r:=h
  by_cases hx:x=n
  ·subst hx;simp only [List.lookup_cons,beq_self_eq_true] at e
   cases e;exact h.1
  ·have hb:(x==n)=false:=by simpa using hx
   simp only [List.lookup_cons,hb] at e
   exact h.2.get x c e
def Zf0(scope:Scope)(env:Env)(cl:List (Str×Addr)):Bool:=
 scope.kind==.function&&scope.names.all (fun y=>y.2 !=.cell)&&scope.names.all (fun y=>y.2 !=.local||scope.names.lookup y.1==some .local)&&
 (relabel scope env).names.all (fun y=> !Zmr (some y.2)||(cl.lookup y.1).isSome)
def Zlc:TT:=fun _ H Q=>Q true H
def PTs(X:Cx)(ifs:List Expr)(t:TT):Prop:=
 ∀(pins:List (Addr×Obj)) (s:Shared) (σ:L2.St) (H:Hp) (Q:Bool->Hp->Prop),Inv X pins σ H s->t σ H Q->
  wpAny (model X.prog X.w) X.A (forIn ifs true fun c r=>if r=true then do let ok<-isTrue c X.env (eval c X.env);pure (ForInStep.yield ok) else pure (ForInStep.yield r)) (TP X pins σ Q) X.xe s
theorem Zc1{X:Cx}:PTs X [] Zlc:=fun _ _ _ H _ I h=>wpAny_tests_nil ⟨H,I,h⟩
theorem Jw{X:Cx}{c:Expr}{t:TT}(h:PT X c t):PTs X [c] t:=fun pins s σ H Q I q=>wpAny_tests_one (h pins s σ H Q I q)
theorem ZqB{prog:Program}{w:World}{A:Around}{R:Result->Shared->Prop}{s:Shared}{elt tg iter:Expr}{ifs:List Expr}{scope:Scope}{pos:Pos}{it acc:Value}{env:Env}(J:Nat->Shared->Prop)
  (turn:∀n s,J n s->∀E:Value->Shared->Prop,wpAny (model prog w) A (pyNext it) (fun r s₁=>(r=none/\R (.ok .next) s₁)\/∃v,r=some v/\
    wpAny (model prog w) A (letOwnedTupleGo tg it v) (fun _ s₂=>wpAny (model prog w) A (assign tg env v) (fun _ s₃=>
     wpAny (model prog w) A (forIn ifs true fun c r=>if r=true then do let ok<-isTrue c env (eval c env);pure (ForInStep.yield ok) else pure (ForInStep.yield r)) (fun ok s₄=>
      (ok=true/\wpAny (model prog w) A (eval elt env) (fun x s₅=>wpAny (model prog w) A (call (.builtin "list.append") [acc,x]) (fun _ s₆=>∃m,m<n/\J m s₆) E s₅) E s₄)\/
      (ok=false/\∃m,m<n/\J m s₄)) E s₃) E s₂) E s₁) E s)
  (n:Nat)(h:J n s):codeAny (model prog w) A (.compLoop (.ListComp elt [⟨tg,iter,ifs,0⟩] scope pos) 0 it acc env) R s:=by
 refine codeAny_loop rfl J (fun n s hJ=> ?_) n h;show wpAny _ A ((compTurn (.ListComp elt [⟨tg,iter,ifs,0⟩] scope pos) 0 it acc env).onRaise (fun x=>do noteFrame x env;theTreesLotGoes x)) _ _ s
 refine wpAny_noted ?_;rw[compTurn_list];refine wpAny_bind (wpAny_standAt (wpAny_bind (thn (turn n s hJ _) fun r s₁ h₁=> ?_)));rcases h₁ with ⟨rfl,h₁⟩|⟨v,rfl,h₁⟩
 ·exact wpAny_pure h₁
 ·refine wpAny_bind (thn h₁ fun _ s₂ h₂=>wpAny_bind (thn h₂ fun _ s₃ h₃=>wpAny_bind (thn h₃ fun ok s₄ h₄=> ?_)));rcases h₄ with ⟨rfl,h₄⟩|⟨rfl,h₄⟩
  ·exact wpAny_bind (wpAny_bind (thn h₄ fun x s₅ h₅=>wpAny_bind (thn h₅ fun _ s₆ h₆=>wpAny_pure (wpAny_pure ⟨rfl,h₆⟩))))
  ·exact wpAny_pure ⟨rfl,h₄⟩
def Zp7(J:It)(own:List Str)(fr:List (Str×Nat))(g:TG)(tc:TT)(te:TE)(σ:L2.St)(H1:Hp)(Q:VK):Prop:=∀D,H1 D=none->∃W:Nat->Nat->List V->Hp->Prop,(∃m,W 0 m [] (upd H1 D (.lst [])))/\
 ∀i m ys H2,W i m ys H2->H2 D=some (.lst ys)/\((J.stop i H2/\Q (.ref D) H2)\/(J.go i H2/\∃N:List V->Hp->Prop,(∀zs H',N zs H'->∃m',m'<m/\W (i+1) m' zs H')/\
  ∀x H',J.yld i H2 x H'->g x (frY own fr σ) H' fun σ3 H3=>Ext (frY own fr σ) σ3/\tc σ3 H3 fun b H4=>if b=true then te σ3 H4 fun v H5=>H5 D=some (.lst ys)/\ys.length<sizeLine/\N (ys++[v]) (upd H5 D (.lst (ys++[v]))) else N ys H4))
def Zp8(wi:TI)(own:List Str)(fr:List (Str×Nat))(g:TG)(tc:TT)(te:TE):TE:=fun σ H Q=>wi σ H fun J H1=>Zp7 J own fr g tc te σ H1 Q
theorem Zjf{X:Cx}{elt tg iter:Expr}{ifs:List Expr}{scope:Scope}{pos ipos:Pos}{wi:TI}{g:TG}{tc:TT}{te:TE}{cl:List (Str×Addr)}(own:List Str)(fr:List (Str×Nat))(hc:X.calm=true)(hi:PI X tg iter wi)
  (hclos:closureFor scope X.env=pure cl)(hcl:Zmt X cl)(hok:Zf0 scope X.env cl=true)(hfr:Zms X scope fr)
  (hg:∀C s H fp,PG (Jo X (nmY own fr) scope cl C s H fp) tg g)(ht:∀C s H fp,PTs (Jo X (nmY own fr) scope cl C s H fp) ifs tc)(he:∀C s H fp,PE (Jo X (nmY own fr) scope cl C s H fp) elt te)
  (hs:∀x,foldedSetIterable iter X.env x=pure x){pins:List (Addr×Obj)}{s:Shared}{σ:L2.St}{H:Hp}{Q:VK}{use:Option (Value->Sem Unit)}{PQ:Value->Shared->Prop}(I:Inv X pins σ H s)(h:Zp8 wi own fr g tc te σ H Q)
  (hend:∀(s6:Shared) (H5:Hp) (C D:Addr) (m:Str->Option Value),Inv X pins σ H5 s6->s6.heap.Ns C m->Zhx X pins H5 C->Q (.ref D) H5->compPost (model X.prog X.w) X.A X.xe use PQ (.ref D) C (.ok .next) s6):
  wpAny (model X.prog X.w) X.A (comprehension (.ListComp elt [⟨tg,iter,ifs,0⟩] scope pos) scope X.env ipos (newList []) false (eval iter X.env) use) PQ X.xe s:=by
 have ok1:scope.kind=.function:=by
  unfold Zf0 at hok
  simp only [Bool.and_eq_true,beq_iff_eq] at hok
  exact hok.1.1.1
 have ok2:∀y∈scope.names,y.2≠.cell:=by
  unfold Zf0 at hok
  simp only [Bool.and_eq_true,List.all_eq_true] at hok
  intro y hy
  simpa using hok.1.1.2 y hy
 have ok3:∀y∈scope.names,y.2=.local->scope.names.lookup y.1=some .local:=by
  unfold Zf0 at hok
  simp only [Bool.and_eq_true,List.all_eq_true] at hok
  intro y hy e;have:=hok.1.2 y hy
  simpa [e] using this
 have ok4:∀x,(relabel scope X.env).names.lookup x=some .cell\/(relabel scope X.env).names.lookup x=some .free->∃c,cl.lookup x=some c:=by
  unfold Zf0 at hok
  simp only [Bool.and_eq_true,List.all_eq_true] at hok
  intro x hx;have key:∀k,(relabel scope X.env).names.lookup x=some k->Zmr (some k)=true->∃c,cl.lookup x=some c:=fun k e hk=>by
   have:=hok.2 (x,k) (PySem.mem_of_lookup e);simp only [hk,Bool.not_true,Bool.false_or] at this
   exact Option.isSome_iff_exists.mp this
  rcases hx with e|e
  ·exact key _ e rfl
  ·exact key _ e rfl
 refine wpAny_comprehension_free (use:=use) rfl hs hclos ok1 ok3 ?_;refine thn (hi pins s σ H _ I h) fun v s1 h1=>thn h1 fun itv s2 h2=> ?_;obtain⟨it,fp,tn,J,H2,e,I2,T,st2,f2,hD⟩:=h2;subst e;have lt2:∀b∈fp,b<s2.heap.objs.size:=fun b hb=>by
  obtain⟨o,e,_⟩:=T.obj _ _ st2 b hb;exact Heap.lt_size e
 refine wpAny_newObj_type (wpAny_newFunctionEnv ok2 (by intro y hy;simp at hy) (fun h₁ hns₁ hsb₁=> ?_) ok1)
 obtain⟨W,⟨m0,w0⟩,turn⟩:=hD s2.heap.objs.size I2.fresh;have I3:Inv X pins σ (upd H2 s2.heap.objs.size (.lst [])) {s2 with heap:=s2.heap.push {cls:=.type "list",data:=.seq ([]:List Value).toArray}}:=I2.lnew (t':=s2.toks) .nil (Nat.zero_le _);have st3:=T.keep 0 _ (s2.heap.push {cls:=.type "list",data:=.seq ([]:List Value).toArray}) st2 fun b hb o e=>Heap.get?_push_of_some _ e;have f3:∀b∈fp,Zhx X pins (upd H2 s2.heap.objs.size (.lst [])) b:=fun b hb=>⟨by rw[Zm (Nat.ne_of_lt (lt2 b hb))];exact(f2 b hb).1,(f2 b hb).2⟩
 generalize hs3:({s2 with heap:=s2.heap.push {cls:=.type "list",data:=.seq ([]:List Value).toArray}}:Shared)=s3 at I3
 have es3:s3.heap=s2.heap.push {cls:=.type "list",data:=.seq ([]:List Value).toArray}:=by rw[<-hs3]
 have eg3:s3.gens=s2.gens:=by rw[<-hs3]
 have lt3:∀b∈fp,b<s3.heap.objs.size:=fun b hb=>by rw[es3,Heap.size_push];exact Nat.lt_succ_of_lt (lt2 b hb)
 rw[<-es3] at st3
 have hns:h₁.Ns s3.heap.objs.size (fun x=>([]:List (Str×Value)).reverse.lookup x):=by rw[es3];exact hns₁
 have k34:∀b o,s3.heap.get? b=some o->h₁.get? b=some o:=fun b o e=>by
  have hsb:=hsb₁.extBut b o;rw[es3] at e
  exact hsb (Nat.ne_of_lt (Heap.lt_size e)) (Heap.get?_push_of_some _ e)
 generalize hs4:({s3 with heap:=h₁,toks:=s3.toks+([]:List (Str×Value)).length}:Shared)=s4;have es4:s4.heap=h₁:=by rw[<-hs4]
 have st4:tn 0 s4.heap:=T.keep 0 _ _ st3 fun b hb o e=>by rw[es4];exact k34 b o e
 have IY:Inv (Jo X (nmY own fr) scope cl s3.heap.objs.size s3 (upd H2 s2.heap.objs.size (.lst [])) fp) [] (frY own fr σ) (upd H2 s2.heap.objs.size (.lst [])) s4:=by
  refine⟨⟨I3.ok.mod,ok1,I3.ok.glob,I3.ok.blt,Nat.le_refl _,fun x y c e1 e2=>I3.ok.inj x y c (hcl.get x c e1) (hcl.get y c e2),fun x hx=>ok4 x hx,(fun x c z=>nomatch z),I3.ok.hd,I3.ok.frames,.inl rfl,
   fun b hb=>⟨Nat.ne_of_lt (lt3 b hb),fun x c e=>(f3 b hb).2.2.2.2.1 x c (hcl.get x c e)⟩,I3.bs,Nat.le_trans I3.ok.bsz I3.sz,fun b o e hb=> ?_,fun b hb z=> ?_,I3.stack,I3.stkFree⟩,
   by rw[<-hs4];rfl,by rw[<-hs4];exact I3.bare,Un.kept (by rw[es4];exact k34),⟨_,by rw[es4];exact hns,fun i x v e1 e2 e3=> ?_⟩,fun x c e=> ?_,I3.hok.fresh (Nat.le_refl _),fun x c e=>I3.freeC x c (hcl.get x c e),fun p hp=>absurd hp (by simp[Jo]),by rw[es4];exact I3.hok.kept k34, ?_⟩
  ·rcases(f3 b hb).2.2.2.1 with z|z
   ·exact I3.ok.noex b o e z
   ·exact absurd (Nat.lt_of_lt_of_le (Heap.lt_size (I3.ok.bs b o e).1) z) (Nat.lt_irrefl _)
  ·rcases List.mem_cons.mp (I3.stkSub b z) with q|q
   ·exact(f3 b hb).2.1 q
   ·exact(f3 b hb).2.2.1 q
  ·have e1:(own++fr.map (·.1))[i]? =some x:=e1;have e2:(own.map (fun _=>(none:Option V))++fr.map fun p=>σ.getD p.2 none)[i]? =some (some v):=e2;have hi:own.length<=i:=by
    refine Nat.le_of_not_lt fun hlt=> ?_;rw[List.getElem?_append_left (by simpa using hlt),List.getElem?_map] at e2
    cases q:own[i]? with
    |none=>rw[q] at e2;cases e2
    |some a=>rw[q] at e2;cases e2
   rw[List.getElem?_append_right hi,List.getElem?_map] at e1
   rw[List.getElem?_append_right (by simpa using hi),List.getElem?_map,List.length_map] at e2
   cases q:fr[i-own.length]? with
   |none=>rw[q] at e1;cases e1
   |some p=>
    rw[q] at e1 e2
    obtain rfl:p.1=x:=Option.some.inj e1;have e2:σ.getD p.2 none=some v:=Option.some.inj e2;have e4:σ[p.2]? =some (some v):=by
     rw[List.getD_eq_getElem?_getD] at e2
     cases z:σ[p.2]? with
     |none=>rw[z] at e2;cases e2
     |some a=>
      rw[z] at e2
      have e2:a=some v:=e2;rw[e2]
    obtain⟨n1,n2,n3⟩:=hfr.mem p (List.mem_of_getElem? q);obtain⟨m,hn,hl⟩:=I3.loc;have vis:Vis X.env.scope p.1:=.inr (Zk1 n2);obtain⟨u,r,l⟩:=hl p.2 p.1 v n1 e4 vis;refine⟨u,r, ?_⟩;rcases l with ⟨k,_⟩|⟨_,c,e,z⟩
    ·have k:X.env.scope.names.lookup p.1=some .local:=k;rw[k] at n2;cases n2
    ·obtain⟨c',e'⟩:=ok4 p.1 (Zk1 n3);have e'':=hcl.get _ _ e';rw[e] at e''
     cases e'';obtain⟨o,ho,hd⟩:=z;exact .inr ⟨Zk1 n3,c,e',o,by rw[es4];exact k34 c o ho,hd⟩
  ·obtain⟨v,o,ho,hd⟩:=I3.cell x c (hcl.get x c e);exact⟨v,o,by rw[es4];exact k34 c o ho,hd⟩
  ·simp[frY,nmY,Jo]
 have fY:∀{H':Hp} {s':Shared},(∀b∈fp,H' b=none)->∀b∈fp,Zhx (Jo X (nmY own fr) scope cl s3.heap.objs.size s3 (upd H2 s2.heap.objs.size (.lst [])) fp) [] H' b:=fun{H' _} hn b hb=>
  ⟨hn b hb,Nat.ne_of_lt (lt3 b hb),fun z=>by
   rcases List.mem_cons.mp (I3.stkSub b z) with q|q
   ·exact(f3 b hb).2.1 q
   ·exact(f3 b hb).2.2.1 q,.inl hb,fun x c e=>(f3 b hb).2.2.2.2.1 x c (hcl.get x c e),fun p hp=>absurd hp (by simp[Jo])⟩
 have loop:codeAny (model X.prog X.w) X.A (.compLoop (.ListComp elt [⟨tg,iter,ifs,0⟩] scope pos) 0 (.ref it) (.ref s2.heap.objs.size) (compEnvC scope cl s3.heap.objs.size X.env))
   (compPost (model X.prog X.w) X.A X.xe use PQ (.ref s2.heap.objs.size) s3.heap.objs.size) s4:=by
  refine ZqB (fun n s'=>∃i ys H',Inv (Jo X (nmY own fr) scope cl s3.heap.objs.size s3 (upd H2 s2.heap.objs.size (.lst [])) fp) [] (frY own fr σ) H' s'/\tn i s'.heap/\(∀b∈fp,H' b=none)/\W i n ys H') ?_ m0
   ⟨0,[],_,IY,st4,fun b hb=>(f3 b hb).1,w0⟩
  rintro n s5 ⟨i,ys,H5,I5,st5,fr5,w5⟩ E;obtain⟨d5,way⟩:=turn i n ys H5 w5;rcases way with ⟨stop,q⟩|⟨go,N,hN,step⟩
  ·refine thn (T.done (Jo X (nmY own fr) scope cl s3.heap.objs.size s3 (upd H2 s2.heap.objs.size (.lst [])) fp) rfl rfl rfl hc i [] s5 _ H5 E I5 (fY (s':=s5) fr5) st5 stop) fun r s6 ⟨hr,I6⟩=> .inl ⟨hr, ?_⟩;obtain⟨m,hn,_⟩:=I6.loc;have I7:Inv X pins σ H5 s6:=I3.call' (s':=s6) (ch:=fp) I6.os I6.base I6.hok I6.bare (fun b hb=>⟨(f3 b hb).2.2.2.1,(f3 b hb).2.1,(f3 b hb).2.2.2.2.1,(f3 b hb).2.2.2.2.2⟩);exact hend s6 H5 _ _ m I7 hn (I3.fpOk (Nat.le_refl _) I6.free) q
  ·refine thn (T.item (Jo X (nmY own fr) scope cl s3.heap.objs.size s3 (upd H2 s2.heap.objs.size (.lst [])) fp) rfl rfl rfl hc i [] s5 _ H5 E I5 (fY (s':=s5) fr5) st5 go) fun r s6 ⟨u,hr,h6⟩=> .inr ⟨u,hr, ?_⟩;refine thn h6 fun _ s7 ⟨x,H7,I7,r7,y7,st7,fr7⟩=> ?_;have I7':=I7.pinned (fY (s':=s7) fr7) (T.obj _ _ st7);refine up (thn (hg _ _ _ _ _ s7 _ H7 x u _ I7' r7 (step x H7 y7)) fun _ s8 ⟨σ8,H8,I8,x8,q8⟩=> ?_)
   refine up (thn (ht _ _ _ _ _ s8 σ8 H8 _ I8 q8) fun ok s9 ⟨H9,I9,q9⟩=> ?_);have again:∀{σ':L2.St} {H':Hp} {s':Shared} {zs:List V},Inv (Jo X (nmY own fr) scope cl s3.heap.objs.size s3 (upd H2 s2.heap.objs.size (.lst [])) fp) ([]++Zhy fp s7.heap) σ' H' s'->Ext (frY own fr σ) σ'->N zs H'->
     ∃m,m<n/\∃i ys H',Inv (Jo X (nmY own fr) scope cl s3.heap.objs.size s3 (upd H2 s2.heap.objs.size (.lst [])) fp) [] (frY own fr σ) H' s'/\tn i s'.heap/\(∀b∈fp,H' b=none)/\W i m ys H':=fun{σ' H' s' zs} I' x' n'=>by
    obtain⟨m',hm,w'⟩:=hN zs H' n';refine⟨m',hm,i+1,zs,H',I'.unpinned.weak x'.len fun j v e=>x'.get j v e,T.keep _ _ _ st7 fun b hb o e=>(I'.pin (b,o) (List.mem_append_right _ (List.mem_append_right _ (Zd0 hb e)))).1,fun b hb=> ?_,w'⟩;obtain⟨o,e,_⟩:=T.obj _ _ st7 b hb;exact(I'.pin (b,o) (List.mem_append_right _ (List.mem_append_right _ (Zd0 hb e)))).2.1
   cases ok with
   |false=>
    rw[if_neg Bool.false_ne_true] at q9
    exact .inr ⟨rfl,again I9 x8 q9⟩
   |true=>
    rw[if_pos rfl] at q9
    refine .inl ⟨rfl,up (thn (he _ _ _ _ _ s9 σ8 H9 _ I9 q9) fun y s10 ⟨v10,H10,I10,r10,d10,z10,n10⟩=> ?_)⟩;refine up (thn (YC _ s10 σ8 H10 (.ref s2.heap.objs.size) [v10] _ [y] (fun _ H'=>N (ys++[v10]) H') I10 rfl (.cons r10 .nil) ⟨s2.heap.objs.size,ys,v10,rfl,rfl,d10,z10,n10⟩) fun _ s11 ⟨v11,H11,I11,_,n11⟩=> ?_);exact again I11 x8 n11
 have ZeT:codeAny (model X.prog X.w) X.A (.compStart (.ListComp elt [⟨tg,iter,ifs,0⟩] scope pos) 0 (.ref it) (.ref s2.heap.objs.size) (compEnvC scope cl s3.heap.objs.size X.env))
   (compPost (model X.prog X.w) X.A X.xe use PQ (.ref s2.heap.objs.size) s3.heap.objs.size) s4:=codeAny_compStart_list loop (T.self _ _ _ _ _ st4 loop)
 exact ZeT
theorem Jc{X:Cx}{elt tg iter:Expr}{ifs:List Expr}{scope:Scope}{pos:Pos}{wi:TI}{g:TG}{tc:TT}{te:TE}{cl:List (Str×Addr)}(own:List Str)(fr:List (Str×Nat))(hc:X.calm=true)(hi:PI X tg iter wi)
  (hclos:closureFor scope X.env=pure cl)(hcl:Zmt X cl)(hok:Zf0 scope X.env cl=true)(hfr:Zms X scope fr)
  (hg:∀C s H fp,PG (Jo X (nmY own fr) scope cl C s H fp) tg g)(ht:∀C s H fp,PTs (Jo X (nmY own fr) scope cl C s H fp) ifs tc)(he:∀C s H fp,PE (Jo X (nmY own fr) scope cl C s H fp) elt te)
  (hs:∀x,foldedSetIterable iter X.env x=pure x:=by intro _;rfl):PE X (.ListComp elt [⟨tg,iter,ifs,0⟩] scope pos) (Zp8 wi own fr g tc te):=by
 intro pins s σ H Q I h;rw[eval_ListComp];refine Zjf (use:=none) own fr hc hi hclos hcl hok hfr hg ht he hs I h fun s6 H5 C D m I6 hn f q=>⟨m,hn,fun h' hs'=> ?_⟩
 exact⟨.ref D,H5,I6.turned (t':=s6.toks) (fun b o hb e=>(hs'.2 b hb).trans e) f.1 f.2.1 f.2.2.2.1 f.2.2.2.2.1 f.2.2.2.2.2,rfl,q⟩
theorem ZeC{X:Cx}{elt tg iter:Expr}{ifs:List Expr}{scope:Scope}{pos py spos:Pos}{y:Str}{i:Nat}{wi:TI}{g:TG}{tc:TT}{te:TE}{cl:List (Str×Addr)}(own:List Str)(fr:List (Str×Nat))(hN:X.N.Nodup)(hy:X.N[i]? =some y)(hx:Loc X.env.scope y)(hc:X.calm=true)(hi:PI X tg iter wi)
  (hclos:closureFor scope X.env=pure cl)(hcl:Zmt X cl)(hok:Zf0 scope X.env cl=true)(hfr:Zms X scope fr)
  (hg:∀C s H fp,PG (Jo X (nmY own fr) scope cl C s H fp) tg g)(ht:∀C s H fp,PTs (Jo X (nmY own fr) scope cl C s H fp) ifs tc)(he:∀C s H fp,PE (Jo X (nmY own fr) scope cl C s H fp) elt te)
  (hs:∀x,foldedSetIterable iter X.env x=pure x:=by intro _;rfl)(hsw:swapsWith (.ListComp elt [⟨tg,iter,ifs,0⟩] scope pos) (some (.Name y py)) spos.line X.env=pure true:=by rfl)
  (hf:X.fn y=true\/X.env.scope.names.lookup y=some .local:=by first|exact .inl rfl|exact .inr rfl|assumption):
  PS X (.Assign [.Name y py] (.ListComp elt [⟨tg,iter,ifs,0⟩] scope pos) spos) (Zst (Zp8 wi own fr g tc te) (ZoM i)):=by
 intro pins s σ H D' I h;rw[exec_Assign_Name_used y py _ spos hsw];refine wpAny_bind (wpAny_standAt (wpAny_bind (wpAny_bind ?_)));refine(thn (Zjf (use:=some (assign (.Name y py) X.env)) (PQ:=fun _ s'=>SP X pins D' .next s') own fr hc hi hclos hcl hok hfr hg ht he hs I h fun s6 H5 C D m I6 hn f q=> ?_) fun _ s' hq=>wpAny_pure (wpAny_pure hq));obtain⟨o,es,ep,ho,hrest⟩:=id hn;have I7:Inv X (pins++[(C,o)]) σ H5 s6:=I6.pins_of fun p hp=>by
  rcases List.mem_append.mp hp with old|z
  ·exact I6.pin p (List.mem_append_right _ old)
  ·have e:p=(C,o):=by simpa using z
   subst e;exact⟨ho,f.1,f.2.1,f.2.2.1,fun v z=>by rw[hrest.1] at z;cases z⟩
 refine thn (ZF (pos:=py) hN hy hx hf (pins++[(C,o)]) s6 σ H5 (.ref D) (.ref D) D'.nx I7 rfl q) fun _ s8 ⟨σ8,H8,I8,q8⟩=> ?_;have hC:=I8.pin (C,o) (List.mem_append_right _ (List.mem_append_right _ (by simp)));refine⟨m,hn.at' fun o' e=>by rw[ho] at e;cases e;exact hC.1,fun h' hs'=>⟨σ8,H8,I8.unpinned.turned (t':=s8.toks) (fun b o hb e=>(hs'.2 b hb).trans e) hC.2.1 f.2.1 f.2.2.2.1 f.2.2.2.2.1 f.2.2.2.2.2,q8⟩⟩
end L3
namespace L3
open PySem PySem.Spec PyProof.Rows L2
theorem Zce:bootBuiltins "len"=some (.builtin "len"):=by decide+kernel
theorem Zmu:bootBuiltins "abs"=some (.builtin "abs"):=by decide+kernel
theorem Zk2:bootBuiltins "max"=some (.builtin "max"):=by decide+kernel
theorem Zmv:bootBuiltins "min"=some (.builtin "min"):=by decide+kernel
theorem Zk3:bootBuiltins "int"=some (.type "int"):=by decide+kernel
theorem ZqC:bootBuiltins "list"=some (.type "list"):=by decide+kernel
theorem Zld:bootBuiltins "reversed"=some (.type "reversed"):=by decide+kernel
structure Cal (P:Program) (w:World) (K:PySem.W.Frag) (mg:Str->Option Value) (base:Heap) (CX:CXT) (k:Nat) (x:Str) (ps:List Str) (sp:Sp):Prop where
 ex:∃(f:Addr) (fd:FuncData),mg x=some (.ref f)/\PySem.W.keepIn K (.ref f)=true/\ZbZ K fd ps []/\Yl P w K mg base CX k f fd ps sp
section
variable {X:Cx} {CX:CXT} {k:Nat} {x:Str} {ps:List Str} {sp:Sp} {E:XK} {e:PySem.Expr} {es:List PySem.Expr} {t:TA} {p pos:Pos}
theorem ZV(c:Cal X.prog X.w X.K X.mg X.base CX k x ps sp)(hr:Ju k X.A)(hg:Gl X x)(hx:Zbz CX X E)(ha:PA X (e::es) t)(hdb:(x==("__debug__":Str))=false:=by decide)
  (he:starEach (e::es) X.env=(false,eval e X.env)::starEach es X.env:=by rfl)(hpl:(backTo pos (starEach es X.env)).any (·.1)=false:=by rfl):PE X (.Call (.Name x p) (e::es) [] pos) (Znk sp [] E t):=by
 obtain⟨f,fd,hm,hk,hb,F⟩:=c.ex;exact Zqr F hr hg hm hk hb .nil hx ha hdb he hpl
theorem ZrM(c:Cal X.prog X.w X.K X.mg X.base CX k x ps sp)(hr:Ju k X.A)(hg:Gl X x)(hx:Zbz CX X E)(hdb:(x==("__debug__":Str))=false:=by decide):PE X (.Call (.Name x p) [] [] pos) (Znk sp [] E ZoW):=by
 obtain⟨f,fd,hm,hk,hb,F⟩:=c.ex;exact ZoX F hr hg hm hk hb .nil hx hdb
end
theorem ZdH:∀{ns:List Int} {B:Nat},PySem.W.WData.weightAll (ns.map PySem.W.WData.int)<=B->∀i∈ns,Builtin.Int.intBits i<=B
 |[],_,_,i,hi=>by simp at hi
 |n::ns,B,h,i,hi=>by
  have h:PySem.W.WData.weight (.int n)+1+PySem.W.WData.weightAll (ns.map PySem.W.WData.int)<=B:=h;have e:PySem.W.WData.weight (.int n)=Builtin.Int.intBits n:=rfl;rw[e] at h
  rcases List.mem_cons.mp hi with rfl|hi
  ·omega
  ·exact ZdH (by omega) i hi
theorem ZqD{l:PySem.W.OpenLaw}{n:Nat}{q:Program}{loose:List Str}{XP:(Str->Option Value)->Heap->Prop}{YP:World->Heap->Prop}{d:DefRec}
  (hn:l.most=some n)(hdf:d.params.defaults=[])
  (call:∀(w:World) (s₀ s₁:Shared) (mg mb:Str->Option Value) (fa:Addr) (a:Addr) (vs:List Value) (ns:List Int),
   PySem.W.Ground q loose [] XP w s₀ mg mb s₁.heap->YP w s₁.heap->mg d.name=some (.ref fa)->
   s₁.heap.get? a=some {cls:=.type "list",data:=.seq vs.toArray}->IntsAre vs ns->ns.length<=n->(∀i∈ns,Builtin.Int.intBits i<=1048576)->s₁.gens= #[]->
   codeAny (model l.prog w) callerA (.call (.ref fa) ⟨[.ref a],[]⟩) (fun r s'=>r=.ok (.ret (.bool true))/\OldK s₁.heap s'.heap/\s'.os=s₁.os/\AllBare s'.gens) s₁):
  PySem.W.WalkO q loose XP YP l.row.toRowW d [] (fun f vs=>PySem.call f vs):=by
 intro w s₀ s₁ mg mb G Y fa o pm cd doc dV kV ho hdata hcode hD hmg hg args vals as hpre hlay hread hwl hlow;obtain rfl:dV=.none:=PySem.W.Dflts.none hD hdf;obtain rfl:kV=.none:=PySem.W.Dflts.noKw hD;obtain⟨a,vs,ns,rfl,rfl,hobj,hints,hlen⟩:=Att.script_of hn hpre hwl;have hb:∀i∈ns,Builtin.Int.intBits i<=1048576:=by
  have h1:PySem.W.WData.layableAll [PySem.W.WData.list (ns.map PySem.W.WData.int)]=true:=hlay;have h2:PySem.W.WData.layable (PySem.W.WData.list (ns.map PySem.W.WData.int))=true:=by simpa [PySem.W.WData.layableAll] using h1
  have h3:PySem.W.WData.weight (PySem.W.WData.list (ns.map PySem.W.WData.int))<=2^20:=by
   unfold PySem.W.WData.layable at h2
   rw[Bool.and_eq_true] at h2
   exact of_decide_eq_true h2.2
  exact ZdH (show PySem.W.WData.weightAll (ns.map PySem.W.WData.int)<=1048576 from h3)
 refine PySem.W.enter_call (codeAny_mono (call w s₀ s₁ mg mb fa a vs ns G Y hmg hobj hints hlen hb hg) fun r s' hq=> ?_);obtain⟨rfl,h2,h3,h4⟩:=hq;exact⟨.inl ⟨.bool true,.bool true,[],rfl,fun _=>rfl,.bool true,Att.post_true l _,fun _=>⟨List.Pairwise.nil,fun _ hm=>(nomatch hm)⟩⟩,h2,h3,h4⟩
def Zp9(K:PySem.W.Frag):Sp:=fun vs H Q _=>∃(a:Addr) (ns:List Int),vs=[.ref a]/\SqL K H a (ns.map V.int)/\ns.length<=63/\(∀i∈ns,Builtin.Int.intBits i<=1048576)/\∀H',Q (.bl true) H'
theorem ZsM{l:PySem.W.OpenLaw}{k:Nat}{q:Program}{loose:List Str}{XP:(Str->Option Value)->Heap->Prop}{YP:World->Heap->Prop}{d:DefRec}{K:Params->PySem.W.Frag}{x:Str}
  (hn:l.most=some 63)(hdf:d.params.defaults=[])(hr:Ju k callerA)(hY:∀(w:World) (h:Heap),YP w h->(K w.params).In h)
  (F:∀(w:World) (mg:Str->Option Value) (fa:Addr) (h:Heap),(K w.params).In h->h.Ns mainGlobals mg->mg d.name=some (.ref fa)->
   ∃fd:FuncData,(∀(s:Shared) (u:Value),BindsTo s fd ⟨[u],[]⟩ [(x,u)])/\∀base:Heap,(K w.params).In base->base.Ns mainGlobals mg->Yl l.prog w (K w.params) mg base CX0 k fa fd [x] (Zp9 (K w.params))):
  PySem.W.WalkO q loose XP YP l.row.toRowW d [] (fun f vs=>PySem.call f vs):=by
 refine ZqD hn hdf fun w s₀ s₁ mg mb fa a vs ns G Y hmg hobj hints hlen hb hg=> ?_;have KX:=hY w _ Y;obtain⟨fd,hbd,hF⟩:=F w mg fa _ KX G.T.g hmg;exact Zp6 KX G.T.g G.T.b G.T.builtins G.T.nolimit hg hobj hints (Nat.le_trans hlen (by decide)) hr hF hbd (fun H hO hS=>⟨a,ns,rfl,hS,hlen,hb,fun _=>rfl⟩) fun H e s' z=>z
end L3
namespace L3
open PySem PySem.Spec PyProof.Rows L2 PySem.Builtin PySem.Builtin.Str
section
variable {X:Cx}
theorem ZfM:∀{ys:List Str} {us:List Value},Yc (ys.map V.str) us->StrsAre us ys
 |[],us,r=>by
  rw[List.map_nil] at r
  cases r;exact .nil
 |y::ys,us,r=>by
  rw[List.map_cons] at r
  cases r with
  |cons r1 r2=>
   obtain⟨t,e⟩:=r1;subst e;exact .cons y t (ZfM r2)
theorem Zo0:MtR X "str.join" (fun x vs H Q=>∃z p ys,x=.str z/\vs=[.ref p]/\SqL X.K H p (ys.map V.str)/\(ys.map (·.length)).sum+ys.length*z.length<=16777216/\Q (.str (Txt.join z ys)) H):=by
 intro pins s σ H x xs v us Q I rx r h;obtain⟨z,p,ys,rfl,rfl,hS,hk,q⟩:=h;obtain⟨t,rfl⟩:=rx;obtain⟨u,rfl,r2⟩:=Zbx r;cases r2;obtain⟨its,rv,pl,_⟩:=I.list hS;exact join_list pl.isList (by simpa using ZfM rv) hk fun t' k=>⟨.str _,H,I.tok _,⟨_,rfl⟩,q⟩
end
end L3
namespace M1
open PySem.Builtin PySem.Builtin.Str PySem
def cs(x:Str):List Nat:=x.cps.toList
theorem ext{x y:Str}(h:cs x=cs y):x=y:=Str.ext' (Array.toList_inj.mp h)
theorem Zmw(x y:Str):cs (x++y)=cs x++cs y:=by
 show(x.cps++y.cps).toList=_;rw[Array.toList_append]
 rfl
theorem Zpa(c:Nat):cs ⟨#[c]⟩=[c]:=rfl
theorem Zmx(x:Str):x.length=(cs x).length:=by
 show x.cps.size=x.cps.toList.length;rw[Array.length_toList]
end M1
namespace M2
open PySem M1
end M2
namespace L3
open PySem PySem.Spec PyProof.Rows L2
theorem Zmy{k:Key}{u:Value}(h:Zhv k u=true):ZX (kV k) u:=by
 rcases Xk h with ⟨i,t,rfl,rfl⟩|⟨x,t,rfl,rfl⟩
 ·exact⟨t,rfl⟩
 ·exact⟨t,rfl⟩
theorem Znm{kvs:List (Key×V)}{vs:List (Key×Value)}(r:KV kvs vs):∀{i:Nat} {p:Key×V},kvs[i]? =some p->∃u,vs[i]? =some (p.1,u)/\ZX p.2 u:=by
 induction r with
 |nil=>intro i p e;simp at e
 |cons h _ ih=>
  intro i p e;cases i with
  |zero=>
   obtain rfl:=Option.some.inj ((List.getElem?_cons_zero ..).symm.trans e);refine⟨_, ?_,h.2⟩;rw[List.getElem?_cons_zero,h.1]
  |succ i=>
   rw[List.getElem?_cons_succ] at e
   obtain⟨u,e1,e2⟩:=ih e;exact⟨u,by rw[List.getElem?_cons_succ];exact e1,e2⟩
section
variable {X:Cx} {pins:List (Addr×Obj)} {σ:L2.St} {H:Hp} {s:Shared} {a n:Addr} {p q:HO}
theorem Zle(I:L2.Inv X pins σ H s)(h:H a=some p)(h1:∀xs,p≠.tup xs)(h2:∀x,p≠.own x)(h3:∀t,p≠.tbl t)(hf:∀o u,X.H₀ a≠some (.frz o u))(ok:XH X.prog X.w H s.heap a q):L2.Inv X pins σ (upd H a q) s:=by
 have nn:∀b,H b=none->b≠a:=fun b e z=>by subst z;rw[h] at e;cases e
 refine⟨I.ok,I.os,I.bare,⟨I.base.keep,I.base.slot,fun b o e n hx=> ?_,I.base.there,fun b xs e=> ?_,fun b o u e=> ?_,fun b ps e=> ?_⟩,I.loc,I.cell, ?_,fun x c e=> ?_,fun z hz=> ?_,fun b u e=> ?_,I.len⟩
 ·rw[Zm (nn b (I.base.free b o e n hx))];exact I.base.free b o e n hx
 ·have e2:=I.base.tups b xs e;rw[Zm (fun z=>by subst z;rw[h] at e2;exact h1 xs (Option.some.inj e2))]
  exact e2
 ·rw[Zm (fun z=>by subst z;exact hf o u e)]
  exact I.base.frzs b o u e
 ·obtain⟨m,e2⟩:=I.base.tbls b ps e;exact⟨m,by rw[Zm (fun z=>by subst z;rw[h] at e2;exact h3 _ (Option.some.inj e2))];exact e2⟩
 ·rw[Zm (nn _ I.free)];exact I.free
 ·rw[Zm (nn _ (I.freeC x c e))];exact I.freeC x c e
 ·obtain⟨z1,z2,z3⟩:=I.pin z hz;exact⟨z1,by rw[Zm (nn _ z2)];exact z2,z3⟩
 ·have ho:∀c x,H c=some (.own x)->upd H a q c=some (.own x):=fun c x ec=>by
   rw[Zm (fun z=>by subst z;rw[h] at ec;exact h2 x (Option.some.inj ec))]
   exact ec
  have ht:∀c xs,H c=some (.tup xs)->upd H a q c=some (.tup xs):=fun c xs ec=>by
   rw[Zm (fun z=>by subst z;rw[h] at ec;exact h1 xs (Option.some.inj ec))]
   exact ec
  by_cases hb:b=a
  ·subst hb;rw[Zc] at e
   cases e;exact ok.stay (fun _ _ _ z=>z) (fun c z=>ho c _ z) ht
  ·rw[Zm hb] at e
   exact(I.hok b u e).stay (fun _ _ _ z=>z) (fun c z=>ho c _ z) ht
theorem ZhF{kvs:List (Key×V)}(I:L2.Inv X pins σ H s)(h:H a=some (.dK kvs)):∃o,s.heap.get? a=some o/\L2.Inv X pins σ (upd H a (.frz o (.dK kvs))) s:=by
 obtain⟨z1,z2,vs,z3,o,es,ep,z4,z5⟩:=I.hok a _ h;refine⟨o,z4,Zle I h (fun _ e=>nomatch e) (fun _ e=>nomatch e) (fun _ e=>nomatch e) (fun o' u e=> ?_) ⟨z4,I.hok a _ h⟩⟩;have:=I.base.frzs a o' u e;rw[h] at this
 cases this
theorem ZdI{o:Obj}{u:HO}(I:L2.Inv X pins σ H s)(h:H a=some (.frz o u))(hf:∀o u,X.H₀ a≠some (.frz o u)):L2.Inv X pins σ (upd H a u) s:=
 Zle I h (fun _ e=>nomatch e) (fun _ e=>nomatch e) (fun _ e=>nomatch e) hf (I.hok a _ h).2
theorem Zjg(I:L2.Inv X pins σ H s)(f:Zhx X pins H n)(ok:XH X.prog X.w (upd H n q) s.heap n q):L2.Inv X pins σ (upd H n q) s:=by
 obtain⟨f0,f1,f2,f3,f4,f5⟩:=f;have ns:∀b u,H b=some u->b≠n:=fun b u e z=>by subst z;rw[f0] at e;cases e
 refine⟨I.ok,I.os,I.bare,⟨I.base.keep,I.base.slot,fun b o e m hx=> ?_,I.base.there,fun b xs e=> ?_,fun b o u e=> ?_,fun b ps e=> ?_⟩,I.loc,I.cell, ?_,fun x c e=> ?_,fun z hz=> ?_,fun b u e=> ?_,I.len⟩
 ·refine(Zm ?_).trans (I.base.free b o e m hx);rintro rfl;rcases f3 with z|z
  ·exact hx z
  ·exact absurd (Nat.lt_of_lt_of_le (Heap.lt_size e) z) (Nat.lt_irrefl _)
 ·have e2:=I.base.tups b xs e;rw[Zm (ns b _ e2)];exact e2
 ·have e2:=I.base.frzs b o u e;rw[Zm (ns b _ e2)];exact e2
 ·obtain⟨m,e2⟩:=I.base.tbls b ps e;exact⟨m,by rw[Zm (ns b _ e2)];exact e2⟩
 ·rw[Zm (Ne.symm f1)];exact I.free
 ·rw[Zm (f4 x c e)];exact I.freeC x c e
 ·obtain⟨z1,z2,z3⟩:=I.pin z hz;exact⟨z1,by rw[Zm (f5 z hz)];exact z2,z3⟩
 ·by_cases hb:b=n
  ·subst hb;rw[Zc] at e
   cases e;exact ok
  ·rw[Zm hb] at e
   exact(I.hok b u e).stay (fun _ _ _ z=>z) (fun c z=>by rw[Zm (ns c _ z)];exact z) fun c xs z=>by rw[Zm (ns c _ z)];exact z
end
theorem Zjh{P:Program}{w:World}{H:Hp}{h:Heap}{a:Addr}{o:Obj}{kvs:List (Key×V)}(ok:HOk P w H h)(e:H a=some (.frz o (.dK kvs))){es:Array DictEntry}{ep:Nat}(hd:o.data=.dict es ep):
  (a==sysModules)=false/\∃vs,KV kvs vs/\h.DictAt (Yy P w) a vs ep:=by
 obtain⟨ho,z1,z2,vs,z3,o',es',ep',z4,z5,z6,z7⟩:=ok a _ e;rw[ho] at z4
 cases z4;rw[hd] at z6
 cases z6;exact⟨z2,vs,z3,o,es,ho,z5,hd,z7⟩
def Itk(a:Addr)(o:Obj)(kvs:List (Key×V)):It:=
 ⟨fun i H=>H a=some (.frz o (.dK kvs))/\i<kvs.length,fun i H x H'=>H'=H/\∃kv,kvs[i]? =some kv/\x=kV kv.1,fun i H=>H a=some (.frz o (.dK kvs))/\kvs.length<=i⟩
def Iti(a:Addr)(o:Obj)(kvs:List (Key×V)):It:=
 ⟨fun i H=>H a=some (.frz o (.dK kvs))/\i<kvs.length,fun i H x H'=>∃kv p,kvs[i]? =some kv/\H p=none/\x=.ref p/\H'=upd H p (.tup [kV kv.1,kv.2]),fun i H=>H a=some (.frz o (.dK kvs))/\kvs.length<=i⟩
theorem Zo1{P:Program}{w:World}{K:PySem.W.Frag}{tg:PySem.Expr}(a it:Addr){o:Obj}{kvs:List (Key×V)}{es:Array DictEntry}{ep:Nat}(hd:o.data=.dict es ep)(n:Nat)(hn:n=kvs.length):
  Zme P w K tg (Itk a o kvs) [it] it (fun i h=>h.IsKeyIter it a i n ep) where
 mem:=by simp
 obj:=fun i h st b hb=>by
  have e:b=it:=by simpa using hb
  subst e;obtain⟨o,e,c,d⟩:=st;exact⟨o,e,fun v z=>by rw[d] at z;cases z⟩
 keep:=fun i h h' st k=>st.at fun o e=>k it (by simp) o e
 item:=by
  intro X hP hw hK hc i pins s σ H E I hf st hg;subst hP hw hK;obtain⟨hz,hlt⟩:=hg;obtain⟨_,vs,rv,hm⟩:=Zjh I.hok hz hd;obtain⟨kv,hx⟩:∃kv,kvs[i]? =some kv:=⟨kvs[i],by simp[hlt]⟩
  obtain⟨u,hu,ru⟩:=Znm rv hx;obtain⟨f0,f1,f2,f3,f4,f5⟩:=hf it (by simp);have el:n=vs.length:=by rw[hn];exact Paired.length rv
  rw[el] at st
  refine wpAny_pyNext_dict_item st hm hu fun key h' hk st' sb=> ?_;have I1:L2.Inv X pins σ H {s with heap:=h'}:=I.turned (t':=s.toks) (fun b o hb e=>(sb.2 b hb).trans e) f0 f1 f3 f4 f5;obtain⟨ob,e,c,d⟩:=id st';refine⟨key,rfl,Zng (s:={s with heap:=h'}) e c d (by decide) ⟨kV kv.1,H,I1,Zmy hk,⟨rfl,kv,hx,rfl⟩, ?_,fun b hb=>(hf b hb).1⟩⟩;show h'.IsKeyIter it a (i+1) n ep;rw[el];exact st'
 done:=by
  intro X hP hw hK hc i pins s σ H E I hf st hg;subst hP hw hK;obtain⟨hz,hle⟩:=hg;obtain⟨_,vs,rv,hm⟩:=Zjh I.hok hz hd;have el:n=vs.length:=by rw[hn];exact Paired.length rv
  rw[el] at st
  obtain⟨f0,f1,f2,f3,f4,f5⟩:=hf it (by simp);exact wpAny_pyNext_dict_end (I.ok.hd hc) st hm (List.getElem?_eq_none (by omega)) fun h' eb=>⟨rfl,I.turned (t':=s.toks) (fun b o hb e=>eb b o hb e) f0 f1 f3 f4 f5⟩
 self:=fun _ _ _ _ _ st h=>wpAny_pyIter_keyiter st h
theorem Zmz{P:Program}{w:World}{K:PySem.W.Frag}{elts:List PySem.Expr}{x1:Nat}{pos:Pos}(a it:Addr){o:Obj}{kvs:List (Key×V)}{es:Array DictEntry}{ep:Nat}(hd:o.data=.dict es ep)(n:Nat)(hn:n=kvs.length):
  Zme P w K (.Tuple elts x1 pos) (Iti a o kvs) [it] it (fun i h=>∃ok ov,IsItemIter h it a i n ep ok ov) where
 mem:=by simp
 obj:=fun i h st b hb=>by
  have e:b=it:=by simpa using hb
  subst e;obtain⟨ok,ov,e⟩:=st;exact⟨_,e,fun v z=>by cases z⟩
 keep:=fun i h h' ⟨ok,ov,e⟩ k=>⟨ok,ov,k it (by simp) _ e⟩
 item:=by
  intro X hP hw hK hc i pins s σ H E I hf st hg;subst hP hw hK;obtain⟨hz,hlt⟩:=hg;obtain⟨_,vs,rv,hm⟩:=Zjh I.hok hz hd;obtain⟨kv,hx⟩:∃kv,kvs[i]? =some kv:=⟨kvs[i],by simp[hlt]⟩
  obtain⟨u,hu,ru⟩:=Znm rv hx;obtain⟨f0,f1,f2,f3,f4,f5⟩:=hf it (by simp);have el:n=vs.length:=by rw[hn];exact Paired.length rv
  rw[el] at st
  obtain⟨ok,ov,st⟩:=st;refine wpAny_pyNext_items_item st hm hu fun key h' hk st' nt sz kp=> ?_;refine⟨_,rfl,wpAny_letOwnedTupleGo_items (s:={s with heap:=h'}) st' fun h2 st2 sb2=> ?_⟩;have nit:s.heap.objs.size≠it:=fun z=>by
   exact absurd (Heap.lt_size st) (by rw[<-z];exact Nat.lt_irrefl _)
  have I1:L2.Inv X pins σ H {s with heap:=h2,toks:=s.toks}:=I.turned (t':=s.toks) (fun b o hb e=>(sb2.2 b hb).trans (kp b o hb e)) f0 f1 f3 f4 f5;have fn:=I.fpOk (H':=H) (Nat.le_refl _) (I.hok.fresh (Nat.le_refl _));have I2:=Zjg (q:=.tup [kV kv.1,kv.2]) I1 fn ⟨by show 2<=sizeLine;rw[sizeLine_eq];decide,[key,u],.cons (Zmy hk) (.cons ru .nil),{cls:=.type "tuple",data:=.seq #[key,u]},(sb2.2 _ nit).trans nt,rfl,_,rfl⟩
  refine⟨.ref s.heap.objs.size,_,I2,rfl,⟨kv,_,hx,fn.1,rfl,rfl⟩,⟨key,u, ?_⟩,fun b hb=> ?_⟩
  ·show IsItemIter h2 it a (i+1) n ep key u;rw[el];exact st2
  ·have e:b=it:=by simpa using hb
   subst e;rw[Zm (Ne.symm nit)];exact f0
 done:=by
  intro X hP hw hK hc i pins s σ H E I hf st hg;subst hP hw hK;obtain⟨hz,hle⟩:=hg;obtain⟨_,vs,rv,hm⟩:=Zjh I.hok hz hd;have el:n=vs.length:=by rw[hn];exact Paired.length rv
  rw[el] at st
  obtain⟨ok,ov,st⟩:=st;obtain⟨f0,f1,f2,f3,f4,f5⟩:=hf it (by simp);exact wpAny_pyNext_items_end (I.ok.hd hc) st hm (List.getElem?_eq_none (by omega)) fun h' eb=>⟨rfl,I.turned (t':=s.toks) (fun b o hb e=>eb b o hb e) f0 f1 f3 f4 f5⟩
 self:=fun _ _ _ _ _ ⟨_,_,st⟩ h=>PySem.W.kcp_self st h
section
variable {X:Cx} {tg:PySem.Expr}
def ZsN(tl:TE):TI:=fun σ H R=>tl σ H fun x H1=>∃a kvs,x=.ref a/\H1 a=some (.dK kvs)/\∀o,R (Itk a o kvs) (upd H1 a (.frz o (.dK kvs)))
theorem Znn{l:PySem.Expr}{tl:TE}(hl:PE X l tl):PI X tg l (ZsN tl):=by
 intro pins s σ H R I h;refine thn (hl pins s σ H _ I h) fun v s1 ⟨x,H1,I1,r1,q1⟩=> ?_;obtain⟨a,kvs,e,hq,q⟩:=q1;subst e;cases r1;obtain⟨o,ho,I2⟩:=ZhF I1 hq;obtain⟨z1,z2,vs0,z3,o',es,ep,z4,z5,z6,z7⟩:=I1.hok a _ hq;rw[ho] at z4
 cases z4;obtain⟨hs,vs,rv,hm⟩:=Zjh I2.hok Zc z6;have el:kvs.length=vs.length:=Paired.length rv;refine wpAny_pyIter_dict hs hm ?_;refine⟨s1.heap.objs.size,[s1.heap.objs.size],_,_,_,rfl,I2.kept (t':=s1.toks) fun b o e=>Heap.get?_push_of_some _ e,Zo1 a _ z6 vs.length el.symm,⟨_,Heap.get?_push_size _ rfl,rfl,rfl⟩,fun b hb=> ?_,q o⟩;have e:b=s1.heap.objs.size:=by simpa using hb
 subst e;exact I2.fpOk (Nat.le_refl _) (I2.hok.fresh (Nat.le_refl _))
def ZcE(v a:Addr):HO:=.ext fun h=>h.IsItemsView v a
def ZrN(tl:TE):TE:=fun σ H Q=>tl σ H fun x H1=>∃a kvs,x=.ref a/\H1 a=some (.dK kvs)/\∀v,H1 v=none->Q (.ref v) (upd H1 v (ZcE v a))
theorem Zlf{o:PySem.Expr}{to:TE}{apos cpos:Pos}(ho:PE X o to)
  (hbase:attributeBase o "items" X.env (eval o X.env)=eval o X.env:=by rfl)(hline:(apos.endLine==cpos.line)=true:=by rfl):PE X (.Call (.Attribute o "items" apos) [] [] cpos) (ZrN to):=by
 intro pins s σ H Q I h;refine wpAny_Call_method0_late hbase hline (thn (ho pins s σ H _ I h) fun v s1 ⟨x,H1,I1,r1,a,kvs,e,ha,q1⟩=> ?_);subst e;cases r1;obtain⟨h1,h2⟩:=Zmo (T:="dict") (x:=.ref a) I1 rfl (.inr (.inr (.inl ⟨rfl,.inl ⟨kvs,ha⟩⟩)));obtain⟨z1,z2,vs,z3,z4⟩:=I1.hok a _ ha;refine⟨"dict","dict.items",F.plainAttrs_dict,F.slot_dict_items,F.type_dict_items,h1,h2,Calls.callWith_builtin rfl (PySem.evalArgs_none ?_)⟩
 refine call_meetsIn F.slot_dict_items h1 F.entry_dict_items (F.args_dict_items_1 _) (meets_dict_items (Yy X.prog X.w) a z2) ⟨⟨vs,z4⟩, ?_⟩;refine⟨.ref _,_,I1.laid (a:=s1.heap.objs.size) (o:=ZcE s1.heap.objs.size a) (t':=s1.toks) (fun b q hq=>Heap.get?_push_of_some _ hq) (Nat.le_refl _) ?_,rfl,q1 _ I1.fresh⟩;refine⟨⟨_,Heap.get?_push_size _ rfl,rfl,rfl⟩,⟨_,Heap.get?_push_size _ rfl⟩,fun g1 g2 z k=> ?_⟩
 obtain⟨ob,e1,e2⟩:=z;exact⟨ob,k _ e1,e2⟩
def ZrO(tl:TE):TI:=fun σ H R=>tl σ H fun x H1=>∃v a kvs,x=.ref v/\H1 v=some (ZcE v a)/\H1 a=some (.dK kvs)/\∀o,R (Iti a o kvs) (upd H1 a (.frz o (.dK kvs)))
theorem Zlg{l:PySem.Expr}{tl:TE}{elts:List PySem.Expr}{x1:Nat}{pos:Pos}(hl:PE X l tl):PI X (.Tuple elts x1 pos) l (ZrO tl):=by
 intro pins s σ H R I h;refine thn (hl pins s σ H _ I h) fun v s1 ⟨x,H1,I1,r1,q1⟩=> ?_;obtain⟨v,a,kvs,e,hv,hq,q⟩:=q1;subst e;cases r1;have vw:s1.heap.IsItemsView v a:=(I1.hok v _ hv).1;obtain⟨o,ho,I2⟩:=ZhF I1 hq;obtain⟨z1,z2,vs0,z3,o',es,ep,z4,z5,z6,z7⟩:=I1.hok a _ hq;rw[ho] at z4
 cases z4;obtain⟨hs,vs,rv,hm⟩:=Zjh I2.hok Zc z6;have el:kvs.length=vs.length:=Paired.length rv;refine wpAny_pyIter_items vw hm ?_;refine⟨s1.heap.objs.size,[s1.heap.objs.size],_,_,_,rfl,I2.kept (t':=s1.toks) fun b o e=>Heap.get?_push_of_some _ e,Zmz a _ z6 vs.length el.symm,⟨_,_,Heap.get?_push_size _ rfl⟩,fun b hb=> ?_,q o⟩;have e:b=s1.heap.objs.size:=by simpa using hb
 subst e;exact I2.fpOk (Nat.le_refl _) (I2.hok.fresh (Nat.le_refl _))
def ZmA(H₀:Hp)(a:Addr)(H H':Hp):Prop:=(∀o u,H₀ a≠some (.frz o u))/\∃o u,H a=some (.frz o u)/\H'=upd H a u
def ZsO(H₀:Hp)(a:Addr)(t:TS):TS:=fun D σ H=>t {nx:=fun σ' H1=>∃H2,ZmA H₀ a H1 H2/\D.nx σ' H2,rt:=fun v H1=>∃H2,ZmA H₀ a H1 H2/\D.rt v H2,bk:=fun σ' H1=>∃H2,ZmA H₀ a H1 H2/\D.bk σ' H2,ct:=fun σ' H1=>∃H2,ZmA H₀ a H1 H2/\D.ct σ' H2} σ H
theorem ZqE{st:Stmt}{t:TS}(a:Addr)(h:PS X st t):PS X st (ZsO X.H₀ a t):=fun pins s σ H D I q=>
 thn (h pins s σ H _ I q) fun f _ q1=>by
  cases f with
  |next=>obtain⟨σ7,H7,I7,H2,⟨hf,o,u,e1,e2⟩,q7⟩:=q1;exact⟨σ7,H2,by rw[e2];exact ZdI I7 e1 hf,q7⟩
  |cont=>obtain⟨σ7,H7,I7,H2,⟨hf,o,u,e1,e2⟩,q7⟩:=q1;exact⟨σ7,H2,by rw[e2];exact ZdI I7 e1 hf,q7⟩
  |brk=>obtain⟨σ7,H7,I7,H2,⟨hf,o,u,e1,e2⟩,q7⟩:=q1;exact⟨σ7,H2,by rw[e2];exact ZdI I7 e1 hf,q7⟩
  |ret v=>obtain⟨x7,σ7,H7,I7,r7,H2,⟨hf,o,u,e1,e2⟩,q7⟩:=q1;exact⟨x7,σ7,H2,by rw[e2];exact ZdI I7 e1 hf,r7,q7⟩
end
end L3
namespace L3
open PySem PySem.Spec PyProof.Rows L2
theorem Zji{A B:Hp->Prop}{σ:L2.St}{H:Hp}(h:A H):Zlc σ H (fun b H5=>if b=true then A H5 else B H5):=by
 unfold Zlc;exact JZ h
structure ZsP (n:Nat) (Pv:Nat->List V->Hp->Prop) (D:Addr) (J:It) (own:List Str) (fr:List (Str×Nat)) (g:TG) (tc:TT) (te:TE) (σ:L2.St) (H:Hp) (Q:VK):Prop where
 hn:n<=sizeLine
 h0:Pv 0 [] (upd H D (.lst []))
 hlen:∀i ys H2,Pv i ys H2->ys.length<=i
 st:∀i ys zs H2 H3,H2 D=some (.lst zs)->(∀b u,b≠D->H2 b=some u->H3 b=some u)->Pv i ys H2->Pv i ys H3
 hgo:∀i ys H2,Pv i ys H2->i<n->J.go i H2
 hstop:∀ys H2,Pv n ys H2->H2 D=some (.lst ys)->J.stop n H2/\Q (.ref D) H2
 hstep:∀i x ys H2 H3,Pv i ys H2->H2 D=some (.lst ys)->i<n->J.yld i H2 x H3->∀(RT:V->Hp->Prop) (RF:Hp->Prop),(∀v H6,H6 D=some (.lst ys)->Pv (i+1) (ys++[v]) H6->RT v H6)->(∀H5,H5 D=some (.lst ys)->Pv (i+1) ys H5->RF H5)->
   g x (frY own fr σ) H3 fun σ3 H4=>Ext (frY own fr σ) σ3/\tc σ3 H4 fun b H5=>if b=true then te σ3 H5 RT else RF H5
theorem ZfN{J:It}{own:List Str}{fr:List (Str×Nat)}{g:TG}{tc:TT}{te:TE}{σ:L2.St}{H:Hp}{Q:VK}(h:∀D,H D=none->∃n Pv,ZsP n Pv D J own fr g tc te σ H Q):Zp7 J own fr g tc te σ H Q:=by
 intro D hD;obtain⟨n,Pv,hn,h0,hlen,st,hgo,hstop,hstep⟩:=h D hD;refine⟨fun i m ys H2=>m=n-i/\i<=n/\H2 D=some (.lst ys)/\Pv i ys H2,⟨n,by simp,Nat.zero_le _,Zc,h0⟩, ?_⟩;rintro i m ys H2 ⟨rfl,hi,d2,p2⟩;refine⟨d2, ?_⟩
 by_cases hlt:i<n
 ·refine .inr ⟨hgo i ys H2 p2 hlt,fun zs H'=>H' D=some (.lst zs)/\Pv (i+1) zs H',fun zs H' ⟨e1,e2⟩=>⟨n-(i+1),by omega,rfl,hlt,e1,e2⟩,fun x H' y=> ?_⟩;have l2:=hlen i ys H2 p2;exact hstep i x ys H2 H' p2 d2 hlt y _ _ (fun v H6 e6 p6=>⟨e6,by omega,Zc,st _ _ _ _ _ e6 (fun b u nb e=>by rw[Zm nb];exact e) p6⟩) fun H5 e5 p5=>⟨e5,p5⟩
 ·have e:i=n:=by omega
  subst e;exact .inl (hstop ys H2 p2 d2)
theorem Xa{J:It}{own:List Str}{fr:List (Str×Nat)}{g:TG}{tc:TT}{te:TE}{σ:L2.St}{H:Hp}{Q:VK}(n:Nat)(out:Nat->List V)(hn:n<=sizeLine)(ho:∀i,(out i).length<=1)
  (hgo:∀i H2,Zy H H2->i<n->J.go i H2)(hstop:∀H2,Zy H H2->J.stop n H2)
  (hstep:∀i x H2 H3,Zy H H2->i<n->J.yld i H2 x H3->∀(RT:V->Hp->Prop) (RF:Hp->Prop),(∀v H6,out i=[v]->Zy H2 H6->RT v H6)->(∀H5,out i=[]->Zy H2 H5->RF H5)->
   g x (frY own fr σ) H3 fun σ3 H4=>Ext (frY own fr σ) σ3/\tc σ3 H4 fun b H5=>if b=true then te σ3 H5 RT else RF H5)
  (q:∀D H2,H D=none->Zy H H2->H2 D=some (.lst ((List.range n).flatMap out))->Q (.ref D) H2):Zp7 J own fr g tc te σ H Q:=by
 have len:∀i,((List.range i).flatMap out).length<=i:=by
  intro i
  induction i with
  |zero=>simp
  |succ i ih=>
   have h1:=ho i;rw[List.range_succ,List.flatMap_append,List.length_append];simp only [List.flatMap_cons,List.flatMap_nil,List.append_nil];omega
 have nxt:∀i,(List.range (i+1)).flatMap out=(List.range i).flatMap out++out i:=fun i=>by
  rw[List.range_succ,List.flatMap_append];simp
 refine ZfN fun D hD=>⟨n,fun i ys H2=>ys=(List.range i).flatMap out/\Zy H H2,hn,⟨rfl,fun b u e=>by rw[Zm (Zd e hD)];exact e⟩,fun i ys H2 p=>by rw[p.1];exact len i,fun i ys zs H2 H3 _ k p=>⟨p.1,fun b u e=>k b u (Zd e hD) (p.2 b u e)⟩,
  fun i ys H2 p lt=>hgo i H2 p.2 lt,fun ys H2 p d=>⟨hstop H2 p.2,q D H2 hD p.2 (by rw[<-p.1];exact d)⟩,fun i x ys H2 H3 p d lt y RT RF rt rf=> ?_⟩
 exact hstep i x H2 H3 p.2 lt y RT RF (fun v H6 e s=>rt v H6 (s _ _ d) ⟨by rw[nxt,e,p.1],p.2.trans s⟩) fun H5 e s=>rf H5 (s _ _ d) ⟨by rw[nxt,e,List.append_nil,p.1],p.2.trans s⟩
theorem Jm{α β:Type}(f:α->β):∀l:List α,l.flatMap (fun a=>[f a])=l.map f
 |[]=>rfl
 |a::l=>by rw[List.flatMap_cons,List.map_cons,Jm f l];rfl
theorem ZcF{α β:Type}(xs:List α)(f:α->β)(d:β):(List.range xs.length).map (fun i=>((xs[i]?).map f).getD d)=xs.map f:=by
 apply List.ext_getElem
 ·simp
 ·intro i h1 h2;have h3:i<xs.length:=by simpa using h1
  simp[h3]
theorem Xq{α β:Type}(f:α->List β):∀xs:List α,(List.range xs.length).flatMap (fun i=>((xs[i]?).map f).getD [])=xs.flatMap f
 |[]=>rfl
 |x::xs=>by
  rw[List.length_cons,List.range_succ_eq_map,List.flatMap_cons,List.flatMap_map,List.flatMap_cons,<-Xq f xs]
  rfl
theorem Zk4{J:It}{n:Nat}{g:TG}{tb:TS}{D:ZjO}{σ:L2.St}{H:Hp}(Pv:Nat->L2.St->Hp->Prop)(h0:Pv 0 σ H)(hgo:∀i σ H,i<n->Pv i σ H->J.go i H)(hstop:∀σ H,Pv n σ H->J.stop n H/\D.nx σ H)
  (hs:∀i x σ H H',i<n->Pv i σ H->J.yld i H x H'->g x σ H' fun σ2 H2=>tb {D with nx:=Pv (i+1),ct:=Pv (i+1),bk:=D.nx} σ2 H2):
  ∃W:Nat->Nat->L2.St->Hp->Prop,(∃m,W 0 m σ H)/\∀i m σ H,W i m σ H->
   (J.stop i H/\D.nx σ H)\/(J.go i H/\∃N:L2.St->Hp->Prop,(∀σ' H',N σ' H'->∃m',m'<m/\W (i+1) m' σ' H')/\∀x H',J.yld i H x H'->g x σ H' fun σ2 H2=>tb {D with nx:=N,ct:=N,bk:=D.nx} σ2 H2):=by
 refine⟨fun i m σ H=>m=n-i/\i<=n/\Pv i σ H,⟨n,by simp,Nat.zero_le _,h0⟩, ?_⟩;rintro i m σ H ⟨rfl,hi,p⟩
 by_cases hlt:i<n
 ·exact .inr ⟨hgo i σ H hlt p,Pv (i+1),fun σ' H' p'=>⟨n-(i+1),by omega,rfl,hlt,p'⟩,fun x H' y=>hs i x σ H H' hlt p y⟩
 ·have e:i=n:=by omega
  subst e;exact .inl (hstop σ H p)
theorem Zpb:bootBuiltins "any"=some (.builtin "any"):=by decide+kernel
theorem Jt:bootBuiltins "sorted"=some (.builtin "sorted"):=by decide+kernel
theorem Zpc:bootBuiltins "tuple"=some (.type "tuple"):=by decide+kernel
section
variable {X:Cx} {pins:List (Addr×Obj)} {σ:L2.St} {H:Hp} {s:Shared}
theorem ZrP{h:Heap}{L:Addr}{m m':Str->Option Value}(a:h.Ns L m)(b:h.Ns L m'):m=m':=by
 obtain⟨o,es,ep,e1,e2,_,e3⟩:=a;obtain⟨o',es',ep',f1,f2,_,f3⟩:=b;rw[e1] at f1
 cases f1;rw[e2] at f2
 cases f2;exact funext fun x=>(e3 x).symm.trans (f3 x)
theorem ZmB{m:Str->Option Value}{g:Heap}{tk:Nat}{more:List (Addr×Obj)}(I:L2.Inv X pins σ H s)(hm:s.heap.Ns X.env.locals m)(F:Fr X.base X.env.locals g m)(N:News X.base X.env.locals g (more++Zhf X.base s.heap X.env.locals)):L2.Inv X pins σ H {s with heap:=g,toks:=tk}:=by
 have kp:∀b o,b≠X.env.locals->s.heap.get? b=some o->g.get? b=some o:=fun b o nb e=>by
  cases hb:X.base.get? b with
  |some o'=>
   have e2:=I.bk b o' hb;rw[e] at e2
   cases e2;exact F.keep b o hb
  |none=>exact(N (b,o) (List.mem_append_right _ (ZgM nb hb e))).1
 have nt:∀b u,H b=some u->b≠X.env.locals:=fun b u e z=>by rw[z,I.free] at e;cases e
 refine I.step (g':=s.gens) (d':=s.drawn) (ch:=[]) (fun _ z=>nomatch z) (fun b o nb _ _ e _=>kp b o nb e) (fun b o nb _ _ e _=>⟨o.slots,kp b o nb e⟩) (fun _ _ _ _ n=>n) (fun b o _ e=> ?_) (fun _ _ e=>e) (fun _ _ _ e=>e) (fun _ ps e=>⟨#[],by rw[e];simp⟩)
  (fun m' hm'=>by rw[ZrP hm' hm];exact F.ns) (fun b u e=>(I.hok b u e).stay (fun c v hc z=>kp c v ?_ z) (fun _ z=>z) fun _ _ z=>z) I.bare
 ·by_cases nb:b=X.env.locals
  ·obtain⟨o',_,_,e',_⟩:=F.ns;exact⟨o',by rw[nb];exact e'⟩
  ·exact⟨o,kp b o nb e⟩
 ·rcases hc with rfl|hc
  ·exact nt _ _ e
  ·exact nt _ _ hc
end
section
variable {X:Cx}
theorem ZhG(hc:X.calm=true):Zbf X (.builtin "any") (fun xs H Q=>∃(p:Addr) (bs:List Bool),xs=[.ref p]/\SqL X.K H p (bs.map V.bl)/\Q (.bl (bs.any id)) H):=by
 intro pins s σ H xs us Q I r h;obtain⟨p,bs,rfl,hq,q⟩:=h;obtain⟨u,rfl,rx⟩:=Zbx r;cases rx;obtain⟨its,r',pl,hz⟩:=I.list hq;have hb:=ZhE r';have hlt:p<s.heap.objs.size:=pl.lt;refine call_any_walk (wpAny_pyIter_list pl.isList ?_);refine⟨s.heap.objs.size,[s.heap.objs.size,p],[s.heap.objs.size],its.toArray.size,_,_,fun i=>(bs[i]?).getD false,rfl,Walks.list (A:=X.A.in1) (I.ok.hd hc) _ p (Nat.ne_of_lt hlt) its.toArray,
  ⟨⟨_,Heap.get?_push_size _ rfl,rfl,rfl⟩,pl.isList.push _⟩,fun i v s' Q' E' hP hQ=> ?_,fun h' tk hk=> ?_⟩
 ·obtain⟨bit,ebit,rfl⟩:=hb.get i v (by simpa using hP);simp only [ebit,Option.getD_some] at hQ
  exact wpAny_truthy_bool hQ
 ·have e:((List.range its.toArray.size).any fun i=>(bs[i]?).getD false)=bs.any id:=by
   rw[List.size_toArray,hb.length];exact LSm.range_any bs
  rw[e];exact⟨.bl (bs.any id),H,I.kept (LSm.kept_iter hk),rfl,q⟩
theorem ZhH{prog:Program}{w:World}{A:Around}{E:Value->Shared->Prop}{s:Shared}{T:String}{r d:Addr}{n:Nat}{P:Nat->Value->Prop}{OK:Heap->Prop}{Q:Value->Shared->Prop}(K:PySem.W.KdlSrc prog w T r d n P OK)(hh:A.handled=none)(hok:OK s.heap)(hn:n<=sizeLine)
  (h:∀(h':Heap) (tk:Nat) (vs:List Value),(∀b o,s.heap.get? b=some o->h'.get? b=some o)->vs.length=n->(∀(j:Nat) (v:Value),vs[j]? =some v->P j v)->
   wpAny (model prog w) A.in1 (call (.builtin "list.sort") [.ref h'.objs.size]) (fun _ s'=>Q (.ref h'.objs.size) s') E {s with heap:=h'.push (seqObj "list" vs.toArray 0),toks:=tk}):wpAny (model prog w) A (call (.builtin "sorted") [.ref r]) Q E s:=by
 have laid:∀(g:Heap) (tk:Nat) (acc:Array Value),(∀b o,s.heap.get? b=some o->g.get? b=some o)->acc.size=n/\(∀j v,acc[j]? =some v->P j v)->
   wpAny (model prog w) A.in1 (newList acc.toList) (fun l s2=>wpAny (model prog w) A.in1 (call (.builtin "list.sort") [l]) (fun _ s'=>Q l s') E s2) E {s with heap:=g,toks:=tk}:=fun g tk acc hk ha=>by
  have el:acc.toList.length=n:=(Array.length_toList ..).trans ha.1;exact wpAny_newList (h g tk acc.toList hk el fun j v z=>ha.2 j v ((Array.getElem?_toList ..).symm.trans z)) (el▸hn)
 refine Calls.call_function_entry kind_sorted plain_sorted entry_sorted (args_sorted1 (.ref r)) ?_;unfold Builtin.«sorted»;refine wpAny_bind (m:=checkCount "sorted" 1 1 _) (wpAny_pure (wpAny_bind ?_));exact PySem.W.kdu_collect (A:=A.in1) K hh hok hn fun g tk acc hk ha=>wpAny_bind (wpAny_mono (laid g tk acc hk ha) (fun l s2 z=>wpAny_bind (wpAny_holding (wpAny_mono z (fun _ s3 y=>wpAny_pure ⟨_,rfl,y⟩) fun _ _ y=>y))) fun _ _ y=>y)
theorem ZfO{prog:Program}{w:World}{A:Around}{E:Value->Shared->Prop}{s:Shared}{a:Addr}{vs:List Value}{ss:List Str}{n:Nat}{Q:Value->Shared->Prop}(ho:s.heap.get? a=some (seqObj "list" vs.toArray n))(hS:StrsAre vs ss)(h64:vs.length<64)
  (h:∀(out:Array Value) (ss':List Str),StrsAre out.toList ss'->ss'.Perm ss->sortedS ss'=true->Q .none {s with heap:=sortedHeap s.heap a vs out}):
  wpAny (model prog w) A (call (.builtin "list.sort") [.ref a]) Q E s:=by
 refine wpAny_call_entry slot_list_sort ⟨_,ho,rfl⟩ entry_list_sort (list_sort_treeK strKind_oneLt ho hS.keysOf (fun v₁ v₂ rest e=>keyKind_strs (by rw[<-e];exact hS)) h64 fun st' hp hs=>⟨_,rfl, ?_⟩) (args_list_sort _)
 obtain⟨to,z⟩:=sorted_out_str hS hp hs;exact h _ to z.1 z.2.1 z.2.2
theorem Zlh:∀{vs:List Value} {ss:List Str},vs.length=ss.length->(∀(j:Nat) (v:Value),vs[j]? =some v->∃x t,ss[j]? =some x/\v=.str x t)->StrsAre vs ss
 |[],[],_,_=> .nil
 |[],_::_,lens,_=>nomatch lens
 |_::_,[],lens,_=>nomatch lens
 |v::vs,x::ss,h,k=>by
  obtain⟨y,t,e,rfl⟩:=k 0 v rfl;cases e;exact .cons x t (Zlh (by simpa using h) fun j w e=>k (j+1) w (by simpa using e))
theorem Zd5:∀{us:List Value} {ys:List Str},StrsAre us ys->Yc (ys.map V.str) us
 |_,_,.nil=> .nil
 |_,_,.cons y t r=> .cons ⟨t,rfl⟩ (Zd5 r)
theorem ZeU(hc:X.calm=true):Zbf X (.builtin "sorted") (fun xs H Q=>∃(a:Addr) (ks:List (Str×V)),xs=[.ref a]/\H a=some (.dK (ks.map fun kv=>(Sum.inr kv.1,kv.2)))/\ks.length<64/\
  ∀ss,ss.Perm (ks.map (·.1))->sortedS ss=true->∀p,H p=none->Q (.ref p) (upd H p (.lst (ss.map V.str)))):=by
 intro pins s σ H xs us Q I r h;obtain⟨a,ks,rfl,hq,h64,q⟩:=h;obtain⟨u,rfl,rx⟩:=Zbx r;cases rx;obtain⟨z1,z2,vs,z3,z4⟩:=I.hok a _ hq;obtain⟨ep,hat⟩:=z4.dictAt;have el:vs.length=ks.length:=by have:=Paired.length z3;rw[List.length_map] at this;exact this.symm
 refine ZhH (PySem.W.kdl_dict (knd:=Yy X.prog X.w) (kvs:=vs) (ep:=ep) z2) (I.ok.hd hc) hat (by rw[sizeLine_eq,el];omega) fun h' tk ws hk hl hv=> ?_
 have hS:StrsAre ws (ks.map (·.1)):=by
  refine Zlh (by rw[hl,el,List.length_map]) fun j v e=> ?_;obtain⟨k,x,e1,e2⟩:=hv j v e;have hlt:j<ks.length:=by
   have:=(List.getElem?_eq_some_iff.mp e1).1;omega
  obtain⟨u2,e3,_⟩:=Znm z3 (i:=j) (p:=(Sum.inr ks[j].1,ks[j].2)) (by rw[List.getElem?_map,List.getElem?_eq_getElem hlt];rfl)
  rw[e1] at e3
  have e4:k=Sum.inr ks[j].1:=congrArg Prod.fst (Option.some.inj e3);subst e4;obtain⟨t,rfl⟩:∃t,v=Value.str ks[j].1 t:=Zmy (k:=Sum.inr ks[j].1) e2;exact⟨_,t,by rw[List.getElem?_map,List.getElem?_eq_getElem hlt];rfl,rfl⟩
 refine ZfO (Heap.get?_push_size _ rfl) hS (by omega) fun out ss' o1 o2 o3=> ?_;obtain⟨e,he⟩:=sortedHeap_at (h:=h'.push (seqObj "list" ws.toArray 0)) (out:=out) (Heap.get?_push_size (o:=seqObj "list" ws.toArray 0) h' rfl);have hz:(ss'.map V.str).length<=sizeLine:=by
  rw[List.length_map,o2.length_eq,List.length_map,sizeLine_eq];omega
 have I1:L2.Inv X pins σ H {s with heap:=h',toks:=tk}:=I.kept hk;refine⟨.ref h'.objs.size,_,I1.laid (a:=h'.objs.size) (o:=.lst (ss'.map V.str)) (t':=tk) (fun b o e1=> ?_) (Nat.le_refl _) ⟨hz,out.toList,e,Zd5 o1,he⟩,rfl,q ss' o2 o3 _ I1.fresh⟩;have hb:b<h'.objs.size:=Heap.lt_size e1;rw[sortedHeap_old (Nat.ne_of_lt hb) (by rw[size_push'];exact Nat.lt_succ_of_lt hb)]
 exact Heap.get?_push_of_some _ e1
end
def Zjj(a:Addr)(kvs:List (Key×V))(H H2:Hp):Prop:=(∀b u,b≠a->H b=some u->H2 b=some u)/\∃o,H2 a=some (.frz o (.dK kvs))
theorem Zjj.of{a:Addr}{kvs:List (Key×V)}{H H2:Hp}{o:Obj}(s:Zy (upd H a (.frz o (.dK kvs))) H2):Zjj a kvs H H2:=⟨fun b u n e=>s b u (by rw[Zm n];exact e),o,s _ _ Zc⟩
theorem Zjj.thaw{H₀:Hp}{a:Addr}{kvs:List (Key×V)}{H H2:Hp}(f:Zjj a kvs H H2)(ha:H a=some (.dK kvs))(hf:∀o u,H₀ a≠some (.frz o u)):ZmA H₀ a H2 (upd H2 a (.dK kvs))/\Zy H (upd H2 a (.dK kvs)):=by
 obtain⟨o,e⟩:=f.2;refine⟨⟨hf,o,_,e,rfl⟩,fun b u h=> ?_⟩
 by_cases hb:b=a
 ·subst hb;rw[ha] at h
  cases h;exact Zc
 ·rw[Zm hb];exact f.1 b u hb h
end L3
namespace L3
open PySem PySem.Spec PyProof.Rows L2
def EqP(P:Program)(w:World)(A:Around)(s:Shared)(y x:Value)(k:Bool):Prop:=∀(E:Value->Shared->Prop) (Q:Bool->Shared->Prop),Q k s->wpAny (model P w) A (eqBool y x) Q E s
def RcP(P:Program)(w:World)(A:Around)(s:Shared)(op:CmpOp)(y x:Value)(k:Bool):Prop:=∀(E:Value->Shared->Prop) (Q:Value->Shared->Prop),Q (.bool k) s->wpAny (model P w) A (richCompare op y x) Q E s
theorem EqP.refs{P:Program}{w:World}{A:Around}{s:Shared}{l b:Addr}{k:Bool}(n:l≠b)(h:RcP P w A s .Eq (.ref l) (.ref b) k):EqP P w A s (.ref l) (.ref b) k:=by
 intro E Q q;unfold eqBool;refine wpAny_holding (wpAny_ite_split (fun z=>absurd (Value.ref.inj (eq_of_beq z)) n) fun _=>wpAny_bind ?_);exact h E _ (wpAny_truthy_bool q)
abbrev Zli(d:Option Addr)(t:Array Value)(n:Nat)(sl:Array (Option Value)):Obj:={cls:=.type "list",dict:=d,data:=.seq t n,slots:=sl}
abbrev Zlj(d:Option Addr)(t:Array Value)(n:Nat)(sl:Array (Option Value)):Obj:={cls:=.type "tuple",dict:=d,data:=.seq t n,slots:=sl}
section
variable {P:Program} {w:World} (l b:Addr) (xs ys:Array Value) (n m:Nat) (d1 d2:Option Addr) (s1 s2:Array (Option Value)) (e:Nat->Bool)
theorem Zpd(hz:xs.size=ys.size)(c:Int)(hc:c=2\/c=3)(k:Nat):∀i:Nat,xs.size-i=k->MeetsIn P w (Builtin.«list.__eq__.loop» ⟨[.ref l,.ref b,rawInt i,rawInt c],[]⟩)
  (fun A R s=>s.heap.get? l=some (Zli d1 xs n s1)/\s.heap.get? b=some (Zli d2 ys m s2)/\(∀j (h1:j<xs.size) (h2:j<ys.size),EqP P w A.in1 s xs[j] ys[j] (e j))/\
   R (.ok (.ret (.bool (if c=2 then((List.range xs.size).drop i).all e else !((List.range xs.size).drop i).all e)))) s):=by
 induction k with
 |zero=>
  intro i hk A R s h;obtain⟨hq,gs,dr,tk,oss⟩:=s;obtain⟨u1,u2,ue,q⟩:=h;have v1:xs[((i:Nat):Int).toNat]? =none:=by simp;omega
  have v2:ys[((i:Nat):Int).toNat]? =none:=by simp;omega
  have v3:(List.range xs.size).drop i=[]:=by simp;omega
  rw[v3] at q
  rcases hc with rfl|rfl
  ·wp_walk using AutoSeq1.wpAny_loadPart' u1,AutoSeq1.wpAny_loadPart' u2
   rw[v1,v2]
   wp_walk using AutoSeq1.wpAny_loadPart' u1,AutoSeq1.wpAny_loadPart' u2
   show R (.ok (.ret (.bool (xs.size==ys.size)))) _;rw[hz,beq_self_eq_true];exact q
  ·wp_walk using AutoSeq1.wpAny_loadPart' u1,AutoSeq1.wpAny_loadPart' u2
   rw[v1,v2]
   wp_walk using AutoSeq1.wpAny_loadPart' u1,AutoSeq1.wpAny_loadPart' u2
   show R (.ok (.ret (.bool (xs.size !=ys.size)))) _;rw[hz,bne_self_eq_false];exact q
 |succ k ih=>
  intro i hk A R s h;obtain⟨hq,gs,dr,tk,oss⟩:=s;obtain⟨u1,u2,ue,q⟩:=h;have t1:i<xs.size:=by omega
  have t2:i<ys.size:=by omega
  have v1:xs[((i:Nat):Int).toNat]? =some xs[i]:=by simp[t1]
  have v2:ys[((i:Nat):Int).toNat]? =some ys[i]:=by simp[t2]
  have v3:(List.range xs.size).drop i=i::(List.range xs.size).drop (i+1):=by simp[List.drop_eq_getElem_cons,t1]
  have v4:((i:Int)+1)=((i+1:Nat):Int):=by push_cast;rfl
  rw[v3,List.all_cons] at q
  rcases hc with rfl|rfl
  ·wp_walk using AutoSeq1.wpAny_loadPart' u1,AutoSeq1.wpAny_loadPart' u2
   rw[v1,v2];refine wpAny_bind (ue i t1 t2 _ _ ?_);cases ei:e i with
   |true=>
    rw[ei,Bool.true_and] at q
    wp_walk
    rw[v4];refine⟨plainId_quiet MeetsSeq3.plain_eq_loop _,codeAny_builtin MeetsSeq3.entry_eq_loop ?_⟩;rw[Around.under_plainId MeetsSeq3.plain_eq_loop _];exact ih (i+1) (by omega) A R _ ⟨u1,u2,ue,q⟩
   |false=>
    rw[ei,Bool.false_and] at q
    wp_walk using AutoSeq1.wpAny_loadPart' u1,AutoSeq1.wpAny_loadPart' u2
    rw[v1,v2]
    wp_walk
    exact q
  ·wp_walk using AutoSeq1.wpAny_loadPart' u1,AutoSeq1.wpAny_loadPart' u2
   rw[v1,v2];refine wpAny_bind (ue i t1 t2 _ _ ?_);cases ei:e i with
   |true=>
    rw[ei,Bool.true_and] at q
    wp_walk
    rw[v4];refine⟨plainId_quiet MeetsSeq3.plain_eq_loop _,codeAny_builtin MeetsSeq3.entry_eq_loop ?_⟩;rw[Around.under_plainId MeetsSeq3.plain_eq_loop _];exact ih (i+1) (by omega) A R _ ⟨u1,u2,ue,q⟩
   |false=>
    rw[ei,Bool.false_and] at q
    wp_walk using AutoSeq1.wpAny_loadPart' u1,AutoSeq1.wpAny_loadPart' u2
    rw[v1,v2]
    wp_walk
    exact q
theorem ZrQ(hz:xs.size=ys.size):MeetsIn P w (Builtin.«list.__eq__» ⟨[.ref l,.ref b],[]⟩) (fun A R s=>s.heap.get? l=some (Zli d1 xs n s1)/\s.heap.get? b=some (Zli d2 ys m s2)/\
  (∀j (h1:j<xs.size) (h2:j<ys.size),EqP P w A.in1 s xs[j] ys[j] (e j))/\R (.ok (.ret (.bool ((List.range xs.size).all e)))) s):=by
 intro A R s h;obtain⟨hq,gs,dr,tk,oss⟩:=s;obtain⟨u1,u2,ue,q⟩:=h;have sub:=AutoSeq1.sub_list_list;have v0:¬(xs.size !=ys.size)=true:=by simp[hz]
 wp_walk using AutoSeq1.wpAny_loadPart' u1,AutoSeq1.wpAny_loadPart' u2
 refine⟨plainId_quiet MeetsSeq3.plain_eq_loop _,codeAny_builtin MeetsSeq3.entry_eq_loop ?_⟩;rw[Around.under_plainId MeetsSeq3.plain_eq_loop _];exact Zpd l b xs ys n m d1 d2 s1 s2 e hz 2 (.inl rfl) _ 0 rfl A R _ ⟨u1,u2,ue,by simpa using q⟩
theorem ZrR(hz:xs.size=ys.size):MeetsIn P w (Builtin.«list.__ne__» ⟨[.ref l,.ref b],[]⟩) (fun A R s=>s.heap.get? l=some (Zli d1 xs n s1)/\s.heap.get? b=some (Zli d2 ys m s2)/\
  (∀j (h1:j<xs.size) (h2:j<ys.size),EqP P w A.in1 s xs[j] ys[j] (e j))/\R (.ok (.ret (.bool (!(List.range xs.size).all e)))) s):=by
 intro A R s h;obtain⟨hq,gs,dr,tk,oss⟩:=s;obtain⟨u1,u2,ue,q⟩:=h;have sub:=AutoSeq1.sub_list_list;have v0:¬(xs.size !=ys.size)=true:=by simp[hz]
 wp_walk using AutoSeq1.wpAny_loadPart' u1,AutoSeq1.wpAny_loadPart' u2
 refine⟨plainId_quiet MeetsSeq3.plain_eq_loop _,codeAny_builtin MeetsSeq3.entry_eq_loop ?_⟩;rw[Around.under_plainId MeetsSeq3.plain_eq_loop _];exact Zpd l b xs ys n m d1 d2 s1 s2 e hz 3 (.inr rfl) _ 0 rfl A R _ ⟨u1,u2,ue,by simpa using q⟩
end
end L3
namespace L3
open PySem PySem.Spec PyProof.Rows L2
section
variable {P:Program} {w:World} (l b:Addr) (xs ys:Array Value) (n m:Nat) (d1 d2:Option Addr) (s1 s2:Array (Option Value)) (e:Nat->Bool)
abbrev Zb1(xs ys:Array Value)(e:Nat->Bool)(i:Nat):Bool:=((List.range (min xs.size ys.size)).drop i).all e&&xs.size==ys.size
theorem ZsQ:MeetsIn P w (Builtin.«tuple.__eq__» ⟨[.ref l,.ref b],[]⟩) (fun A R s=>s.heap.get? l=some (Zlj d1 xs n s1)/\s.heap.get? b=some (Zlj d2 ys m s2)/\
  (∀j (h1:j<xs.size) (h2:j<ys.size),EqP P w A.in1 s xs[j] ys[j] (e j))/\R (.ok (.ret (.bool (Zb1 xs ys e 0)))) s):=
 .of_wp fun A R s h=>by
  obtain⟨hq,gs,dr,tk,oss⟩:=s;obtain⟨u1,u2,ue,q⟩:=h;have sub:=AutoSeq1.sub_tuple_tuple;have zl:(xs.toList.zip ys.toList).length=min xs.size ys.size:=by simp
  wp_walk using AutoSeq1.wpAny_loadPart' u1,AutoSeq1.wpAny_loadPart' u2,wpAny_forIn_list _ (fun rest a s'=>a.1=none/\s'=⟨hq,gs,dr,tk,oss⟩/\∃i,rest=(xs.toList.zip ys.toList).drop i/\
   R (.ok (.ret (.bool (Zb1 xs ys e i)))) ⟨hq,gs,dr,tk,oss⟩) _
  case turn=>
   rintro⟨y,x⟩ rest a s' ⟨ha,rfl,i,zr,zq⟩;have lt:i<(xs.toList.zip ys.toList).length:=Nat.lt_of_not_le fun z=>by rw[List.drop_of_length_le z] at zr;cases zr
   have lm:i<min xs.size ys.size:=zl▸lt;have l1:i<xs.size:=by omega
   have l2:i<ys.size:=by omega
   rw[List.drop_eq_getElem_cons lt] at zr
   injection zr with zyx zrest
   obtain rfl:y=xs[i]:=by simpa using congrArg Prod.fst zyx
   obtain rfl:x=ys[i]:=by simpa using congrArg Prod.snd zyx
   have zd:(List.range (min xs.size ys.size)).drop i=i::(List.range (min xs.size ys.size)).drop (i+1):=by simp[List.drop_eq_getElem_cons,lm]
   unfold Zb1 at zq
   rw[zd,List.all_cons] at zq
   refine wpAny_bind (ue i l1 l2 _ _ ?_);cases ei:e i with
   |true=>
    rw[ei,Bool.true_and] at zq
    wp_walk
    exact⟨rfl,rfl,i+1,zrest,zq⟩
   |false=>
    rw[ei,Bool.false_and,Bool.false_and] at zq
    wp_walk
    exact⟨_,rfl,zq⟩
  case fin=>
   rintro⟨a1,a2⟩ s' ⟨ha,rfl,i,zr,zq⟩;simp only at ha
   subst ha;have ge:min xs.size ys.size<=i:=Nat.le_of_not_lt fun z=>by rw[List.drop_eq_getElem_cons (zl▸z:i<(xs.toList.zip ys.toList).length)] at zr;cases zr
   unfold Zb1 at zq
   rw[List.drop_of_length_le (by simpa using ge)] at zq
   wp_walk
   exact⟨_,rfl,by simpa [Builtin.Tuple.tupleCompareSizes] using zq⟩
  case h=>exact⟨rfl,rfl,0,rfl,q⟩
theorem ZsR:MeetsIn P w (Builtin.«tuple.__ne__» ⟨[.ref l,.ref b],[]⟩) (fun A R s=>s.heap.get? l=some (Zlj d1 xs n s1)/\s.heap.get? b=some (Zlj d2 ys m s2)/\
  (∀j (h1:j<xs.size) (h2:j<ys.size),EqP P w A.in1 s xs[j] ys[j] (e j))/\R (.ok (.ret (.bool (!Zb1 xs ys e 0)))) s):=
 .of_wp fun A R s h=>by
  obtain⟨hq,gs,dr,tk,oss⟩:=s;obtain⟨u1,u2,ue,q⟩:=h;have sub:=AutoSeq1.sub_tuple_tuple;have zl:(xs.toList.zip ys.toList).length=min xs.size ys.size:=by simp
  wp_walk using AutoSeq1.wpAny_loadPart' u1,AutoSeq1.wpAny_loadPart' u2,wpAny_forIn_list _ (fun rest a s'=>a.1=none/\s'=⟨hq,gs,dr,tk,oss⟩/\∃i,rest=(xs.toList.zip ys.toList).drop i/\
   R (.ok (.ret (.bool (!Zb1 xs ys e i)))) ⟨hq,gs,dr,tk,oss⟩) _
  case turn=>
   rintro⟨y,x⟩ rest a s' ⟨ha,rfl,i,zr,zq⟩;have lt:i<(xs.toList.zip ys.toList).length:=Nat.lt_of_not_le fun z=>by rw[List.drop_of_length_le z] at zr;cases zr
   have lm:i<min xs.size ys.size:=zl▸lt;have l1:i<xs.size:=by omega
   have l2:i<ys.size:=by omega
   rw[List.drop_eq_getElem_cons lt] at zr
   injection zr with zyx zrest
   obtain rfl:y=xs[i]:=by simpa using congrArg Prod.fst zyx
   obtain rfl:x=ys[i]:=by simpa using congrArg Prod.snd zyx
   have zd:(List.range (min xs.size ys.size)).drop i=i::(List.range (min xs.size ys.size)).drop (i+1):=by simp[List.drop_eq_getElem_cons,lm]
   unfold Zb1 at zq
   rw[zd,List.all_cons] at zq
   refine wpAny_bind (ue i l1 l2 _ _ ?_);cases ei:e i with
   |true=>
    rw[ei,Bool.true_and] at zq
    wp_walk
    exact⟨rfl,rfl,i+1,zrest,zq⟩
   |false=>
    rw[ei,Bool.false_and,Bool.false_and] at zq
    wp_walk
    exact⟨_,rfl,zq⟩
  case fin=>
   rintro⟨a1,a2⟩ s' ⟨ha,rfl,i,zr,zq⟩;simp only at ha
   subst ha;have ge:min xs.size ys.size<=i:=Nat.le_of_not_lt fun z=>by rw[List.drop_eq_getElem_cons (zl▸z:i<(xs.toList.zip ys.toList).length)] at zr;cases zr
   unfold Zb1 at zq
   rw[List.drop_of_length_le (by simpa using ge)] at zq
   wp_walk
   exact⟨_,rfl,by simpa [Builtin.Tuple.tupleCompareSizes,bne] using zq⟩
  case h=>exact⟨rfl,rfl,0,rfl,q⟩
end
theorem Zbs{c:Bool}{Q E:Value->Shared->Prop}{s:Shared}(q:Q (.bool c) s):wants (fun v s'=>v≠.notImplemented/\Q v s') E (.ok (.ret (.bool c))) s:=⟨(fun z=>nomatch z),q⟩
section
variable {P:Program} {w:World} {A:Around} {s:Shared} {l b:Addr} {xs ys:Array Value} {e:Nat->Bool}
theorem Zpe(hl:s.heap.IsList l xs)(hb:s.heap.IsList b ys)(hz:xs.size=ys.size)(hu:A.units<cLine)(he:∀j (h1:j<xs.size) (h2:j<ys.size),EqP P w A.in1 s xs[j] ys[j] (e j)):RcP P w A s .Eq (.ref l) (.ref b) ((List.range xs.size).all e)/\RcP P w A s .NotEq (.ref l) (.ref b) (!(List.range xs.size).all e):=by
 obtain⟨⟨c1,d1,t1,s1⟩,o1,k1,n,e1⟩:=id hl;obtain⟨⟨c2,d2,t2,s2⟩,o2,k2,m,e2⟩:=id hb;simp only at k1 e1 k2 e2
 subst k1 e1 k2 e2;exact⟨fun E Q q=>wpAny_richCompare_same_room hl.typeIs hb.typeIs F.slot_list_eq (call_meetsIn F.slot_list_eq hl.typeIs F.entry_list_eq (F.args_list_eq_2 _ _) (ZrQ l b xs ys n m d1 d2 s1 s2 e hz) ⟨o1,o2,he,Zbs q⟩) hu,
  fun E Q q=>wpAny_richCompare_same_room hl.typeIs hb.typeIs F.slot_list_ne (call_meetsIn F.slot_list_ne hl.typeIs F.entry_list_ne (F.args_list_ne_2 _ _) (ZrR l b xs ys n m d1 d2 s1 s2 e hz) ⟨o1,o2,he,Zbs q⟩) hu⟩
theorem Zjk(hl:s.heap.IsList l xs)(hb:s.heap.IsList b ys)(hz:xs.size≠ys.size)(hu:A.units<cLine):RcP P w A s .Eq (.ref l) (.ref b) false/\RcP P w A s .NotEq (.ref l) (.ref b) true:=
 ⟨fun E Q q=>SeqAt.RcAt.lists_lengths hl hb (by simpa using hz) hu P w E Q q,fun E Q q=>SeqAt.RcNeAt.lists_lengths hl hb (by simpa using hz) hu P w E Q q⟩
theorem ZsS(hl:s.heap.IsTuple l xs)(hb:s.heap.IsTuple b ys)(hu:A.units<cLine)(he:∀j (h1:j<xs.size) (h2:j<ys.size),EqP P w A.in1 s xs[j] ys[j] (e j)):RcP P w A s .Eq (.ref l) (.ref b) (Zb1 xs ys e 0)/\RcP P w A s .NotEq (.ref l) (.ref b) (!Zb1 xs ys e 0):=by
 obtain⟨⟨c1,d1,t1,s1⟩,o1,k1,n,e1⟩:=id hl;obtain⟨⟨c2,d2,t2,s2⟩,o2,k2,m,e2⟩:=id hb;simp only at k1 e1 k2 e2
 subst k1 e1 k2 e2;exact⟨fun E Q q=>wpAny_richCompare_same_room hl.typeIs hb.typeIs F.slot_tuple_eq (call_meetsIn F.slot_tuple_eq hl.typeIs F.entry_tuple_eq (F.args_tuple_eq_2 _ _) (ZsQ l b xs ys n m d1 d2 s1 s2 e) ⟨o1,o2,he,Zbs q⟩) hu,
  fun E Q q=>wpAny_richCompare_same_room hl.typeIs hb.typeIs F.slot_tuple_ne (call_meetsIn F.slot_tuple_ne hl.typeIs F.entry_tuple_ne (F.args_tuple_ne_2 _ _) (ZsR l b xs ys n m d1 d2 s1 s2 e) ⟨o1,o2,he,Zbs q⟩) hu⟩
def dEq(a b:List (Key×V)):Bool:=a.length==b.length&&a.all fun kv=>match Yp b kv.1 with|some u=>eqV kv.2 u|none=>false
theorem Zno{kb:List (Key×V)}{vb:List (Key×Value)}(rb:KV kb vb)(fb:∀kv∈kb,Jl kv.2=true){ka:List (Key×V)}{va:List (Key×Value)}(ra:KV ka va)(fa:∀kv∈ka,Jl kv.2=true):
  PySem.W.KeqHits A s vb va (ka.all fun kv=>match Yp kb kv.1 with|some u=>eqV kv.2 u|none=>false):=by
 induction ra with
 |nil=>exact .nil
 | @cons p q ps qs h t ih=>
  obtain⟨k,v⟩:=p;obtain⟨k',u⟩:=q;obtain⟨e1,e2⟩:=h;have e1:k=k':=e1;subst e1;have e2:ZX v u:=e2;have fr:=ih fun kv hm=>fa kv (List.mem_cons_of_mem _ hm);have fv:Jl v=true:=fa (k,v) (List.mem_cons_self ..);have rv:=KV.val rb k;rw[List.all_cons];cases hv:Yp kb k with
  |none=>
   rw[hv] at rv
   exact .miss (ZcX.none_of rv)
  |some y=>
   rw[hv] at rv
   cases hw:valueAt vb k with
   |none=>rw[hw] at rv;exact rv.elim
   |some u'=>
    rw[hw] at rv
    have fy:Jl y=true:=by
     unfold Yp at hv
     cases hf:kb.find? (fun kv=>decide (kv.1=k)) with
     |none=>rw[hf] at hv;exact nomatch hv
     |some p=>rw[hf] at hv;cases hv;exact fb p (List.mem_of_find?_eq_some hf)
    exact .hit hw (ZjU e2 rv fv fy) fr
theorem ZrS{ka kb:List (Key×V)}{va vb:List (Key×Value)}(ha:(l==sysModules)=false)(hb:(b==sysModules)=false)(da:s.heap.DictOf (Yy P w) l va)(db:s.heap.DictOf (Yy P w) b vb)(ra:KV ka va)(rb:KV kb vb)
  (fa:∀kv∈ka,Jl kv.2=true)(fb:∀kv∈kb,Jl kv.2=true)(hu:A.units<cLine):RcP P w A s .Eq (.ref l) (.ref b) (dEq ka kb)/\RcP P w A s .NotEq (.ref l) (.ref b) (!dEq ka kb):=by
 have e1:ka.length=va.length:=Paired.length ra;have e2:kb.length=vb.length:=Paired.length rb;unfold dEq;rw[e1,e2];exact⟨fun E Q q=>PySem.W.keq_eq ha hb da db hu (fun _=>Zno rb fb ra fa) q,fun E Q q=>PySem.W.keq_ne ha hb da db hu (fun _=>Zno rb fb ra fa) q⟩
end
end L3
namespace L3
open PySem PySem.Spec PyProof.Rows L2
inductive Dt where
 |v (x:V)|lst (ds:List Dt)|tup (ds:List Dt)|dct (kvs:List (Key×V))
inductive Rep (K:PySem.W.Frag) (H:Hp):Dt->V->Prop where
 |flat {x:V} (f:Jl x=true):Rep K H (.v x) x
 |lst {a:Addr} {ds:List Dt} {xs:List V} (h:SqL K H a xs) (r:Paired (Rep K H) ds xs):Rep K H (.lst ds) (.ref a)
 |tup {a:Addr} {ds:List Dt} {xs:List V} (h:SqT K H a xs) (r:Paired (Rep K H) ds xs):Rep K H (.tup ds) (.ref a)
 |dct {a:Addr} {kvs:List (Key×V)} (h:Rd H a (.dK kvs)) (f:∀kv∈kvs,Jl kv.2=true):Rep K H (.dct kvs) (.ref a)
abbrev Zlk(K:PySem.W.Frag)(H:Hp)(ds:List Dt)(xs:List V):Prop:=Paired (Rep K H) ds xs
def Jb:Nat->Dt->Dt->Bool
 |_,.v x,.v y=>eqV x y
 |n+1,.lst a,.lst b=>a.length==b.length&&(a.zip b).all fun p=>Jb n p.1 p.2
 |n+1,.tup a,.tup b=>(a.zip b).all (fun p=>Jb n p.1 p.2)&&a.length==b.length
 |_+1,.dct a,.dct b=>dEq a b
 |_,_,_=>false
def ZbA:Nat->Dt->Dt->Bool
 |_,.v _,.v _=>true
 |n+1,.lst a,.lst b=>(a.zip b).all fun p=>ZbA n p.1 p.2
 |n+1,.tup a,.tup b=>(a.zip b).all fun p=>ZbA n p.1 p.2
 |_+1,.dct _,.dct _=>true
 |_,_,_=>false
theorem Jz{x:V}(f:Jl x=true):eqV x x=true:=by
 cases x with
 |non=>rfl
 |bl b=>exact beq_self_eq_true b
 |int i=>exact beq_self_eq_true i
 |str z=>exact beq_self_eq_true z
 |_=>exact absurd (show false=true from f) Bool.false_ne_true
theorem Zpf{kvs:List (Key×V)}(nd:(kvs.map (·.1)).Nodup)(f:∀kv∈kvs,Jl kv.2=true):dEq kvs kvs=true:=by
 unfold dEq;rw[beq_self_eq_true,Bool.true_and,List.all_eq_true];intro kv hm;have e:Yp kvs kv.1=some kv.2:=by
  clear f
  induction kvs with
  |nil=>cases hm
  |cons p r ih=>
   rw[List.map_cons,List.nodup_cons] at nd
   rcases List.mem_cons.mp hm with rfl|more
   ·exact Yr rfl
   ·rw[Yn (fun z=>nd.1 (by rw[z];exact List.mem_map.mpr ⟨kv,more,rfl⟩))]
    exact ih nd.2 more
 rw[e];exact Jz (f kv hm)
theorem ZrT{H:Hp}{a:Addr}{k1 k2:List (Key×V)}(h1:Rd H a (.dK k1))(h2:Rd H a (.dK k2)):k1=k2:=by
 rcases h1 with h1|⟨o1,h1⟩<;>rcases h2 with h2|⟨o2,h2⟩<;>(rw[h1] at h2;cases h2;try rfl)
section
variable {X:Cx} {pins:List (Addr×Obj)} {σ:L2.St} {H:Hp} {s:Shared}
theorem Zpg{a:Addr}{kvs:List (Key×V)}(I:L2.Inv X pins σ H s)(h:Rd H a (.dK kvs)):(kvs.map (·.1)).Nodup:=by
 obtain⟨_,_,vs,rel,dd⟩:=ZdG I.hok h;rw[KV.keys rel];obtain⟨ep,hat⟩:=dd.dictAt;exact hat.nodup
theorem Zph(I:L2.Inv X pins σ H s):∀(n:Nat) (d e:Dt) (x:V),Rep X.K H d x->Rep X.K H e x->ZbA n d e=true->Jb n d e=true:=by
 have XJ:∀n,(∀(d e:Dt) (x:V),Rep X.K H d x->Rep X.K H e x->ZbA n d e=true->Jb n d e=true)->∀{ds es:List Dt} {xs:List V},Zlk X.K H ds xs->Zlk X.K H es xs->((ds.zip es).all fun p=>ZbA n p.1 p.2)=true->
   ds.length=es.length/\((ds.zip es).all fun p=>Jb n p.1 p.2)=true:=by
  intro n ih ds es xs r1
  induction r1 generalizing es with
  |nil=>intro r2 _;cases r2;exact⟨rfl,rfl⟩
  |cons h1 t1 ih2=>
   intro r2 lk;cases r2 with
   |cons h2 t2=>
    rw[List.zip_cons_cons,List.all_cons,Bool.and_eq_true] at lk
    obtain⟨z1,z2⟩:=ih2 t2 lk.2;refine⟨by simp[z1], ?_⟩;rw[List.zip_cons_cons,List.all_cons,Bool.and_eq_true];exact⟨ih _ _ _ h1 h2 lk.1,z2⟩
 intro n
 induction n with
 |zero=>
  intro d e x h1 h2 lk;cases h1 with
  |flat f=>
   cases h2 with
   |flat f2=>exact Jz f
   |_=>cases f
  |_=>cases h2<;>cases lk
 |succ n ih=>
  intro d e x h1 h2 lk;cases h1 with
  |flat f=>
   cases h2 with
   |flat f2=>exact Jz f
   |_=>cases f
  |lst q1 r1=>
   cases h2 with
   |lst q2 r2=>
    cases I.list_inj q1 q2;obtain⟨z1,z2⟩:=XJ n ih r1 r2 lk;show(_==_&&_)=true;rw[z1,beq_self_eq_true,Bool.true_and];exact z2
   |_=>cases lk
  |tup q1 r1=>
   cases h2 with
   |tup q2 r2=>
    cases I.tuple_inj q1 q2;obtain⟨z1,z2⟩:=XJ n ih r1 r2 lk;show(_&&_==_)=true;rw[z1,beq_self_eq_true,Bool.and_true];exact z2
   |_=>cases lk
  |dct q1 f1=>
   cases h2 with
   |dct q2 f2=>
    cases ZrT q1 q2;exact Zpf (Zpg I q1) f1
   |_=>cases lk
theorem Zhi{n:Nat}{f:Nat->Dt->Dt->Bool}:∀(ds es:List Dt),((ds.zip es).all fun p=>f n p.1 p.2)=(List.range (min ds.length es.length)).all fun j=>f n (ds.getD j (.v .non)) (es.getD j (.v .non))
 |[],es=>by simp
 |_::_,[]=>by simp
 |d::ds,e::es=>by
  rw[List.zip_cons_cons,List.all_cons,Zhi ds es,List.length_cons,List.length_cons,Nat.succ_min_succ,List.range_succ_eq_map,List.all_cons,List.all_map]
  rfl
theorem Zhj{K:PySem.W.Frag}:∀{ds:List Dt} {xs:List V} {us:List Value} (_:Zlk K H ds xs) (_:Yc xs us) (j:Nat) (h:j<us.length),∃x,Rep K H (ds.getD j (.v .non)) x/\ZX x us[j]
 |_,_,_,.nil,.nil,j,h=>absurd h (Nat.not_lt_zero _)
 |_,_,_,.cons r _,.cons v _,0,_=>⟨_,r,v⟩
 |_,_,_,.cons _ t,.cons _ vt,j+1,h=>by
  obtain⟨x,a,b⟩:=Zhj t vt j (by simpa using h);exact⟨x,a,b⟩
theorem Znp(I:L2.Inv X pins σ H s):∀(n:Nat) (d e:Dt) (x y:V) (u v:Value) (A:Around),Rep X.K H d x->Rep X.K H e y->ZX x u->ZX y v->ZbA n d e=true->A.units+n<cLine->
  EqP X.prog X.w A s u v (Jb n d e)/\(Jl x=false->RcP X.prog X.w A s .Eq u v (Jb n d e)/\RcP X.prog X.w A s .NotEq u v (!Jb n d e)):=by
 have flatEq:∀{x y:V} {u v:Value} {A:Around},Jl x=true->Jl y=true->ZX x u->ZX y v->EqP X.prog X.w A s u v (eqV x y):=fun fx fy rx ry E Q q=>ZjU rx ry fx fy X.prog X.w E Q q;have refl:∀{n:Nat} {d e:Dt} {a b:Addr} {A:Around},Rep X.K H d (.ref a)->Rep X.K H e (.ref b)->ZbA n d e=true->(RcP X.prog X.w A s .Eq (.ref a) (.ref b) (Jb n d e)/\RcP X.prog X.w A s .NotEq (.ref a) (.ref b) (!Jb n d e))->
   EqP X.prog X.w A s (.ref a) (.ref b) (Jb n d e)/\(Jl (.ref a)=false->RcP X.prog X.w A s .Eq (.ref a) (.ref b) (Jb n d e)/\RcP X.prog X.w A s .NotEq (.ref a) (.ref b) (!Jb n d e)):=fun{n d e a b A} h1 h2 lk rc=>by
  refine⟨?_,fun _=>rc⟩
  by_cases hab:a=b
  ·subst hab;rw[Zph I n d e _ h1 h2 lk];exact fun E Q q=>SeqAt.EqAt.same _ X.prog X.w E Q q
  ·exact EqP.refs hab rc.1
 have item:∀n,(∀(d e:Dt) (x y:V) (u v:Value) (A:Around),Rep X.K H d x->Rep X.K H e y->ZX x u->ZX y v->ZbA n d e=true->A.units+n<cLine->
   EqP X.prog X.w A s u v (Jb n d e)/\(Jl x=false->RcP X.prog X.w A s .Eq u v (Jb n d e)/\RcP X.prog X.w A s .NotEq u v (!Jb n d e)))->∀{A:Around} {ds es:List Dt} {xs ys:List V} {us vs:List Value},Zlk X.K H ds xs->Zlk X.K H es ys->Yc xs us->Yc ys vs->
   ((ds.zip es).all fun p=>ZbA n p.1 p.2)=true->A.units+(n+1)<cLine->∀j (h1:j<us.toArray.size) (h2:j<vs.toArray.size),EqP X.prog X.w A.in1 s us.toArray[j] vs.toArray[j] (Jb n (ds.getD j (.v .non)) (es.getD j (.v .non))):=by
  intro n ih A ds es xs ys us vs r1 r2 v1 v2 lk hu j h1 h2;have l1:j<us.length:=by simpa using h1
  have l2:j<vs.length:=by simpa using h2
  obtain⟨x,a1,b1⟩:=Zhj r1 v1 j l1;obtain⟨y,a2,b2⟩:=Zhj r2 v2 j l2;have e1:=Paired.length r1;have e2:=Paired.length r2;have e3:=v1.length;have e4:=v2.length;rw[Zhi (f:=ZbA),List.all_eq_true] at lk
  have lkj:=lk j (List.mem_range.mpr (by omega));have:=(ih _ _ x y us[j] vs[j] A.in1 a1 a2 b1 b2 lkj (by show A.units+1+n<cLine;omega)).1
  simpa using this
 intro n
 induction n with
 |zero=>
  intro d e x y u v A h1 h2 rx ry lk hu;cases h1 with
  |flat f=>
   cases h2 with
   |flat f2=>exact⟨flatEq f f2 rx ry,fun z=>by rw[f] at z;cases z⟩
   |_=>cases lk
  |_=>cases h2<;>cases lk
 |succ n ih=>
  intro d e x y u v A h1 h2 rx ry lk hu;have hu0:A.units<cLine:=by omega
  cases h1 with
  |flat f=>
   cases h2 with
   |flat f2=>exact⟨flatEq f f2 rx ry,fun z=>by rw[f] at z;cases z⟩
   |_=>cases lk
  | @lst a ds xs q1 r1=>
   cases h2 with
   | @lst b es ys q2 r2=>
    cases rx;cases ry;refine refl (.lst q1 r1) (.lst q2 r2) lk ?_;obtain⟨us,v1,p1,_⟩:=I.list q1;obtain⟨vs,v2,p2,_⟩:=I.list q2;have e1:=Paired.length r1;have e2:=Paired.length r2;have e3:=v1.length;have e4:=v2.length
    by_cases hz:us.length=vs.length
    ·have rc:=Zpe (P:=X.prog) (w:=X.w) (A:=A) (e:=fun j=>Jb n (ds.getD j (.v .non)) (es.getD j (.v .non))) p1.isList p2.isList (by simpa using hz) hu0 (item n ih r1 r2 v1 v2 lk hu);have ee:Jb (n+1) (.lst ds) (.lst es)=(List.range us.toArray.size).all fun j=>Jb n (ds.getD j (.v .non)) (es.getD j (.v .non)):=by
      show(ds.length==es.length&&((ds.zip es).all fun p=>Jb n p.1 p.2))=_;have el:ds.length=es.length:=by omega
      have eu:us.toArray.size=es.length:=by rw[List.size_toArray];omega
      rw[Zhi (f:=Jb),el,beq_self_eq_true,Bool.true_and,Nat.min_self,eu]
     rw[ee];exact rc
    ·have ee:Jb (n+1) (.lst ds) (.lst es)=false:=by
      show(ds.length==es.length&&((ds.zip es).all fun p=>Jb n p.1 p.2))=false;have el:(ds.length==es.length)=false:=beq_eq_false_iff_ne.mpr (by omega);rw[el,Bool.false_and]
     rw[ee];exact Zjk p1.isList p2.isList (by simpa using hz) hu0
   |_=>cases lk
  | @tup a ds xs q1 r1=>
   cases h2 with
   | @tup b es ys q2 r2=>
    cases rx;cases ry;refine refl (.tup q1 r1) (.tup q2 r2) lk ?_;obtain⟨us,v1,p1,_⟩:=I.tuple q1;obtain⟨vs,v2,p2,_⟩:=I.tuple q2;have e1:=Paired.length r1;have e2:=Paired.length r2;have e3:=v1.length;have e4:=v2.length;have rc:=ZsS (P:=X.prog) (w:=X.w) (A:=A) (e:=fun j=>Jb n (ds.getD j (.v .non)) (es.getD j (.v .non))) (show s.heap.IsTuple a us.toArray from p1) (show s.heap.IsTuple b vs.toArray from p2) hu0 (item n ih r1 r2 v1 v2 lk hu)
    have ee:Jb (n+1) (.tup ds) (.tup es)=Zb1 us.toArray vs.toArray (fun j=>Jb n (ds.getD j (.v .non)) (es.getD j (.v .non))) 0:=by
     show(((ds.zip es).all fun p=>Jb n p.1 p.2)&&ds.length==es.length)=_;unfold Zb1;rw[Zhi (f:=Jb),List.drop_zero,List.size_toArray,List.size_toArray,show us.length=ds.length by omega,show vs.length=es.length by omega]
    rw[ee];exact rc
   |_=>cases lk
  | @dct a ka q1 f1=>
   cases h2 with
   | @dct b kb q2 f2=>
    cases rx;cases ry;refine refl (.dct q1 f1) (.dct q2 f2) lk ?_;obtain⟨_,z1,va,r1,dd1⟩:=ZdG I.hok q1;obtain⟨_,z2,vb,r2,dd2⟩:=ZdG I.hok q2;exact ZrS z1 z2 dd1 dd2 r1 r2 f1 f2 hu0
   |_=>cases lk
end
section
variable {X:Cx}
def ZtB(K:PySem.W.Frag)(neg:Bool):R2:=fun x y H Q=>∃n d e,n<=30/\Jl x=false/\Rep K H d x/\Rep K H e y/\ZbA n d e=true/\Q (.bl (if neg then !Jb n d e else Jb n d e)) H
theorem ZrU(hu:X.A.units+30<cLine):OpR X (compareOp .Eq) (ZtB X.K false):=by
 intro pins s σ H x y v u Q I rx ry h;obtain⟨n,d,e,hn,fx,r1,r2,lk,q⟩:=h;exact((Znp I n d e x y v u X.A r1 r2 rx ry lk (by omega)).2 fx).1 _ _ ⟨.bl _,H,I,rfl,q⟩
theorem Zk5{A:Around}{k:Nat}(hr:Ju k A):A.units+30<cLine:=Nat.lt_of_le_of_lt (Nat.add_le_add_left (by decide:30<=64) _) hr.units
end
end L3
namespace M3
open PySem PySem.Spec PyProof.Rows L2 L3
abbrev Tb:=List (Str×Int)
def kk(c:Tb):List (Key×V):=c.map fun p=>(Sum.inr p.1,V.int p.2)
def lk(c:Tb)(k:Str):Option Int:=(c.find? fun p=>decide (p.1=k)).map (·.2)
def ZeL(c:Tb)(k:Str)(v:Int):Tb:=if(c.any fun p=>decide (p.1=k))=true then c.map (fun p=>if p.1=k then(p.1,v) else p) else c++[(k,v)]
theorem ZcG(c:Tb):(kk c).length=c.length:=by unfold kk;rw[List.length_map]
theorem Zhk(c:Tb)(k:Str):Yp (kk c) (Sum.inr k)=(lk c k).map V.int:=by
 induction c with
 |nil=>rfl
 |cons p r ih=>
  by_cases e:p.1=k
  ·have h1:lk (p::r) k=some p.2:=by simp[lk,List.find?_cons,e]
   rw[h1];exact Yr (p:=(Sum.inr p.1,V.int p.2)) (by rw[e])
  ·have h1:lk (p::r) k=lk r k:=by simp[lk,List.find?_cons,e]
   rw[h1,<-ih];exact Yn (p:=(Sum.inr p.1,V.int p.2)) (fun h=>e (Sum.inr.inj h))
theorem ZrV(c:Tb)(k:Str):((kk c).any fun kv=>decide (kv.1=Sum.inr k))=c.any fun p=>decide (p.1=k):=by
 unfold kk;rw[List.any_map]
 congr 1
 funext p
 show decide ((Sum.inr p.1:Key)=Sum.inr k)=decide (p.1=k);exact ZoH p.1 k
theorem ZmC(c:Tb)(k:Str)(v:Int):Js (kk c) (Sum.inr k) (.int v)=kk (ZeL c k v):=by
 unfold Js ZeL;rw[ZrV];cases c.any fun p=>decide (p.1=k) with
 |true=>
  rw[if_pos rfl,if_pos rfl];unfold kk;rw[List.map_map,List.map_map]
  apply List.map_congr_left
  intro p _;show(if(Sum.inr p.1:Key)=Sum.inr k then((Sum.inr p.1:Key),V.int v) else(Sum.inr p.1,V.int p.2))=(Sum.inr (if p.1=k then(p.1,v) else p).1,V.int (if p.1=k then(p.1,v) else p).2)
  by_cases e:p.1=k
  ·rw[if_pos (by rw[e]),if_pos e]
  ·rw[if_neg (fun h=>e (Sum.inr.inj h)),if_neg e]
 |false=>
  rw[if_neg Bool.false_ne_true,if_neg Bool.false_ne_true];unfold kk;rw[List.map_append]
  rfl
theorem Zf1(c:Tb)(k:Str)(v:Int):(ZeL c k v).length<=c.length+1:=by
 unfold ZeL
 split
 ·rw[List.length_map];omega
 ·rw[List.length_append];exact Nat.le_refl _
theorem Zk6{c:Tb}(nd:(c.map (·.1)).Nodup){p:Str×Int}(h:p∈c):lk c p.1=some p.2:=by
 induction c with
 |nil=>cases h
 |cons q r ih=>
  rw[List.map_cons,List.nodup_cons] at nd
  rcases List.mem_cons.mp h with rfl|more
  ·simp[lk,List.find?_cons]
  ·have e:¬q.1=p.1:=fun z=>nd.1 (by rw[z];exact List.mem_map.mpr ⟨p,more,rfl⟩)
   have h1:lk (q::r) p.1=lk r p.1:=by simp[lk,List.find?_cons,e]
   rw[h1];exact ih nd.2 more
theorem Zpi(ps:List Str):M1.cs (Txt.join Str.empty ps)=(ps.map M1.cs).flatten:=by
 have e:Txt.join Str.empty ps=Str.join Str.empty ps:=StrLaws.glued_eq_join _ _;rw[e];clear e
 induction ps with
 |nil=>rfl
 |cons p r ih=>
  cases r with
  |nil=>show M1.cs p=_;simp
  |cons q r=>
   show M1.cs (p++Str.empty++Str.join Str.empty (q::r))=_;rw[M1.Zmw,M1.Zmw,ih];simp[show M1.cs Str.empty=[] from rfl]
end M3
namespace M3
open PySem L2 L3
end M3
namespace L3
open PySem PySem.Spec PyProof.Rows L2
theorem Znq{X:Cx}{K:PySem.W.Frag}{es:List PySem.Expr}{k:Nat}{t:TGs}{pos:Pos}(n:Nat)(hK:X.K=K)(hc:X.calm=true)(h:PGs X es t)(hn:(assignEach es X.env).length=n)(hst:(assignEach es X.env).findIdx? (·.1)=none):PG X (.Tuple es k pos) (Zss K n t):=by
 subst hK;exact Zgf hc h hn hst
end L3
namespace L3
open PySem PySem.Spec PyProof.Rows L2
structure Zk7 (P:Program) (w:World) (K:PySem.W.Frag) (mg:Str->Option Value) (base:Heap) (CX:CXT) (k:Nat) (x:Str) (C:Addr) (ps:List Str) (sp:Sp):Prop where
 ex:∃(f:Addr) (fd:FuncData),mg x=some (.ref C)/\Mk K C f/\ZbZ K fd ps []/\Yl P w K mg base CX k f fd ps sp
structure ZrW (K:PySem.W.Frag) (mg:Str->Option Value) (x:Str) (C:Addr):Prop where
 at_:mg x=some (.ref C)
 makes:PySem.W.makesIn K C=true
 init:PySem.W.findIn K (.ref C) "__init__"=some (some (.builtin "object.__init__"))
 kp:PySem.W.keepIn K (.ref C)=true
structure Zbj (P:Program) (w:World) (K:PySem.W.Frag) (mg:Str->Option Value) (base:Heap) (CX:CXT) (k:Nat) (m:Str) (ps:List Str) (sp:Addr->Sp) (Fam:Addr->Prop):Prop where
 ex:∀C,Fam C->Cls K C/\∃(f:Addr) (fd:FuncData),Zsy K C m f/\ZbZ K fd ps []/\Yl P w K mg base CX k f fd ps (sp C)
theorem Zpj{P:Program}{w:World}{H:Hp}{h:Heap}{a:Addr}{o:HO}(x:XH P w H h a o):∃ob,h.get? a=some ob:=by
 cases o with
 |lst xs=>obtain⟨_,_,_,_,e⟩:=x;exact⟨_,e⟩
 |tup xs=>obtain⟨_,_,_,ob,e,_⟩:=x;exact⟨ob,e⟩
 |dK kvs=>obtain⟨_,_,_,_,o,_,_,e,_⟩:=x;exact⟨o,e⟩
 |dT kvs=>obtain⟨_,_,_,_,o,_,_,e,_⟩:=x;exact⟨o,e⟩
 |set S n=>obtain⟨o,_,_,_,e,_⟩:=x;exact⟨o,e⟩
 |ins C dx fs=>obtain⟨_,_,_,e,_⟩:=x;exact⟨_,e⟩
 |own y=>exact x
 |xd fs=>obtain⟨_,⟨o,_,_,e,_⟩,_⟩:=x;exact⟨o,e⟩
 |rng lo hi=>obtain⟨_,_,_,e⟩:=x;exact⟨_,e⟩
 |frz ob u=>exact⟨ob,x.1⟩
 |tbl ps=>exact⟨_,x⟩
 |met f y=>exact⟨_,x⟩
 |ext φ=>exact x.2.1
section
variable {X:Cx} {pins:List (Addr×Obj)} {σ:L2.St} {H:Hp} {s:Shared} {n:Addr} {q:HO}
theorem Zd6{σ₁:L2.St}{H₁:Hp}{s':Shared}(I0:L2.Inv X pins σ₁ H₁ s)(I:L2.Inv X pins σ H s')(f0:H n=none)(hn:s.heap.get? n=none)(ok:XH X.prog X.w (upd H n q) s'.heap n q):L2.Inv X pins σ (upd H n q) s':=by
 have ns:∀b u,H b=some u->b≠n:=fun b u e z=>by subst z;rw[f0] at e;cases e
 have nh:∀b o,s.heap.get? b=some o->b≠n:=fun b o e z=>by subst z;rw[hn] at e;cases e
 have nL:X.env.locals≠n:=by
  obtain⟨m,⟨o,_,_,e,_⟩,_⟩:=I0.loc;exact nh _ o e
 refine⟨I.ok,I.os,I.bare,⟨I.base.keep,I.base.slot,fun b o e m hx=> ?_,I.base.there,fun b xs e=> ?_,fun b o u e=> ?_,fun b ps e=> ?_⟩,I.loc,I.cell, ?_,fun x c e=> ?_,fun z hz=> ?_,fun b u e=> ?_,I.len⟩
 ·refine(Zm ?_).trans (I.base.free b o e m hx);obtain⟨o',z⟩:=I0.base.there b o e hx;exact nh b o' z
 ·rw[Zm (ns b _ (I.base.tups b xs e))];exact I.base.tups b xs e
 ·rw[Zm (ns b _ (I.base.frzs b o u e))];exact I.base.frzs b o u e
 ·obtain⟨m,e2⟩:=I.base.tbls b ps e;exact⟨m,by rw[Zm (ns b _ e2)];exact e2⟩
 ·rw[Zm nL];exact I.free
 ·obtain⟨v,o,z,_⟩:=I0.cell x c e;rw[Zm (nh c o z)];exact I.freeC x c e
 ·obtain⟨z1,z2,z3⟩:=I.pin z hz;exact⟨z1,by rw[Zm (nh z.1 z.2 (I0.pin z hz).1)];exact z2,z3⟩
 ·by_cases hb:b=n
  ·subst hb;rw[Zc] at e
   cases e;exact ok
  ·rw[Zm hb] at e
   exact(I.hok b u e).stay (fun _ _ _ z=>z) (fun c z=>by rw[Zm (ns c _ z)];exact z) fun c xs z=>by rw[Zm (ns c _ z)];exact z
theorem ZmD{s':Shared}(I0:L2.Inv X pins σ H s)(I:L2.Inv X pins σ H s')(hn:s.heap.get? n=none)(ok:XH X.prog X.w (upd H n q) s'.heap n q):L2.Inv X pins σ (upd H n q) s':=by
 refine Zd6 I0 I ?_ hn ok;cases e:H n with
 |none=>rfl
 |some u=>
  obtain⟨ob,z⟩:=Zpj (I0.hok n u e);rw[hn] at z
  cases z
end
section
variable {X:Cx} {CX:CXT} {k:Nat} {x m:Str} {C:Addr} {ps:List Str} {sp:Sp} {sf:Addr->Sp} {Fam:Addr->Prop} {E:XK} {e o:PySem.Expr} {es:List PySem.Expr} {ta:TE} {t:TA} {p pos apos:Pos}
theorem ZhI(c:Zk7 X.prog X.w X.K X.mg X.base CX k x C ps sp)(hr:Ju (k+1) X.A)(hg:Gl X x)(hx:Zbz CX X E)(ha:PA X (e::es) t)(hdb:(x==("__debug__":Str))=false:=by decide)
  (he:starEach (e::es) X.env=(false,eval e X.env)::starEach es X.env:=by rfl)(hpl:(backTo pos (starEach es X.env)).any (·.1)=false:=by rfl):PE X (.Call (.Name x p) (e::es) [] pos) (Zrj C sp [] E t):=by
 obtain⟨f,fd,hm,M,hb,F⟩:=c.ex;exact Zqs M F hr hg hm hb .nil hx ha hdb he hpl
def ZsT(C:Addr):TE:=fun _ H Q=>∀x dx,H x=none->H dx=none->dx≠x->Q (.ref x) (upd (upd H dx (.own x)) x (.ins C dx []))
theorem ZqF(c:ZrW X.K X.mg x C)(hg:Gl X x)(hdb:(x==("__debug__":Str))=false:=by decide):PE X (.Call (.Name x p) [] [] pos) (ZsT C):=by
 intro pins s σ H Q I h;refine wpAny_Call_Name_kw (ZfE I hg c.at_ ?_ hdb);obtain⟨mm,F⟩:=I.fr;refine PySem.W.callWith_K0 I.kIn c.kp (PySem.W.call_cls0 F I.ok.mod.kin ZoJ c.makes c.init fun y dy g F' N' hl hlt=> ?_);have I1:L2.Inv X pins σ H {s with heap:=g,toks:=s.toks}:=ZmB (more:=[(y,PySem.W.instObj C dy),(dy,PySem.W.dictOf [] 0)]) I F.ns F' N';have gy:=N' (y,PySem.W.instObj C dy) (List.mem_cons_self ..)
 have gd:=N' (dy,PySem.W.dictOf [] 0) (List.mem_cons_of_mem _ (List.mem_cons_self ..));have fresh:∀z:Addr,dy<=z->z≠X.env.locals->X.base.get? z=none->s.heap.get? z=none:=fun z hz nl nb=>by
  cases e:s.heap.get? z with
  |none=>rfl
  |some ob=>exact absurd (hl (z,ob) (ZgM nl nb e)) (Nat.not_lt.mpr hz)
 have fd:=fresh dy (Nat.le_refl _) gd.2.1 gd.2.2;have fy:=fresh y (Nat.le_of_lt hlt) gy.2.1 gy.2.2;have I2:=ZmD (q:=.own y) I I1 fd ⟨_,gd.1⟩;have nH:∀z,s.heap.get? z=none->H z=none:=fun z e=>by
  cases q:H z with
  |none=>rfl
  |some u=>obtain⟨ob,w⟩:=Zpj (I.hok z u q);rw[e] at w;cases w
 have ne:dy≠y:=Nat.ne_of_lt hlt;have I3:L2.Inv X pins σ (upd (upd H dy (.own y)) y (.ins C dy [])) {s with heap:=g,toks:=s.toks}:=by
  have e3:g.Ns dy (fun _=>none):=⟨_, #[],_,gd.1,rfl,(fun e he=>absurd he (by simp)),fun _=>rfl⟩
  have f0:upd H dy (.own y) y=none:=(Zm (Ne.symm ne)).trans (nH y fy);have ok:XH X.prog X.w (upd (upd H dy (.own y)) y (.ins C dy [])) g y (.ins C dy []):=⟨by rw[Zm ne,Zc],Nat.zero_le _,ne,gy.1,fun _=>none,Heap.Ns1.of_empty e3,fun _=>True.intro,fun z hz=>absurd rfl hz⟩
  have ns:∀b u,upd H dy (.own y) b=some u->b≠y:=fun b u e z=>by subst z;rw[f0] at e;cases e
  have nh:∀b o,s.heap.get? b=some o->b≠y:=fun b o e z=>by subst z;rw[fy] at e;cases e
  refine⟨I2.ok,I2.os,I2.bare,⟨I2.base.keep,I2.base.slot,fun b o e m hx=> ?_,I2.base.there,fun b xs e=> ?_,fun b o u e=> ?_,fun b ps e=> ?_⟩,I2.loc,I2.cell, ?_,fun x c e=> ?_,fun z hz=> ?_,fun b u e=> ?_,I2.len⟩
  ·refine(Zm ?_).trans (I2.base.free b o e m hx);obtain⟨o',z⟩:=I.base.there b o e hx;exact nh b o' z
  ·rw[Zm (ns b _ (I2.base.tups b xs e))];exact I2.base.tups b xs e
  ·rw[Zm (ns b _ (I2.base.frzs b o u e))];exact I2.base.frzs b o u e
  ·obtain⟨m,e2⟩:=I2.base.tbls b ps e;exact⟨m,by rw[Zm (ns b _ e2)];exact e2⟩
  ·rw[Zm (Ne.symm gy.2.1)];exact I2.free
  ·obtain⟨v,o,z,_⟩:=I.cell x c e;rw[Zm (nh c o z)];exact I2.freeC x c e
  ·obtain⟨z1,z2,z3⟩:=I2.pin z hz;exact⟨z1,by rw[Zm (nh z.1 z.2 (I.pin z hz).1)];exact z2,z3⟩
  ·by_cases hb:b=y
   ·subst hb;rw[Zc] at e
    cases e;exact ok
   ·rw[Zm hb] at e
    exact(I2.hok b u e).stay (fun _ _ _ z=>z) (fun c z=>by rw[Zm (ns c _ z)];exact z) fun c xs z=>by rw[Zm (ns c _ z)];exact z
 exact⟨.ref y,_,I3,rfl,h y dy (nH y fy) (nH dy fd) ne⟩
def Zpk(Fam:Addr->Prop)(m:Str)(sf:Addr->Sp)(E:XK)(ta:TE)(t:TA):TE:=fun σ H Q=>ta σ H fun x H1=>∃a C dx fs,x=.ref a/\H1 a=some (.ins C dx fs)/\Fam C/\fs.lookup m=none/\t σ H1 fun vs H2=>sf C (x::vs) H2 Q E
theorem Zaa{pl:Sem Bool}(he:PE X o ta)(d:Zbj X.prog X.w X.K X.mg X.base CX k m ps sf Fam)(hr:Ju k X.A)(hx:Zbz CX X E)(ha:PA X (e::es) t)
  (hst:starEach (e::es) X.env=(false,eval e X.env)::starEach es X.env:=by rfl)(hpl:(backTo pos (starEach es X.env)).any (·.1)=false:=by rfl)
  (ht:eval (.Call (.Attribute o m apos) (e::es) [] pos) X.env=(do
   let ov<-eval o X.env
   standAt apos.atName
   let (f,first)<-holding [ov] (getMethod ov m pl)
   callWith pos f first (backTo pos (starEach (e::es) X.env)) (backToKw pos (keywordEach [] X.env))):=by rfl):PE X (.Call (.Attribute o m apos) (e::es) [] pos) (Zpk Fam m sf E ta t):=by
 intro pins s σ H Q I h;refine PySem.W.methodCall_KW (pl:=pl) (thn (he pins s σ H _ I h) fun u s1 ⟨x,H1,I1,rx,a,C,dx,fs,ex,ea,fam,l,q⟩=> ?_) ht;subst ex;obtain rfl:u=Value.ref a:=rx;obtain⟨c,f,fd,hm,hb,F⟩:=d.ex C fam;refine ZhA I1 ea c hm l ?_;refine PySem.W.callWith_K (first:=[.ref a]) (h₀:=X.base) I.ok.mod.kin hm.kp (thn (ha pos pins s1 σ H1 _ I1 q) fun us s2 ⟨vs,H2,I2,r,q2⟩=>⟨I2.kIn, ?_⟩) hst hpl
 exact ZjR (us:=.ref a::us) (vs:=.ref a::vs) F hr hb .nil hx I2 (.cons rfl r) (by rw[List.append_nil];exact q2)
theorem ZfP{pl:Sem Bool}(he:PE X o ta)(d:Zbj X.prog X.w X.K X.mg X.base CX k m ps sf Fam)(hr:Ju k X.A)(hx:Zbz CX X E)
  (ht:eval (.Call (.Attribute o m apos) [] [] pos) X.env=(do
   let ov<-eval o X.env
   standAt apos.atName
   let (f,first)<-holding [ov] (getMethod ov m pl)
   callWith pos f first (backTo pos (starEach [] X.env)) (backToKw pos (keywordEach [] X.env))):=by rfl):PE X (.Call (.Attribute o m apos) [] [] pos) (Zpk Fam m sf E ta ZoW):=by
 intro pins s σ H Q I h;refine PySem.W.methodCall_KW (pl:=pl) (thn (he pins s σ H _ I h) fun u s1 ⟨x,H1,I1,rx,a,C,dx,fs,ex,ea,fam,l,q⟩=> ?_) ht;subst ex;obtain rfl:u=Value.ref a:=rx;obtain⟨c,f,fd,hm,hb,F⟩:=d.ex C fam;refine ZhA I1 ea c hm l ?_;exact PySem.W.callWith_K0 (first:=[.ref a]) I1.kIn hm.kp (ZjR (us:=[.ref a]) (vs:=[.ref a]) F hr hb .nil hx I1 (.cons rfl .nil) q)
def ZrX(K:PySem.W.Frag):R2:=fun x y H Q=>∃a b xs,x=.ref a/\y=.ref b/\SqL K H a xs/\SqL K H b []/\Q (.bl (decide (xs=[]))) H
theorem Zpl(hu:X.A.units+30<cLine):OpR X (compareOp .Eq) (ZrX X.K):=by
 intro pins s σ H x y v u Q I rx ry h;obtain⟨a,b,xs,rfl,rfl,h1,h2,q⟩:=h;cases rx;cases ry;obtain⟨us,v1,p1,_⟩:=I.list h1;obtain⟨vs,v2,p2,_⟩:=I.list h2;have e1:=v1.length;have e2:=v2.length;have hu0:X.A.units<cLine:=by omega
 cases xs with
 |nil=>
  have el:us.toArray.size=vs.toArray.size:=by rw[List.size_toArray,List.size_toArray,<-e1,<-e2]
  have z:us.toArray.size=0:=by rw[List.size_toArray,<-e1];rfl
  refine(Zpe (P:=X.prog) (w:=X.w) (e:=fun _=>true) p1.isList p2.isList el hu0 fun j h1 _=>absurd h1 (by omega)).1 _ _ ⟨.bl _,H,I, ?_,q⟩;rw[z]
  rfl
 |cons y r=>exact(Zjk (P:=X.prog) (w:=X.w) p1.isList p2.isList (by rw[List.size_toArray,List.size_toArray,<-e1,<-e2];exact Nat.succ_ne_zero _) hu0).1 _ _ ⟨.bl _,H,I,rfl,q⟩
end
end L3
namespace L3
open PySem PySem.Spec PyProof.Rows L2
theorem Je{P:Program}{w:World}{K:PySem.W.Frag}{mg:Str->Option Value}{base:Heap}{CX:CXT}{k:Nat}{f:Addr}{fd:FuncData}{ps:List Str}{sp:Sp}(h:∀vs H Q E,¬sp vs H Q E):Yl P w K mg base CX k f fd ps sp:=
 ⟨fun vs H Q E z=>(h vs H Q E z).elim,fun _ _ _ H _ _ vs Q E _ _ _ _ z=>(h vs H Q E z).elim⟩
structure TyC (K:PySem.W.Frag) (C:Addr):Prop where
 cl:Cls K C
 ha:PySem.W.findIn K (.ref C) "__class__"=some (some (.builtin "object.__class__"))
 hn:PySem.W.specialIn K (.builtin "object.__class__") "__get__"=some (some (.builtin "getset_descriptor.__get__"))
 htk:PySem.W.takesIn K (.builtin "object.__class__")=some true
 hm:PySem.W.mroIn K C (.type "object")=some true
theorem YJ{c A B:Prop} [Decidable c](hc:¬c)(h:B):if decide c=true then A else B:=by
 rw[decide_eq_false hc];exact Yt h
theorem ZtC{α:Type}{P:List α->Prop}(h:P []):∀us:List α,us.length=0->P us
 |[],_=>h
theorem Zf2{α:Type}{P:List α->Prop}(h:∀a,P [a]):∀us:List α,us.length=1->P us
 |[a],_=>h a
theorem XJ{α:Type}{P:List α->Prop}(h:∀a b,P [a,b]):∀us:List α,us.length=2->P us
 |[a,b],_=>h a b
theorem Zk8{α:Type}{P:List α->Prop}(h:∀a b c,P [a,b,c]):∀us:List α,us.length=3->P us
 |[a,b,c],_=>h a b c
theorem ZmE{α:Type}{P:List α->Prop}(h:∀a b c d,P [a,b,c,d]):∀us:List α,us.length=4->P us
 |[a,b,c,d],_=>h a b c d
end L3
namespace L3
open PySem PySem.Spec PyProof.Rows L2
section
variable {prog:Program} {w:World} {A:Around} {E:Value->Shared->Prop} {s:Shared} {it l S:Addr} {items:Array Value}
end
section
variable {X:Cx} {e:PySem.Expr} {te:TE} {p p2 pos pos2:Pos}
end
end L3
namespace L3
open PySem PySem.Spec PyProof.Rows L2 PySem.W PySem.Calls
section
variable {X:Cx}
end
section
variable {P:Program} {w:World} {K:Frag} {mg:Str->Option Value} {base:Heap} {N:List Str} {qual:Str} {scope:Scope} {f:Addr} {cdv:Value} {A:Around} {outer:List Env} {s₀:Shared} {H₀:Hp} {E:XK}
end
end L3
namespace L3
open PySem PySem.Spec PyProof.Rows L2 PySem.W PySem.Calls
section
variable {P:Program} {w:World} {K:Frag} {mg:Str->Option Value} {base:Heap} {N:List Str} {qual:Str} {scope:Scope} {f:Addr} {cdv:Value} {A:Around} {outer:List Env} {s₀:Shared} {H₀:Hp} {E:XK} {CX:CXT}
end
section
variable {X:Cx} {pins:List (Addr×Obj)} {σ:L2.St} {H:Hp} {s:Shared}
end
end L3
namespace L3
open PySem PySem.W PyProof.Rows
structure Ord (ans:Nat->Nat->Bool):Prop where
 asym:∀i j,ans i j=true->ans j i=false
 tr:∀i j k,ans j i=false->ans k j=false->ans k i=false
theorem Ord.irr{ans:Nat->Nat->Bool}(o:Ord ans)(i:Nat):ans i i=false:=by
 cases e:ans i i with
 |false=>rfl
 |true=>exact e.symm.trans (o.asym i i e)
def ZqG(n:Nat)(ans:Nat->Nat->Bool)(i j:Nat)(C:Bool->Shared->Prop)(s:Shared):Prop:=i<n/\j<n/\C (ans i j) s
abbrev ZbB(n:Nat)(ans:Nat->Nat->Bool){α:Type}(s:Shared)(t:KasT α)(P:α->Prop):Prop:=t.kasWp (ZqG n ans) (fun a _=>P a) s
def at_(p:Array Nat)(i:Nat):Nat:=p.getD i 0
def Zat(ans:Nat->Nat->Bool)(p:Array Nat)(k:Nat):Prop:=∀i j,i<=j->j<k->ans (at_ p j) (at_ p i)=false
def ZdJ(ans:Nat->Nat->Bool)(p:Array Nat)(k:Nat):Prop:=∀i j,i<=j->j<k->ans (at_ p i) (at_ p j)=false
structure Pl (n:Nat) (p:Array Nat):Prop where
 size:p.size=n
 perm:p.Perm (List.toArray (List.range n))
theorem Pl.lt{n:Nat}{p:Array Nat}(h:Pl n p){i:Nat}(hi:i<n):at_ p i<n:=by
 have hi':i<p.size:=by rw[h.size];exact hi
 have e:at_ p i=p[i]:=by simp[at_,Array.getD,hi']
 have m:p[i]∈List.range n:=by
  have:=(Array.perm_iff_toList_perm.mp h.perm).mem_iff (a:=p[i])
  simpa using this.mp (by simp)
 rw[e];exact List.mem_range.mp m
theorem Zf3(x:Array Nat)(k:Nat):at_ x k=(x[k]?).getD 0:=by
 by_cases hk:k<x.size<;>simp[at_,Array.getD,hk]
theorem ZdK{p:Array Nat}{i j:Nat}(hj:j<=p.size)(k:Nat):at_ (kas_rev p i j) k=if i<=k/\k<j then at_ p (i+j-1-k) else at_ p k:=by
 rw[Zf3,kas_rev,getElem?_mirror_all hj k,Zf3,Zf3]
 split<;>rfl
theorem Zpm{p:Array Nat}{src d:Nat}(hs:src<p.size)(hd:d<=src)(k:Nat):at_ (bubble p src d) k=if k=src-d then at_ p src else if src-d<k/\k<=src then at_ p (k-1) else at_ p k:=by
 rw[Zf3,getElem?_bubble hs d hd k,Zf3,Zf3,Zf3]
 split
 ·rfl
 ·split<;>rfl
theorem Pl.rev{n:Nat}{p:Array Nat}(h:Pl n p)(i j:Nat):Pl n (kas_rev p i j):=⟨(mirror_size _ _ _ _).trans h.size,(mirror_perm _ _ _ _).trans h.perm⟩
theorem Pl.bub{n:Nat}{p:Array Nat}(h:Pl n p)(i j:Nat):Pl n (bubble p i j):=⟨(bubble_size _ _ _).trans h.size,(bubble_perm _ _ _).trans h.perm⟩
section
variable {n:Nat} {ans:Nat->Nat->Bool} {s:Shared}
theorem ZbC{α β:Type}{t:KasT α}{f:α->KasT β}{P:β->Prop}(h:ZbB n ans s t fun a=>ZbB n ans s (f a) P):ZbB n ans s (t.bind f) P:=by
 have st:∀(t:KasT α) (s0:Shared),t.kasWp (ZqG n ans) (fun a _=>ZbB n ans s (f a) P) s0->s0=s->t.kasWp (ZqG n ans) (fun a s'=>(f a).kasWp (ZqG n ans) (fun a _=>P a) s') s0:=by
  intro t
  induction t with
  |ret a=>intro s0 h e;subst e;exact h
  |ask i j k ih=>intro s0 ⟨a,b,h⟩ e;exact⟨a,b,ih _ s0 h e⟩
 show(t.bind f).kasWp _ _ _;rw[KasT.kasWp_bind];exact st t s h rfl
theorem Ja{α:Type}{P P':α->Prop}(hp:∀a,P a->P' a):∀{t:KasT α},ZbB n ans s t P->ZbB n ans s t P'
 | .ret a,h=>hp a h
 | .ask i j k,⟨a,b,h⟩=>⟨a,b,Ja hp (t:=k _) h⟩
theorem Zll{α:Type}{cmp:Nat->Nat->(Bool->Shared->Prop)->Shared->Prop}{P:α->Prop}{Q:α->Shared->Prop}(I:Shared->Prop)(hc:∀i j (C:Bool->Shared->Prop) s,i<n->j<n->I s->(∀s',I s'->C (ans i j) s')->cmp i j C s)(hq:∀a s',P a->I s'->Q a s'):
  ∀(t:KasT α) (s0 s1:Shared),ZbB n ans s0 t P->I s1->t.kasWp cmp Q s1
 | .ret a,s0,s1,h,i1=>hq a s1 h i1
 | .ask i j k,s0,s1,⟨a,b,h⟩,i1=>hc i j _ s1 a b i1 fun s' i'=>Zll I hc hq (k _) s0 s' h i'
theorem ZdL(o:Ord ans){p:Array Nat}(hp:Pl n p){k:Nat}(hk:k<n)(hs:Zat ans p k):∀(f l r:Nat),l<=r->r<=k->r-l<=f->(∀i,i<l->ans (at_ p k) (at_ p i)=false)->(∀i,r<=i->i<k->ans (at_ p k) (at_ p i)=true)->
  ZbB n ans s (kas_place p k f l r) fun x=>x<=k/\(∀i,i<x->ans (at_ p k) (at_ p i)=false)/\∀i,x<=i->i<k->ans (at_ p k) (at_ p i)=true
 |0,l,r,h1,h2,h3,lo,hi=>by
  have e:l=r:=by omega
  subst e;exact⟨h2,lo,hi⟩
 |f+1,l,r,h1,h2,h3,lo,hi=>by
  unfold kas_place
  by_cases g:l≥r
  ·rw[if_pos g];have e:l=r:=by omega
   subst e;exact⟨h2,lo,hi⟩
  ·rw[if_neg g];refine⟨hp.lt hk,hp.lt (by omega), ?_⟩;cases e:ans (p.getD k 0) (p.getD ((l+r)/2) 0) with
   |true=>
    (dsimp only;rw[if_pos rfl])
    refine ZdL o hp hk hs f l ((l+r)/2) (by omega) (by omega) (by omega) lo fun i a b=> ?_;cases e2:ans (at_ p k) (at_ p i) with
    |true=>rfl
    |false=>
     have:=o.tr (at_ p ((l+r)/2)) (at_ p i) (at_ p k) (hs _ _ a b) e2;rw[show ans (at_ p k) (at_ p ((l+r)/2))=true from e] at this
     exact this.symm
   |false=>
    (dsimp only;rw[if_neg (by simp)])
    exact ZdL o hp hk hs f ((l+r)/2+1) r (by omega) h2 (by omega) (fun i a=>o.tr (at_ p i) (at_ p ((l+r)/2)) (at_ p k) (hs _ _ (by omega) (by omega)) e) hi
theorem Zjl(o:Ord ans):∀(f:Nat) (p:Array Nat) (k:Nat),Pl n p->k+f=n->Zat ans p k->ZbB n ans s (kas_bin f p k) fun q=>Pl n q/\Zat ans q n
 |0,p,k,hp,e,hs=>by
  have e:k=n:=by omega
  subst e;exact⟨hp,hs⟩
 |f+1,p,k,hp,e,hs=>by
  have hk:k<n:=by omega
  unfold kas_bin;refine ZbC (Ja (fun l ⟨a,lo,hi⟩=> ?_) (ZdL o hp hk hs k 0 k (by omega) (by omega) (by omega) (fun i z=>by omega) fun i z1 z2=>by omega));refine Zjl o f _ (k+1) (hp.bub _ _) (by omega) fun i j hij hj=> ?_;have hks:k<p.size:=by rw[hp.size];exact hk
  rw[Zpm hks (by omega),Zpm hks (by omega),show k-(k-l)=l by omega]
  repeat' split
  all_goals first
   |(exfalso;omega)
   |exact o.irr _
   |exact lo _ (by omega)
   |exact o.asym _ _ (hi _ (by omega) (by omega))
   |exact hs _ _ (by omega) (by omega)
theorem Zgj(o:Ord ans){p:Array Nat}(hp:Pl n p):∀(f m:Nat),1<=m->m+f<=n->Zat ans p m->ZbB n ans s (kas_asc p f m) fun x=>m<=x/\x<=m+f/\Zat ans p x/\(x<m+f->ans (at_ p x) (at_ p (x-1))=true)
 |0,m,h1,h2,hs=>⟨Nat.le_refl _,Nat.le_refl _,hs,fun z=>absurd z (Nat.lt_irrefl _)⟩
 |f+1,m,h1,h2,hs=>by
  unfold kas_asc;refine⟨hp.lt (by omega),hp.lt (by omega), ?_⟩;cases e:ans (p.getD m 0) (p.getD (m-1) 0) with
  |true=>(dsimp only;rw[if_pos rfl]);exact⟨Nat.le_refl _,by omega,hs,fun _=>e⟩
  |false=>
   (dsimp only;rw[if_neg (by simp)])
   refine Ja (fun x ⟨a,b,c,d⟩=>⟨by omega,by omega,c,fun z=>d (by omega)⟩) (Zgj o hp f (m+1) (by omega) (by omega) fun i j hij hj=> ?_)
   by_cases q:j<m
   ·exact hs i j hij q
   ·have ej:j=m:=by omega
    subst ej
    by_cases q2:i=j
    ·subst q2;exact o.irr _
    ·exact o.tr (at_ p i) (at_ p (j-1)) (at_ p j) (hs _ _ (by omega) (by omega)) e
theorem ZhJ(o:Ord ans){p q:Array Nat}{m:Nat}(h:ZdJ ans p m)(e:∀k,k<m->ans (at_ p k) (at_ q k)=false/\ans (at_ q k) (at_ p k)=false):ZdJ ans q m:=fun i j hij hj=>
 o.tr (at_ q j) (at_ p i) (at_ q i) (o.tr (at_ q j) (at_ p j) (at_ p i) (e j hj).1 (h i j hij hj)) (e i (by omega)).2
def ZqH(ans:Nat->Nat->Bool)(p:Array Nat)(m q:Nat):Prop:=∀k,m-(q+1)<=k->k<m->ans (at_ p k) (at_ p (m-1))=false/\ans (at_ p (m-1)) (at_ p k)=false
theorem Zlm(o:Ord ans){p:Array Nat}{m q:Nat}(hm:m<=p.size)(hq:q+1<=m)(t:ZqH ans p m q):∀k,k<m->ans (at_ p k) (at_ (kas_rev p (m-(q+1)) m) k)=false/\ans (at_ (kas_rev p (m-(q+1)) m) k) (at_ p k)=false:=fun k hk=>by
 rw[ZdK hm]
 split
 ·rename_i h
  have a:=t k h.1 h.2;have b:=t (m-(q+1)+m-1-k) (by omega) (by omega);exact⟨o.tr _ _ _ b.2 a.1,o.tr _ _ _ a.2 b.1⟩
 ·exact⟨o.irr _,o.irr _⟩
theorem Zd7(o:Ord ans):∀(f:Nat) (p:Array Nat) (m q:Nat),Pl n p->1<=m->m+f<=n->q+1<=m->ZdJ ans p m->ZqH ans p m q->ZbB n ans s (kas_desc f p m q) fun r=>Pl n r.1/\1<=r.2.1/\r.2.1<=m+f/\r.2.2+1<=r.2.1/\ZdJ ans r.1 r.2.1/\ZqH ans r.1 r.2.1 r.2.2
 |0,p,m,q,hp,h1,h2,hq,hf,ht=>⟨hp,h1,Nat.le_refl _,hq,hf,ht⟩
 |f+1,p,m,q,hp,h1,h2,hq,hf,ht=>by
  unfold kas_desc;refine⟨hp.lt (by omega),hp.lt (by omega), ?_⟩;have more:∀(p':Array Nat),ZdJ ans p' m->ans (at_ p' (m-1)) (at_ p' m)=false->ZdJ ans p' (m+1):=fun p' hf' l i j hij hj=>by
   by_cases z:j<m
   ·exact hf' i j hij z
   ·have ej:j=m:=by omega
    subst ej
    by_cases z2:i=j
    ·subst z2;exact o.irr _
    ·exact o.tr (at_ p' j) (at_ p' (j-1)) (at_ p' i) l (hf' _ _ (by omega) (by omega))
  cases e:ans (p.getD m 0) (p.getD (m-1) 0) with
  |true=>
   (dsimp only;rw[if_pos rfl])
   have one:∀p':Array Nat,ZqH ans p' (m+1) 0:=fun p' k a b=>by
    have ek:k=m:=by omega
    subst ek;exact⟨o.irr _,o.irr _⟩
   by_cases z:q>0
   ·rw[if_pos z];have al:=Zlm o (by rw[hp.size];omega) hq ht
    have f':=ZhJ o hf al;refine Ja (fun r ⟨a,b,c,d⟩=>⟨a,b,by omega,d⟩) (Zd7 o f _ (m+1) 0 (hp.rev _ _) (by omega) (by omega) (by omega) (more _ f' ?_) (one _));have em:at_ (kas_rev p (m-(q+1)) m) m=at_ p m:=by rw[ZdK (by rw[hp.size];omega),if_neg (by omega)]
    rw[em];exact o.tr (at_ p m) (at_ p (m-1)) _ (o.asym _ _ e) (al (m-1) (by omega)).2
   ·rw[if_neg z];exact Ja (fun r ⟨a,b,c,d⟩=>⟨a,b,by omega,d⟩) (Zd7 o f p (m+1) 0 hp (by omega) (by omega) (by omega) (more _ hf (o.asym _ _ e)) (one _))
  |false=>
   (dsimp only;rw[if_neg (by simp)])
   refine⟨hp.lt (by omega),hp.lt (by omega), ?_⟩;cases e2:ans (p.getD (m-1) 0) (p.getD m 0) with
   |true=>(dsimp only;rw[if_pos rfl]);exact⟨hp,h1,(show m<=m+(f+1) by omega),hq,hf,ht⟩
   |false=>
    (dsimp only;rw[if_neg (by simp)])
    refine Ja (fun r ⟨a,b,c,d⟩=>⟨a,b,by omega,d⟩) (Zd7 o f p (m+1) (q+1) hp (by omega) (by omega) (by omega) (more _ hf e2) fun k a b=> ?_);show ans (at_ p k) (at_ p m)=false/\ans (at_ p m) (at_ p k)=false
    by_cases z:k=m
    ·subst z;exact⟨o.irr _,o.irr _⟩
    ·have t:=ht k (by omega) (by omega);exact⟨o.tr (at_ p m) (at_ p (m-1)) (at_ p k) e2 t.1,o.tr (at_ p k) (at_ p (m-1)) (at_ p m) t.2 e⟩
theorem ZgT(o:Ord ans){p:Array Nat}(hp:Pl n p){m:Nat}(h1:1<=m)(h2:m<=n)(hf:ZdJ ans p m):ZbB n ans s (kas_tail3 m n p) fun r=>1<=r.1/\r.1<=n/\Pl n r.2/\Zat ans r.2 r.1:=by
 unfold kas_tail3;refine ZbC (Ja (fun x ⟨a,b,c,d⟩=>⟨by omega,by omega,hp.rev _ _,c⟩) (Zgj o (hp.rev 0 m) (n-m) m h1 (by omega) fun i j hij hj=> ?_));rw[ZdK (by rw[hp.size];exact h2),ZdK (by rw[hp.size];exact h2),if_pos (by omega),if_pos (by omega)]
 exact hf _ _ (by omega) (by omega)
theorem ZdM(o:Ord ans){p:Array Nat}(hp:Pl n p){m:Nat}(h1:1<=m)(h2:m<n)(hf:ZdJ ans p m)(hl:ans (at_ p m) (at_ p (m-1))=true):ZbB n ans s (kas_descPart m n p) fun r=>1<=r.1/\r.1<=n/\Pl n r.2/\Zat ans r.2 r.1:=by
 unfold kas_descPart;refine ZbC (Ja (fun r ⟨a,b,c,d,e,t⟩=> ?g) (Zd7 o (n-(m+1)) p (m+1) 0 hp (by omega) (by omega) (by omega) (fun i j hij hj=> ?f) fun k a b=> ?t))
 case g=>
  split
  ·have al:=Zlm o (by rw[a.size];omega) d t
   exact ZgT o (a.rev _ _) b (by omega) (ZhJ o e al)
  ·exact ZgT o a b (by omega) e
 case f=>
  by_cases z:j<m
  ·exact hf i j hij z
  ·have ej:j=m:=by omega
   subst ej
   by_cases z2:i=j
   ·subst z2;exact o.irr _
   ·exact o.tr (at_ p j) (at_ p (j-1)) (at_ p i) (o.asym _ _ hl) (hf _ _ (by omega) (by omega))
 case t=>
  have ek:k=m:=by omega
  subst ek;exact⟨o.irr _,o.irr _⟩
theorem Zln(o:Ord ans){p:Array Nat}(hp:Pl n p)(h1:1<=n):ZbB n ans s (kas_count n p) fun r=>1<=r.1/\r.1<=n/\Pl n r.2/\Zat ans r.2 r.1:=by
 unfold kas_count;refine ZbC (Ja (fun x ⟨a,b,c,d⟩=> ?g) (Zgj o hp (n-1) 1 (Nat.le_refl _) (by omega) fun i j hij hj=> ?f))
 case g=>
  by_cases z:x=n
  ·rw[if_pos (by simpa using z)];exact⟨a,by omega,hp,c⟩
  ·rw[if_neg (by simpa using z)];have l:=d (by omega)
   by_cases z2:x>1
   ·rw[if_pos z2];refine⟨hp.lt (by omega),hp.lt (by omega), ?_⟩;cases e:ans (p.getD 0 0) (p.getD (x-1) 0) with
    |true=>(dsimp only;rw[if_pos rfl]);exact⟨a,by omega,hp,c⟩
    |false=>
     (dsimp only;rw[if_neg (by simp)])
     have al:∀i j,i<x->j<x->ans (at_ p i) (at_ p j)=false:=fun i j hi hj=>o.tr (at_ p j) (at_ p 0) (at_ p i) (o.tr (at_ p j) (at_ p (x-1)) (at_ p 0) (c _ _ (by omega) (by omega)) e) (c _ _ (by omega) hi);have hx:x<=p.size:=by rw[hp.size];omega
     refine ZdM o (hp.rev 0 x) a (by omega) (fun i j hij hj=> ?_) ?_
     ·rw[ZdK hx,ZdK hx,if_pos (by omega),if_pos (by omega)];exact al _ _ (by omega) (by omega)
     ·rw[ZdK hx,ZdK hx,if_neg (by omega),if_pos (by omega),show 0+x-1-(x-1)=0 by omega];cases e3:ans (at_ p x) (at_ p 0) with
      |true=>rfl
      |false=>
       have:=o.tr (at_ p (x-1)) (at_ p 0) (at_ p x) e e3;rw[l] at this
       exact this.symm
   ·rw[if_neg z2];have ex:x=1:=by omega
    subst ex;exact ZdM o hp (Nat.le_refl _) (by omega) (fun i j hij hj=>by
     have:i=j:=by omega
     subst this;exact o.irr _) l
 case f=>
  have:i=j:=by omega
  subst this;exact o.irr _
theorem ZmF(o:Ord ans)(h1:1<=n):ZbB n ans s (kas_sort n) fun q=>Pl n q/\Zat ans q n:=by
 unfold kas_sort;have p0:Pl n (List.toArray (List.range n)):=⟨by simp,Array.Perm.refl _⟩
 refine ZbC (Ja (fun r ⟨a,b,c,d⟩=> ?_) (Zln o p0 h1))
 split
 ·have e:max r.1 1=r.1:=by omega
  rw[e];exact Zjl o _ _ _ c (by omega) d
 ·have e:r.1=n:=by omega
  rw[e] at d
  exact⟨c,d⟩
end
end L3
namespace L3
open PySem
structure STO {α:Type} (lt:α->α->Bool):Prop where
 irr:∀a,lt a a=false
 tr:∀a b c,lt a b=true->lt b c=true->lt a c=true
 tri:∀a b,lt a b=true\/a=b\/lt b a=true
theorem STO.asym{α:Type}{lt:α->α->Bool}(o:STO lt){a b:α}(h:lt a b=true):lt b a=false:=by
 cases e:lt b a with
 |false=>rfl
 |true=>exact(o.tr a b a h e).symm.trans (o.irr a)
theorem STO.ord{α:Type}{lt:α->α->Bool}(o:STO lt)(f:Nat->α):Ord fun i j=>lt (f i) (f j) where
 asym:=fun i j h=>o.asym h
 tr:=fun i j k h1 h2=>by
  cases e:lt (f k) (f i) with
  |false=>rfl
  |true=>
   rcases o.tri (f i) (f j) with z|z|z
   ·exact(o.tr _ _ _ e z).symm.trans h2
   ·rw[z] at e;exact e.symm.trans h2
   ·exact z.symm.trans h1
def ZaN(a b:Int):Bool:=decide (a<b)
theorem ZcH:STO ZaN:=⟨fun a=>decide_eq_false (by omega),fun a b c h1 h2=>decide_eq_true (by have:=of_decide_eq_true h1;have:=of_decide_eq_true h2;omega),fun a b=>by
 rcases Int.lt_trichotomy a b with h|h|h
 ·exact .inl (decide_eq_true h)
 ·exact .inr (.inl h)
 ·exact .inr (.inr (decide_eq_true h))⟩
def ZhK{α:Type} [DecidableEq α](lt:α->α->Bool):List α->List α->Bool
 |[],[]=>false
 |[],_::_=>true
 |_::_,[]=>false
 |a::r,b::t=>if a=b then ZhK lt r t else lt a b
theorem Zpn{α:Type} [DecidableEq α]{lt:α->α->Bool}(o:STO lt):STO (ZhK lt) where
 irr:=fun l=>by
  induction l with
  |nil=>rfl
  |cons a r ih=>unfold ZhK;rw[if_pos rfl];exact ih
 tr:=fun x=>by
  induction x with
  |nil=>intro y z h1 h2;cases y with
   |nil=>exact h2
   |cons b t=>cases z with
    |nil=>exact absurd h2 (by simp[ZhK])
    |cons c u=>rfl
  |cons a r ih=>intro y z h1 h2;cases y with
   |nil=>exact absurd h1 (by simp[ZhK])
   |cons b t=>cases z with
    |nil=>exact absurd h2 (by simp[ZhK])
    |cons c u=>
     unfold ZhK at h1 h2⊢
     by_cases e1:a=b
     ·subst e1;rw[if_pos rfl] at h1
      by_cases e2:a=c
      ·rw[if_pos e2] at h2⊢;exact ih t u h1 h2
      ·rw[if_neg e2] at h2⊢;exact h2
     ·rw[if_neg e1] at h1
      by_cases e2:b=c
      ·subst e2;rw[if_neg e1];exact h1
      ·rw[if_neg e2] at h2
       have h3:=o.tr _ _ _ h1 h2
       by_cases e3:a=c
       ·subst e3;rw[o.irr] at h3;cases h3
       ·rw[if_neg e3];exact h3
 tri:=fun x=>by
  induction x with
  |nil=>intro y;cases y with
   |nil=>exact .inr (.inl rfl)
   |cons b t=>exact .inl rfl
  |cons a r ih=>intro y;cases y with
   |nil=>exact .inr (.inr rfl)
   |cons b t=>
    unfold ZhK
    by_cases e:a=b
    ·subst e;rw[if_pos rfl,if_pos rfl];rcases ih t with h|h|h
     ·exact .inl h
     ·exact .inr (.inl (by rw[h]))
     ·exact .inr (.inr h)
    ·rw[if_neg e,if_neg (Ne.symm e)];rcases o.tri a b with h|h|h
     ·exact .inl h
     ·exact absurd h e
     ·exact .inr (.inr h)
def Zo2{α β:Type} [DecidableEq α](la:α->α->Bool)(lb:β->β->Bool)(x y:α×β):Bool:=if x.1=y.1 then lb x.2 y.2 else la x.1 y.1
theorem Zlo{α β:Type} [DecidableEq α]{la:α->α->Bool}{lb:β->β->Bool}(oa:STO la)(ob:STO lb):STO (Zo2 la lb) where
 irr:=fun x=>by unfold Zo2;rw[if_pos rfl];exact ob.irr _
 tr:=fun⟨a,x⟩ ⟨b,y⟩ ⟨c,z⟩ h1 h2=>by
  unfold Zo2 at h1 h2⊢
  dsimp only at h1 h2⊢
  by_cases e1:a=b
  ·subst e1;rw[if_pos rfl] at h1
   by_cases e2:a=c
   ·rw[if_pos e2] at h2⊢;exact ob.tr _ _ _ h1 h2
   ·rw[if_neg e2] at h2⊢;exact h2
  ·rw[if_neg e1] at h1
   by_cases e2:b=c
   ·subst e2;rw[if_neg e1];exact h1
   ·rw[if_neg e2] at h2
    have h3:=oa.tr _ _ _ h1 h2
    by_cases e3:a=c
    ·subst e3;rw[oa.irr] at h3;cases h3
    ·rw[if_neg e3];exact h3
 tri:=fun⟨a,x⟩ ⟨b,y⟩=>by
  unfold Zo2
  dsimp only
  by_cases e:a=b
  ·subst e;rw[if_pos rfl,if_pos rfl];rcases ob.tri x y with h|h|h
   ·exact .inl h
   ·exact .inr (.inl (by rw[h]))
   ·exact .inr (.inr h)
  ·rw[if_neg e,if_neg (Ne.symm e)];rcases oa.tri a b with h|h|h
   ·exact .inl h
   ·exact absurd h e
   ·exact .inr (.inr h)
def ZmG(a b:List Nat):Bool:=decide (a<b)
theorem ZhL:∀a b:List Nat,ZmG a b=ZhK (fun x y=>decide (x<y)) a b
 |[],[]=>rfl
 |[],_::_=>rfl
 |_::_,[]=>rfl
 |a::r,b::t=>by
  unfold ZhK;have e:ZmG (a::r) (b::t)=(decide (a<b)||(a==b&&ZmG r t)):=StrLaws.lt_cons_cons a b r t;rw[e,ZhL r t]
  by_cases q:a=b
  ·subst q;rw[if_pos rfl];simp
  ·rw[if_neg q];simp[q]
def Xl(a b:Str):Bool:=decide (a.cps.toList<b.cps.toList)
theorem Xo:STO Xl:=by
 have o:STO fun x y:Nat=>decide (x<y):=⟨fun a=>decide_eq_false (by omega),fun a b c h1 h2=>decide_eq_true (by have:=of_decide_eq_true h1;have:=of_decide_eq_true h2;omega),fun a b=>by
  rcases Nat.lt_trichotomy a b with h|h|h
  ·exact .inl (decide_eq_true h)
  ·exact .inr (.inl h)
  ·exact .inr (.inr (decide_eq_true h))⟩
 have L:=Zpn o;have e:∀a b:Str,Xl a b=ZhK (fun x y=>decide (x<y)) a.cps.toList b.cps.toList:=fun a b=>ZhL _ _;refine⟨fun a=>(e a a).trans (L.irr _),fun a b c h1 h2=> ?_,fun a b=> ?_⟩
 ·rw[e] at h1 h2⊢;exact L.tr _ _ _ h1 h2
 ·rw[e,e];rcases L.tri a.cps.toList b.cps.toList with h|h|h
  ·exact .inl h
  ·refine .inr (.inl ?_);obtain⟨⟨x⟩⟩:=a;obtain⟨⟨y⟩⟩:=b;have h:x=y:=h;rw[h]
  ·exact .inr (.inr h)
abbrev Lf:=Str×Int
def Zk9:Lf->Lf->Bool:=Zo2 Xl ZaN
theorem ZhM:STO Zk9:=Zlo Xo ZcH
end L3
namespace L3
open PySem PySem.Spec PyProof.Rows L2
def ZmH(e c:Nat->Bool)(fin:Bool):List Nat->Bool
 |[]=>fin
 |i::r=>if e i=true then ZmH e c fin r else c i
section
variable {P:Program} {w:World} (l b:Addr) (xs ys:Array Value) (n m:Nat) (d1 d2:Option Addr) (s1 s2:Array (Option Value)) (e c:Nat->Bool)
abbrev Zo3(xs ys:Array Value)(e c:Nat->Bool)(i:Nat):Bool:=ZmH e c (decide (xs.size<ys.size)) ((List.range (min xs.size ys.size)).drop i)
theorem ZsU:MeetsIn P w (Builtin.«tuple.__lt__» ⟨[.ref l,.ref b],[]⟩) (fun A R s=>s.heap.get? l=some (Zlj d1 xs n s1)/\s.heap.get? b=some (Zlj d2 ys m s2)/\
  (∀j (h1:j<xs.size) (h2:j<ys.size),EqP P w A.in1 s xs[j] ys[j] (e j))/\(∀j (h1:j<xs.size) (h2:j<ys.size),e j=false->RcP P w A.in1 s .Lt xs[j] ys[j] (c j))/\R (.ok (.ret (.bool (Zo3 xs ys e c 0)))) s):=
 .of_wp fun A R s h=>by
  obtain⟨hq,gs,dr,tk,oss⟩:=s;obtain⟨u1,u2,ue,uc,q⟩:=h;have sub:=AutoSeq1.sub_tuple_tuple;have zl:(xs.toList.zip ys.toList).length=min xs.size ys.size:=by simp
  wp_walk using AutoSeq1.wpAny_loadPart' u1,AutoSeq1.wpAny_loadPart' u2,wpAny_forIn_list _ (fun rest a s'=>a.1=none/\s'=⟨hq,gs,dr,tk,oss⟩/\∃i,rest=(xs.toList.zip ys.toList).drop i/\
   R (.ok (.ret (.bool (Zo3 xs ys e c i)))) ⟨hq,gs,dr,tk,oss⟩) _
  case turn=>
   rintro⟨y,x⟩ rest a s' ⟨ha,rfl,i,zr,zq⟩;have lt:i<(xs.toList.zip ys.toList).length:=Nat.lt_of_not_le fun z=>by rw[List.drop_of_length_le z] at zr;cases zr
   have lm:i<min xs.size ys.size:=zl▸lt;have l1:i<xs.size:=by omega
   have l2:i<ys.size:=by omega
   rw[List.drop_eq_getElem_cons lt] at zr
   injection zr with zyx zrest
   obtain rfl:y=xs[i]:=by simpa using congrArg Prod.fst zyx
   obtain rfl:x=ys[i]:=by simpa using congrArg Prod.snd zyx
   have zd:(List.range (min xs.size ys.size)).drop i=i::(List.range (min xs.size ys.size)).drop (i+1):=by simp[List.drop_eq_getElem_cons,lm]
   unfold Zo3 at zq
   rw[zd] at zq
   unfold ZmH at zq
   refine wpAny_bind (ue i l1 l2 _ _ ?_);cases ei:e i with
   |true=>
    rw[ei,if_pos rfl] at zq
    wp_walk
    exact⟨rfl,rfl,i+1,zrest,zq⟩
   |false=>
    rw[ei,if_neg (by simp)] at zq
    have rc:=uc i l1 l2 ei;unfold RcP at rc
    generalize richCompare CmpOp.Lt xs[i] ys[i]=m at rc⊢
    wp_walk
    first|refine wpAny_bind (rc _ _ ?_)|refine rc _ _ ?_
    wp_walk
    exact⟨_,rfl,zq⟩
  case fin=>
   rintro⟨a1,a2⟩ s' ⟨ha,rfl,i,zr,zq⟩;simp only at ha
   subst ha;have ge:min xs.size ys.size<=i:=Nat.le_of_not_lt fun z=>by rw[List.drop_eq_getElem_cons (zl▸z:i<(xs.toList.zip ys.toList).length)] at zr;cases zr
   unfold Zo3 at zq
   rw[List.drop_of_length_le (by simpa using ge)] at zq
   wp_walk
   exact⟨_,rfl,by simpa [Builtin.Tuple.tupleCompareSizes,ZmH] using zq⟩
  case h=>exact⟨rfl,rfl,0,rfl,q⟩
end
section
variable {P:Program} {w:World} {A:Around} {s:Shared} {l b:Addr} {xs ys:Array Value} {e c:Nat->Bool}
theorem ZrY(hl:s.heap.IsTuple l xs)(hb:s.heap.IsTuple b ys)(hu:A.units<cLine)(he:∀j (h1:j<xs.size) (h2:j<ys.size),EqP P w A.in1 s xs[j] ys[j] (e j))(hc:∀j (h1:j<xs.size) (h2:j<ys.size),e j=false->RcP P w A.in1 s .Lt xs[j] ys[j] (c j)):RcP P w A s .Lt (.ref l) (.ref b) (Zo3 xs ys e c 0):=by
 obtain⟨⟨c1,d1,t1,s1⟩,o1,k1,n,e1⟩:=id hl;obtain⟨⟨c2,d2,t2,s2⟩,o2,k2,m,e2⟩:=id hb;simp only at k1 e1 k2 e2
 subst k1 e1 k2 e2;exact fun E Q q=>wpAny_richCompare_same_room hl.typeIs hb.typeIs F.slot_tuple_lt (call_meetsIn F.slot_tuple_lt hl.typeIs F.entry_tuple_lt (F.args_tuple_lt_2 _ _) (ZsU l b xs ys n m d1 d2 s1 s2 e c) ⟨o1,o2,he,hc,Zbs q⟩) hu
end
end L3
namespace L3
open PySem PySem.Spec PyProof.Rows L2 PySem.W PySem.Calls
section
variable {X:Cx} {pins:List (Addr×Obj)} {σ:L2.St} {H:Hp} {s:Shared} {A:Around}
theorem Zlp(I:L2.Inv X pins σ H s){x:Lf}{p:Addr}(h:SqT X.K H p [.str x.1,.int x.2]):∃t u,s.heap.IsTuple p #[.str x.1 t,.int x.2 u]:=by
 obtain⟨its,r,T,_⟩:=I.tuple h;cases r with
 |cons a r=>
  cases r with
  |cons b r=>
   cases r;obtain⟨t,rfl⟩:=a;obtain⟨u,rfl⟩:=b;exact⟨t,u,T⟩
theorem ZsV(I:L2.Inv X pins σ H s){x y:Lf}{a b:Addr}(ha:SqT X.K H a [.str x.1,.int x.2])(hb:SqT X.K H b [.str y.1,.int y.2])(hu:A.units<cLine):RcP X.prog X.w A s .Lt (.ref a) (.ref b) (Zk9 x y):=by
 obtain⟨t,u,T1⟩:=Zlp I ha;obtain⟨t',u',T2⟩:=Zlp I hb;have go:=ZrY (P:=X.prog) (w:=X.w) (A:=A) (e:=fun j=>if j=0 then decide (x.1=y.1) else(x.2==y.2)) (c:=fun j=>if j=0 then Xl x.1 y.1 else ZaN x.2 y.2) T1 T2 hu (fun j h1 h2=> ?_) (fun j h1 h2 z=> ?_)
 ·have e:Zo3 #[Value.str x.1 t,Value.int x.2 u] #[Value.str y.1 t',Value.int y.2 u'] (fun j=>if j=0 then decide (x.1=y.1) else(x.2==y.2)) (fun j=>if j=0 then Xl x.1 y.1 else ZaN x.2 y.2) 0=Zk9 x y:=by
   show(if decide (x.1=y.1)=true then(if(x.2==y.2)=true then false else ZaN x.2 y.2) else Xl x.1 y.1)=if x.1=y.1 then ZaN x.2 y.2 else Xl x.1 y.1
   by_cases z:x.1=y.1
   ·rw[if_pos (decide_eq_true z),if_pos z]
    by_cases z2:x.2=y.2
    ·rw[z2,beq_self_eq_true,if_pos rfl,ZcH.irr]
    ·rw[beq_false_of_ne z2,if_neg (by simp)]
   ·rw[if_neg (by rw[decide_eq_false z];simp),if_neg z]
  rw[e] at go
  exact go
 ·match j,h1,h2 with
  |0,_,_=>exact fun E Q q=>wpAny_eqBool_str q
  |1,_,_=>exact fun E Q q=>wpAny_eqBool_int q
 ·match j,h1,h2 with
  |0,_,_=>exact fun E Q q=>PySem.P.lt_str q
  |1,_,_=>exact fun E Q q=>PyProof.Rows.lt_int q
end
end L3
namespace L3
open PySem PySem.Spec PyProof.Rows L2 PySem.W PySem.Calls
section
variable {prog:Program} {w:World} {A:Around} {E:Value->Shared->Prop} {s:Shared} {ks vs:List Value} {ans:Nat->Nat->Bool}
def Zhl(prog:Program)(w:World)(A:Around)(κ:SortKind)(ks:List Value)(n:Nat)(ans:Nat->Nat->Bool)(s:Shared):Prop:=
 ∀i j,i<n->j<n->∀C:Bool->Shared->Prop,C (ans i j) s->wpAny (model prog w) A (keyLt' κ (ks.getD i Value.none) (ks.getD j Value.none)) C (fun _ _=>False) s
structure ZqI (ks vs:List Value) (ans:Nat->Nat->Bool) (st:SortSt):Prop where
 ex:∃p:Array Nat,Pl vs.length p/\Zat ans p vs.length/\(arrOf st).map (·.2)=List.toArray (p.toList.map fun i=>vs.getD i Value.none)
 ok:failedOf st=none
theorem Zjm{Q:SortSt->Shared->Prop}{κ:SortKind}(o:Ord ans)(hl:ks.length=vs.length)(h2:2<=vs.length)(h64:vs.length<64)(hk:Zhl prog w A κ ks vs.length ans s)(q:∀st,ZqI ks vs ans st->Q st s):wpAny (model prog w) A ((sortRuns').run (SortSt.mk' κ (ks.toArray.zip vs.toArray) #[] 7 none)) (fun r s'=>Q r.2 s') E s:=by
 refine kat_run (G:=fun p s'=>Pl vs.length p/\Zat ans p vs.length/\s'=s) hl h2 h64 (fun p st s' _ e f g=> ?_) (Zll (fun s'=>s'=s) (fun i j C s1 hi hj e hC=> ?_) (fun a s' z e=>⟨z.1,z.2,e⟩) _ s s (ZmF o (by omega)) rfl)
 ·obtain⟨a,b,rfl⟩:=g;exact q st ⟨⟨p,a,b,kat_snds hl e⟩,f⟩
 ·subst e;exact hk i j hi hj _ (hC _ rfl)
theorem Zlq(o:Ord ans)(hl:ks.length=vs.length)(h2:vs.length<2)(κ:SortKind):ZqI ks vs ans (SortSt.mk' κ (ks.toArray.zip vs.toArray) #[] 7 none):=by
 refine⟨⟨List.toArray (List.range vs.length),⟨by simp,Array.Perm.refl _⟩,fun i j hij hj=> ?_, ?_⟩,rfl⟩
 ·have:i=j:=by omega
  subst this;exact o.irr _
 ·apply Array.toList_inj.mp
  show((ks.toArray.zip vs.toArray).map (·.2)).toList=_;rw[Array.toList_map,ksk_zip];show List.map (·.2) (ks.toArray.toList.zip vs)=(List.range vs.length).map fun i=>vs.getD i Value.none;have e:List.map (·.2) (ks.toArray.toList.zip vs)=vs:=List.map_snd_zip (by simp[hl]);rw[e]
  apply List.ext_getElem
  ·simp
  ·intro i h1 h3;simp[h1]
theorem Zo4{D kS:Addr}{e1:Nat}{P:PySem.Fin->Shared->Prop}(o:Ord ans)(hl:ks.length=vs.length)(h64:vs.length<64)
  (hk:2<=vs.length->wpAny (model prog w) A (keyKind' (List.toArray ks)) (fun κ s'=>s'=s/\Zhl prog w A κ ks vs.length ans s) (fun _ _=>False) s)
  (q:∀st,ZqI ks vs ans st->wpAny (model prog w) A (ksk_tail D false e1 (.ref kS) st) P E s):wpAny (model prog w) A (ksk_end D false vs.toArray e1 (.ref kS) (List.toArray ks)) P E s:=by
 unfold ksk_end
 dsimp only
 simp only [reduceIte,Bool.false_eq_true]
 by_cases h2:vs.length<2
 ·have h3:vs.toArray.size<2:=by rw[List.size_toArray];exact h2
  rw[if_pos h3,if_pos h3];exact wpAny_bind (wpAny_pure (wpAny_bind (wpAny_pure (q _ (Zlq o hl h2 _)))))
 ·have h3:¬vs.toArray.size<2:=by rw[List.size_toArray];exact h2
  rw[if_neg h3,if_neg h3];refine wpAny_bind (wpAny_mono (hk (by omega)) (fun κ s0 z=> ?_) fun _ _ x=>x.elim);obtain⟨rfl,hk⟩:=z;exact wpAny_bind (Zjm (Q:=fun st s'=>wpAny (model prog w) A (ksk_tail D false e1 (.ref kS) st) P E s') o hl (by omega) h64 hk q)
theorem ZmI{D kS:Addr}{e1 e:Nat}{out:List Value}{st:SortSt}{P:PySem.Fin->Shared->Prop}(hk:s.heap.get? kS=some (seqObj "list" (List.toArray ks) e))(hD:s.heap.get? D=some (seqObj "list" #[] e1))(ne:D≠kS)(hout:(arrOf st).map (·.2)=List.toArray out)(hz:out.length<64)(hkz:ks.length<64)(hf:failedOf st=none)
  (q:P (.done (.ret .none)) {s with heap:=(s.heap.update kS (Obj.mapSeq fun _=> #[])).update D (Obj.mapSeq fun _=>List.toArray out)}):wpAny (model prog w) A (ksk_tail D false e1 (.ref kS) st) P E s:=by
 unfold ksk_tail
 dsimp only
 simp only [reduceIte,Bool.false_eq_true];rw[hout,hf];have hD1:(s.heap.update kS (Obj.mapSeq fun _=>(#[]:Array Value))).get? D=some (seqObj "list" #[] e1):=(Heap.get?_update_other _ _ (Ne.symm ne)).trans hD;have z1:(List.toArray ks).size<=sizeLine:=by rw[List.size_toArray,sizeLine_eq];omega
 have z2:(List.toArray out).size<=sizeLine+1:=by rw[List.size_toArray,sizeLine_eq];omega
 refine wpAny_bind (listUpdate_at hk rfl (wpAny_bind (wpAny_letGo (wpAny_bind (seqEpoch_at hD1 rfl (wpAny_bind (listUpdate_at hD1 rfl ?_ (Nat.zero_le _) z2)))))) z1 (Nat.zero_le _));simp only [reduceIte,bne_self_eq_false,Bool.false_eq_true];exact wpAny_pure q
end
section
variable {X:Cx} {pins:List (Addr×Obj)} {σ:L2.St} {H:Hp} {s:Shared}
structure Zf4 (X:Cx) (a:Addr):Prop where
 new:X.s₀.heap.objs.size<=a
 cells:∀x c,X.env.cells.lookup x=some c->c≠a
 pn:∀p∈X.pn,p.1≠a
theorem ZeD(I:L2.Inv X pins σ H s){a:Addr}(h:s.heap.objs.size<=a):Zf4 X a:=by
 refine⟨Nat.le_trans I.sz h,fun x c e z=> ?_,fun p hp z=> ?_⟩
 ·obtain⟨v,o,e1,_⟩:=I.cell x c e;exact absurd (z▸Heap.lt_size e1) (Nat.not_lt.mpr h)
 ·exact absurd (z▸Heap.lt_size (I.pin p (List.mem_append_left _ hp)).1) (Nat.not_lt.mpr h)
theorem Zbk{ps:List (Addr×Obj)}{a:Addr}{o o':Obj}{h':Heap}(I:L2.Inv X ((a,o)::ps) σ H s)(l:Zf4 X a)(n:∀p∈ps,p.1≠a)(k:∀b u,b≠a->s.heap.get? b=some u->h'.get? b=some u)(e:h'.get? a=some o')(nc:∀v,o'.data≠.cell v):L2.Inv X ((a,o')::ps) σ H {s with heap:=h'}:=by
 have pa:=I.pin (a,o) (List.mem_append_right _ (.head _));have I1:L2.Inv X ps σ H s:=I.pins_of fun p hp=>I.pin p (List.mem_append_right _ (.tail _ hp));have I2:L2.Inv X ps σ H {s with heap:=h'}:=I1.turned (it:=a) (t':=s.toks) k pa.2.1 pa.2.2.1 (.inr l.new) l.cells fun p hp=>(List.mem_append.mp hp).elim (l.pn p) (n p);refine I2.pins_of fun p hp=> ?_;rcases List.mem_cons.mp hp with rfl|hp
 ·exact⟨e,pa.2.1,pa.2.2.1,pa.2.2.2.1,nc⟩
 ·exact I2.pin p (List.mem_append_right _ hp)
theorem Yd{h:Heap}{a:Addr}{f:Array Value->Array Value}:∀b u,b≠a->h.get? b=some u->(h.update a (Obj.mapSeq f)).get? b=some u:=fun b u n e=>(Heap.get?_update_other _ _ (Ne.symm n)).trans e
theorem YD{c:String}{xs:Array Value}{n:Nat}:∀v,(seqObj c xs n).data≠.cell v:=fun _ z=>nomatch z
def kys(sp:Sp):List V->List V->Hp->(List V->Hp->Prop)->Prop
 |[],ks,H,R=>R ks H
 |x::r,ks,H,R=>sp [x] H (fun k H2=>kys sp r (ks++[k]) H2 R) fun _ _ _=>False
variable {k:Nat} {g:Addr} {fd:FuncData} {p:Str} {sp:Sp}
theorem Zpo(F:Yl X.prog X.w X.K X.mg X.base CX0 k g fd [p] sp)(hb:ZbZ X.K fd [p] [])(hr:Ju (k+2) X.A)(I:L2.Inv X pins σ H s){x:V}{u:Value}(r:ZX x u){Q:VK}(h:sp [x] H Q fun _ _ _=>False):
  wpAny (model X.prog X.w) X.A.in1.in1 (call (.ref g) [u]) (EP X pins σ Q) (fun _ _=>False) s:=by
 have bd:=hb s [u] I.kIn rfl;rw[List.append_nil] at bd
 refine wpAny_call (codeAny_mono (F.run X.A.in1.in1 X.stack s H ⟨[u],[]⟩ [u] [x] Q _ hr.in1.in1 I.env0.in1.in1 bd (.cons r .nil) h) fun r s2 z=> ?_);cases r with
 |ok fl=>
  cases fl with
  |ret u=>exact I.after z
  |next=>exact False.elim z
  |brk=>exact False.elim z
  |cont=>exact False.elim z
 |error ev=>exact False.elim z
theorem Zjn{E:Value->Shared->Prop}{D kS:Addr}{oD:Obj}{R:List V->Hp->Prop}{body:Value->PUnit->Sem (ForInStep PUnit)}
  (hb:∀(x:V) (u:Value) (ks:List Value) (e:Nat) (s:Shared) (H:Hp) (Q:VK),ks.length<64->L2.Inv X ((kS,seqObj "list" (List.toArray ks) e)::(D,oD)::pins) σ H s->ZX x u->sp [x] H Q (fun _ _ _=>False)->
   wpAny (model X.prog X.w) X.A.in1.in1 (body u ⟨⟩) (fun r s'=>r=.yield ⟨⟩/\∃v kv e' H',L2.Inv X ((kS,seqObj "list" (List.toArray (ks++[kv])) e')::(D,oD)::pins) σ H' s'/\ZX v kv/\Q v H') E s):
  ∀(r:List Value) (xr:List V) (ks:List Value) (kx:List V) (e:Nat) (s:Shared) (H:Hp),ks.length+r.length<64->L2.Inv X ((kS,seqObj "list" (List.toArray ks) e)::(D,oD)::pins) σ H s->Yc xr r->Yc kx ks->kys sp xr kx H R->
   wpAny (model X.prog X.w) X.A.in1.in1 (forIn r PUnit.unit body) (fun _ s'=>∃ks' kx' e' H',L2.Inv X ((kS,seqObj "list" (List.toArray ks') e')::(D,oD)::pins) σ H' s'/\Yc kx' ks'/\ks'.length=ks.length+r.length/\R kx' H') E s
 |[],xr,ks,kx,e,s,H,hl,I,rx,rk,h=>by
  cases rx;rw[List.forIn_nil];exact wpAny_pure ⟨ks,kx,e,H,I,rk,rfl,h⟩
 |u::r,xr,ks,kx,e,s,H,hl,I,rx,rk,h=>by
  cases rx with
  |cons ru rx=>
   rw[List.length_cons] at hl
   rw[List.forIn_cons];refine wpAny_bind (wpAny_mono (hb _ u ks e s H _ (by omega) I ru h) (fun q s' z=> ?_) fun _ _ x=>x);obtain⟨rfl,v,kv,e',H',I',rv,q'⟩:=z;have l2:(ks++[kv]).length=ks.length+1:=by rw[List.length_append];rfl
   refine wpAny_mono (Zjn hb r _ (ks++[kv]) (kx++[v]) e' s' H' (by omega) I' rx (Yc.append rk (.cons rv .nil)) q') (fun _ s2 z=> ?_) fun _ _ x=>x;obtain⟨ks',kx',e2,H2,I2,r2,l3,q2⟩:=z;exact⟨ks',kx',e2,H2,I2,r2,by rw[l3,l2,List.length_cons];omega,q2⟩
theorem ZmJ{E:Value->Shared->Prop}{D kS:Addr}{e1:Nat}{xs:List V}{vs:List Value}{R:List V->Hp->Prop}{P:PySem.Fin->Shared->Prop}(F:Yl X.prog X.w X.K X.mg X.base CX0 k g fd [p] sp)(hb:ZbZ X.K fd [p] [])(hr:Ju (k+2) X.A)(lk:Zf4 X kS)(nD:D≠kS)(np:∀p∈pins,p.1≠kS)
  (I:L2.Inv X ((kS,seqObj "list" #[] 0)::(D,seqObj "list" #[] e1)::pins) σ H s)(rx:Yc xs vs)(h64:vs.length<64)(h:kys sp xs [] H R)
  (q:∀ks kx e H' s',L2.Inv X ((kS,seqObj "list" (List.toArray ks) e)::(D,seqObj "list" #[] e1)::pins) σ H' s'->Yc kx ks->ks.length=vs.length->R kx H'->wpAny (model X.prog X.w) X.A.in1.in1 (ksk_end D false vs.toArray e1 (.ref kS) (List.toArray ks)) P E s'):
  wpAny (model X.prog X.w) X.A.in1.in1 (ksk_rest D (.ref g) false vs.toArray e1 (.ref kS)) P E s:=by
 unfold ksk_rest;refine wpAny_bind (wpAny_rule ?_);rw[List.forIn_toArray];refine wpAny_bind (wpAny_mono (Zjn (sp:=sp) (R:=R) (fun x u ks e s H Q hz I ru hs=> ?_) vs xs [] [] 0 s H (by simpa using h64) I rx .nil h) (fun _ s' z=> ?_) fun _ _ x=>x)
 ·refine wpAny_bind (wpAny_attempt (wpAny_mono (Zpo F hb hr I ru hs) (fun kv s2 z=> ?_) fun _ _ x=>x.elim));obtain⟨v,H2,I2,rv,q2⟩:=z;have pk:=(I2.pin (kS,seqObj "list" (List.toArray ks) e) (List.mem_append_right _ (.head _))).1;have ea:(List.toArray ks).push kv=List.toArray (ks++[kv]):=by simp
  have up:=get?_update_seq pk (·.push kv);rw[ea] at up
  dsimp only
  refine wpAny_bind (listUpdate_at pk rfl ?_ (by rw[List.size_toArray,sizeLine_eq];omega) (Nat.le_trans (Nat.le_of_eq (Array.size_push ..)) (by rw[List.size_toArray,sizeLine_eq];omega)))
  refine wpAny_pure ⟨rfl,v,kv,_,H2,Zbk I2 lk (fun p hp=> ?_) Yd up YD,rv,q2⟩;rcases List.mem_cons.mp hp with rfl|hp
  ·exact nD
  ·exact np p hp
 ·obtain⟨ks,kx,e,H2,I2,rk,l,r2⟩:=z;have pk:=(I2.pin (kS,seqObj "list" (List.toArray ks) e) (List.mem_append_right _ (.head _))).1
  try dsimp only
  refine wpAny_bind (listItems_at pk rfl ?_);exact q ks kx e H2 s' I2 rk (by simpa using l) r2
theorem Zka:∀{xs:List V} {vs:List Value} (_:Yc xs vs) (i:Nat),i<vs.length->ZX (xs.getD i .non) (vs.getD i Value.none)
 |_,_,.nil,i,h=>absurd h (Nat.not_lt_zero _)
 |_,_,.cons v _,0,_=>v
 |_,_,.cons _ t,i+1,h=>Zka t i (by simpa using h)
theorem Zkb{xs:List V}{vs:List Value}(r:Yc xs vs){p:Array Nat}(pl:Pl vs.length p):Yc (p.toList.map fun i=>xs.getD i .non) (p.toList.map fun i=>vs.getD i Value.none):=by
 have mem:∀i∈p.toList,i<vs.length:=fun i hi=>by
  have:=(Array.perm_iff_toList_perm.mp pl.perm).mem_iff (a:=i)
  simpa using this.mp hi
 have go:∀l:List Nat,(∀i∈l,i<vs.length)->Yc (l.map fun i=>xs.getD i .non) (l.map fun i=>vs.getD i Value.none):=by
  intro l
  induction l with
  |nil=>exact fun _=> .nil
  |cons i l ih=>exact fun h=> .cons (Zka r i (h i (.head _))) (ih fun j hj=>h j (.tail _ hj))
 exact go _ mem
theorem Zkc{α β:Type}{xs:List α}{ks:List β}{a:α}{b:β}(hl:xs.length=ks.length){p:Array Nat}(pl:Pl xs.length p):(p.toList.map fun i=>(xs.getD i a,ks.getD i b)).Perm (xs.zip ks):=by
 have e:(List.range xs.length).map (fun i=>(xs.getD i a,ks.getD i b))=xs.zip ks:=by
  apply List.ext_getElem
  ·simp[hl]
  ·intro i h1 h2;have h3:i<xs.length:=by simpa using h1
   have h4:i<ks.length:=by omega
   simp[h3,h4]
 rw[<-e];refine List.Perm.map _ ?_
 simpa using Array.perm_iff_toList_perm.mp pl.perm
theorem Zkd{α β:Type}{lt:β->β->Bool}{f:Nat->α}{kk:Nat->β}{n:Nat}{p:Array Nat}(so:Zat (fun i j=>lt (kk i) (kk j)) p n)(pl:Pl n p):(p.toList.map fun i=>(f i,kk i)).Pairwise (fun a b=>lt b.2 a.2=false):=by
 rw[List.pairwise_map,List.pairwise_iff_getElem];intro i j hi hj hij;have sz:p.toList.length=n:=by rw[Array.length_toList,pl.size]
 have h:=so i j (Nat.le_of_lt hij) (by omega);have e:∀m (hm:m<p.toList.length),at_ p m=p.toList[m]:=fun m hm=>by
  have hm':m<p.size:=by simpa using hm
  simp[at_,Array.getD,hm']
 rw[e i hi,e j hj] at h
 exact h
end
end L3
namespace L3
open PySem PySem.Spec PyProof.Rows L2 PySem.W PySem.Calls
section
variable {prog:Program} {w:World} {A:Around} {E:Value->Shared->Prop} {s:Shared} {vs:List Value} {ans:Nat->Nat->Bool}
abbrev ZaG(h:Heap)(D:Addr)(vs:List Value):Heap:=((h.update D (Obj.mapSeq fun _=>(#[]:Array Value))).push (seqObj "tuple" vs.toArray 0)).push (seqObj "list" #[] 0)
theorem ZhN{D:Addr}{n:Nat}{P:PySem.Fin->Shared->Prop}(ho:s.heap.get? D=some (seqObj "list" vs.toArray n))(h64:vs.length<64)(o:Ord ans)
  (hk:2<=vs.length->wpAny (model prog w) A (keyKind' vs.toArray) (fun κ s'=>s'={s with heap:=ZaG s.heap D vs}/\Zhl prog w A κ vs vs.length ans {s with heap:=ZaG s.heap D vs}) (fun _ _=>False) {s with heap:=ZaG s.heap D vs})
  (q:∀p:Array Nat,Pl vs.length p->Zat ans p vs.length->P (.done (.ret .none)) {s with heap:=sortedHeap s.heap D vs (List.toArray (p.toList.map fun i=>vs.getD i Value.none))}):wpAny (model prog w) A (Builtin.«list.sort» ⟨[.ref D],[]⟩) P E s:=by
 have hz:vs.length<=sizeLine:=by rw[sizeLine_eq];omega
 have za:vs.toArray.size<=sizeLine:=by rw[List.size_toArray];exact hz
 obtain⟨e1,o1⟩:∃e1,(s.heap.update D (Obj.mapSeq fun _=>(#[]:Array Value))).get? D=some (seqObj "list" #[] e1):=⟨_,get?_update_seq ho fun _=> #[]⟩
 have o2:(ZaG s.heap D vs).get? D=some (seqObj "list" #[] e1):=Heap.get?_push_of_some _ (Heap.get?_push_of_some _ o1);rw[list_sort_plain];refine wpAny_bind (listItems_at ho rfl (wpAny_bind (listUpdate_at ho rfl (wpAny_bind (seqEpoch_at o1 rfl (wpAny_bind (wpAny_newTuple (wpAny_bind (wpAny_newList (wpAny_holding ?_) (Nat.zero_le _))) hz)))) za (Nat.zero_le _))));have zp:∀p:Array Nat,Pl vs.length p->(List.toArray (p.toList.map fun i=>vs.getD i Value.none)).size<=sizeLine+1:=fun p pl=>by rw[List.size_toArray,List.length_map,Array.length_toList,pl.size,sizeLine_eq];omega
 dsimp only
 by_cases h2:vs.length<2
 ·have h3:vs.toArray.size<2:=by rw[List.size_toArray];exact h2
  rw[if_pos h3,if_pos h3];refine wpAny_bind (wpAny_pure ?_);refine wpAny_bind (wpAny_pure ?_);obtain⟨⟨p,pl,so,hout⟩,_⟩:=Zlq (ks:=vs) o rfl h2 general'
  try dsimp only
  rw[hout];refine wpAny_bind (seqEpoch_at o2 rfl (wpAny_bind (listUpdate_at o2 rfl ?_ (Nat.zero_le _) (zp p pl))));simp only [reduceIte,bne_self_eq_false,Bool.false_eq_true];exact wpAny_pure (q p pl so)
 ·have h3:¬vs.toArray.size<2:=by rw[List.size_toArray];exact h2
  rw[if_neg h3,if_neg h3];refine wpAny_bind (wpAny_mono (hk (by omega)) (fun κ s0 z=> ?_) fun _ _ x=>x.elim);obtain⟨rfl,ak⟩:=z;refine wpAny_bind (wpAny_mono (Zjm (Q:=fun st s'=>ZqI vs vs ans st/\s'={s with heap:=ZaG s.heap D vs}) o rfl (by omega) h64 ak fun st dn=>⟨dn,rfl⟩) (fun r s' z=> ?_) fun _ _ x=>x);obtain⟨⟨⟩,st⟩:=r;obtain⟨⟨⟨p,pl,so,hout⟩,hf⟩,rfl⟩:=z
  try dsimp only
  rw[hout,hf];refine wpAny_bind (seqEpoch_at o2 rfl (wpAny_bind (listUpdate_at o2 rfl ?_ (Nat.zero_le _) (zp p pl))));simp only [reduceIte,bne_self_eq_false,Bool.false_eq_true];exact wpAny_pure (q p pl so)
end
section
variable {X:Cx} {pins:List (Addr×Obj)} {σ:L2.St} {H:Hp} {s:Shared}
theorem Zlr{h:Heap}{D:Addr}{vs:List Value}:∀b u,b≠D->h.get? b=some u->(ZaG h D vs).get? b=some u:=fun b u n e=>Heap.get?_push_of_some _ (Heap.get?_push_of_some _ (Yd b u n e))
end
end L3
namespace L3
open PySem PySem.Spec PyProof.Rows L2 PySem.W PySem.Calls
section
variable {X:Cx}
end
end L3
namespace L3
open PySem PySem.Spec PyProof.Rows L2
section
variable {X:Cx}
def ZrZ(H₀:Hp)(t:TE):TE:=fun σ H Q=>t σ H fun v H1=>∃a H2,ZmA H₀ a H1 H2/\Q v H2
theorem ZhO{e:PySem.Expr}{t:TE}(h:PE X e t):PE X e (ZrZ X.H₀ t):=fun pins s σ H Q I q=>
 thn (h pins s σ H _ I q) fun _ _ z=>by
  obtain⟨v,H1,I1,r1,a,H2,⟨hf,o,u,e1,rfl⟩,q1⟩:=z;exact⟨v,_,ZdI I1 e1 hf,r1,q1⟩
end
end L3
namespace M4
open PySem L3 M3
section
variable {α:Type} {lt:α->α->Bool}
def Asc(lt:α->α->Bool)(l:List α):Prop:=l.Pairwise fun x y=>lt y x=false
theorem Zke(o:STO lt):∀{a b:List α},a.Perm b->Asc lt a->Asc lt b->a=b
 |[],b,p,_,_=>(List.nil_perm.mp p).symm
 |x::a,[],p,_,_=>absurd (List.perm_nil.mp p) (by simp)
 |x::a,y::b,p,ha,hb=>by
  have ha:=List.pairwise_cons.mp ha;have hb:=List.pairwise_cons.mp hb;have e:x=y:=by
   have m1:x∈y::b:=p.mem_iff.mp (List.mem_cons_self ..);have m2:y∈x::a:=p.mem_iff.mpr (List.mem_cons_self ..);rcases List.mem_cons.mp m1 with z|z
   ·exact z
   ·rcases List.mem_cons.mp m2 with w|w
    ·exact w.symm
    ·rcases o.tri x y with q|q|q
     ·exact absurd q (by rw[hb.1 x z];simp)
     ·exact q
     ·exact absurd q (by rw[ha.1 y w];simp)
  subst e;rw[Zke o ((List.perm_cons x).mp p) ha.2 hb.2]
end
theorem Zpp{c:Tb}{k:Str}{v:Int}(j:Str):lk (ZeL c k v) j=if j=k then some v else lk c j:=by
 have up:∀c:Tb,(∃p∈c,p.1=k)->lk (c.map fun p=>if p.1=k then(p.1,v) else p) j=if j=k then some v else lk c j:=by
  intro c
  induction c with
  |nil=>intro ⟨p,hp,_⟩;cases hp
  |cons q r ih=>
   intro hm
   by_cases e:q.1=k
   ·by_cases z:j=k
    ·subst z;rw[if_pos rfl];simp[lk,List.find?_cons,e]
    ·rw[if_neg z];have n1:¬q.1=j:=fun w=>z (w.symm.trans e);have h1:lk (q::r) j=lk r j:=by simp[lk,List.find?_cons,n1]
     have h2:lk ((q::r).map fun p=>if p.1=k then(p.1,v) else p) j=lk (r.map fun p=>if p.1=k then(p.1,v) else p) j:=by
      rw[List.map_cons,if_pos e];simp[lk,List.find?_cons,n1]
     rw[h1,h2]
     by_cases more:∃p∈r,p.1=k
     ·rw[ih more,if_neg z]
     ·have e3:(r.map fun p=>if p.1=k then(p.1,v) else p)=r:=by
       refine(List.map_congr_left fun p hp=> ?_).trans (List.map_id' r);rw[if_neg fun w=>more ⟨p,hp,w⟩]
      rw[e3]
   ·have more:∃p∈r,p.1=k:=by
     obtain⟨p,hp,w⟩:=hm;obtain rfl|hp:=List.mem_cons.mp hp
     ·exact absurd w e
     ·exact⟨p,hp,w⟩
    rw[List.map_cons,if_neg e]
    by_cases n1:q.1=j
    ·have z:¬j=k:=fun w=>e (n1.trans w);rw[if_neg z];simp[lk,List.find?_cons,n1]
    ·have h1:lk (q::r) j=lk r j:=by simp[lk,List.find?_cons,n1]
     have h2:∀t:Tb,lk (q::t) j=lk t j:=fun t=>by simp[lk,List.find?_cons,n1]
     rw[h1,h2,ih more]
 unfold ZeL
 by_cases m:(c.any fun p=>decide (p.1=k))=true
 ·rw[if_pos m];obtain⟨p,hp,e⟩:=List.any_eq_true.mp m;exact up c ⟨p,hp,of_decide_eq_true e⟩
 ·rw[if_neg m];have no:∀p∈c,¬p.1=k:=fun p hp e=>m (List.any_eq_true.mpr ⟨p,hp,decide_eq_true e⟩);clear m up
  induction c with
  |nil=>
   by_cases z:j=k
   ·rw[if_pos z];simp[lk,z]
   ·rw[if_neg z];have n1:¬k=j:=fun w=>z w.symm;simp[lk,List.find?_cons,n1]
  |cons q r ih=>
   have ih:=ih fun p hp=>no p (List.mem_cons_of_mem _ hp)
   by_cases n1:q.1=j
   ·have z:¬j=k:=fun w=>no q (List.mem_cons_self ..) (n1.trans w);rw[if_neg z];simp[lk,List.find?_cons,n1]
   ·have h2:∀t:Tb,lk (q::t) j=lk t j:=fun t=>by simp[lk,List.find?_cons,n1]
    rw[List.cons_append,h2,h2,ih]
end M4
namespace L3
open PySem PySem.Spec PyProof.Rows L2 PySem.W PySem.Calls
section
variable {X:Cx} {pins:List (Addr×Obj)} {σ:L2.St} {H:Hp} {s:Shared} {A:Around}
theorem Zpq{ps:List (Addr×Obj)}{a:Addr}{o o':Obj}{h':Heap}{t':Nat}(I:L2.Inv X ((a,o)::ps) σ H s)(l:Zf4 X a)(n:∀p∈ps,p.1≠a)(k:∀b u,b≠a->s.heap.get? b=some u->h'.get? b=some u)(e:h'.get? a=some o')(nc:∀v,o'.data≠.cell v):L2.Inv X ((a,o')::ps) σ H {s with heap:=h',toks:=t'}:=by
 have pa:=I.pin (a,o) (List.mem_append_right _ (.head _));have I1:L2.Inv X ps σ H s:=I.pins_of fun p hp=>I.pin p (List.mem_append_right _ (.tail _ hp));have I2:L2.Inv X ps σ H {s with heap:=h',toks:=t'}:=I1.turned (it:=a) (t':=t') k pa.2.1 pa.2.2.1 (.inr l.new) l.cells fun p hp=>(List.mem_append.mp hp).elim (l.pn p) (n p);refine I2.pins_of fun p hp=> ?_;rcases List.mem_cons.mp hp with rfl|hp
 ·exact⟨e,pa.2.1,pa.2.2.1,pa.2.2.2.1,nc⟩
 ·exact I2.pin p (List.mem_append_right _ hp)
theorem ZaO{ps:List (Addr×Obj)}{p q:Addr×Obj}(I:L2.Inv X (p::q::ps) σ H s):L2.Inv X (q::p::ps) σ H s:=
 I.pins_of fun r hr=>I.pin r (List.mem_append_right _ (by
  rcases List.mem_cons.mp hr with rfl|hr
  ·exact .tail _ (.head _)
  ·rcases List.mem_cons.mp hr with rfl|hr
   ·exact .head _
   ·exact .tail _ (.tail _ hr)))
variable {k:Nat} {g:Addr} {fd:FuncData} {p:Str} {sp:Sp}
abbrev ZsW(X:Cx)(pins:List (Addr×Obj))(σ:L2.St)(R:VK)(E:Value->Shared->Prop):Result->Shared->Prop:=fun r s'=>match r with| .ok (.ret v)=>EP X pins σ R v s'| .ok _=>False| .error e=>E e s'
section
variable {prog:Program} {w:World} {B:Around} {R:Result->Shared->Prop} {it S:Addr} {key:Value} {c:Nat} {s:Shared}
theorem ZhP{P:PySem.Fin->Shared->Prop}(hP:∀f s',P f s'->match f with| .done x=>R (.ok x) s'| .again c'=>c'.quiet=true/\codeAny (model prog w) B c' R s')
  (h:wpAny (model prog w) B.in1 (Builtin.«min.loop» ⟨[.ref it,key,.ref S],[]⟩) P (fun e s'=>R (.error e) s') s):codeAny (model prog w) B (.builtin "min.loop" ⟨[.ref it,key,.ref S],[]⟩) R s:=
 codeAny_builtin F.entry_min_loop (by
  have e:=Around.under_plainId (A:=B) F.plain_min_loop ⟨[Value.ref it,key,.ref S],[]⟩;rw[e];exact wpAny_mono h (fun f s' z=>hP f s' z) fun _ _ z=>z)
theorem Zpr:toString "min"++toString ".loop"="min.loop":=rfl
theorem ZqJ{Kp:Heap->Prop}{ub uk:Value}(hS:s.heap.get? S=some (seqObj "list" #[ub,uk] c))(hn:∀(Q:Option Value->Shared->Prop) (E:Value->Shared->Prop),(∀h' tk,Kp h'->Q none {s with heap:=h',toks:=tk})->wpAny (model prog w) B.in1 (pyNext (.ref it)) Q E s)
  (kp:∀h',Kp h'->h'.get? S=some (seqObj "list" #[ub,uk] c))(q:∀h' tk,Kp h'->R (.ok (.ret ub)) {s with heap:=h'.update S (Obj.mapSeq fun _=> #[]),toks:=tk}):codeAny (model prog w) B (.builtin "min.loop" ⟨[.ref it,key,.ref S],[]⟩) R s:=by
 refine ZhP (P:=fun f s'=>match f with| .done x=>R (.ok x) s'| .again _=>False) (fun f s' z=>by cases f with|done x=>exact z|again _=>exact z.elim) ?_;show wpAny _ _ (seqItems? (.ref S)>>=_) _ _ s;refine wpAny_bind (wpAny_seqItems hS rfl (show wpAny _ _ (tryCatch (pyNext (.ref it)) _>>=_) _ _ s from ?_));refine wpAny_bind (wpAny_tryCatch (hn _ _ fun h' tk k=> ?_));show wpAny _ _ (updateSeq S (fun _=> #[])>>=_) _ _ _
 exact wpAny_bind (wpAny_updateSeq (kp h' k) rfl (wpAny_bind (wpAny_letGo (wpAny_pure (q h' tk k)))))
end
theorem ZeE{l it:Addr}{oI:Obj}{ps:List (Addr×Obj)}{xs:List V}{j:Nat}{x:V}(hh:X.A.handled=none)(nl:l≠it)(lI:Zf4 X it)(n:∀p∈ps,p.1≠it)(hq:SqL X.K H l xs)(hx:xs[j]? =some x)(I:L2.Inv X ((it,oI)::ps) σ H s)(hit:s.heap.IsListIter it l j)(Q:Option Value->Shared->Prop)(E:Value->Shared->Prop)
  (q:∀v h' tk,(ZX x v/\∀tk',∃o,L2.Inv X ((it,o)::ps) σ H {s with heap:=h',toks:=tk'}/\∀h2:Heap,h2.get? it=some o->h2.IsListIter it l (j+1))->Q (some v) {s with heap:=h',toks:=tk}):wpAny (model X.prog X.w) X.A.in1 (pyNext (.ref it)) Q E s:=by
 obtain⟨vs,rx,pl,_⟩:=I.list hq;have lt:j<vs.length:=by rw[<-rx.length];exact(List.getElem?_eq_some_iff.mp hx).1
 refine(Walks.list (prog:=X.prog) (w:=X.w) (A:=X.A.in1) hh it l nl vs.toArray).item j s Q E (by rw[List.size_toArray];exact lt) ⟨hit,pl.isList⟩ fun v h' tk pv st kp=>q v h' tk ⟨?_,fun tk'=> ?_⟩
 ·have e:vs[j]? =some v:=by simpa using pv
  have r:=Zka rx j lt;rw[List.getD_eq_getElem?_getD,List.getD_eq_getElem?_getD,hx,e] at r
  exact r
 ·obtain⟨⟨o,e1,e2,e3⟩,_⟩:=st;exact⟨o,Zpq I lI n (fun b u nb e=>kp b u (by simpa using nb) e) e1 (fun v z=>by rw[e3] at z;cases z),fun h2 e=>⟨o,e,e2,e3⟩⟩
end
end L3
namespace L3
open PySem PySem.Spec PyProof.Rows L2
section
variable {P:Program} {w:World} (l:Addr) (xs:Array Value) (n:Nat) (d1:Option Addr) (s1:Array (Option Value)) (y:Value) (e:Nat->Bool)
theorem Zs0(k:Nat):∀i:Nat,xs.size-i=k->MeetsIn P w (Builtin.«list.__contains__.loop» ⟨[.ref l,y,rawInt i],[]⟩)
  (fun A R s=>s.heap.get? l=some (Zli d1 xs n s1)/\(∀j (h1:j<xs.size),EqP P w A.in1 s xs[j] y (e j))/\R (.ok (.ret (.bool (((List.range xs.size).drop i).any e)))) s):=by
 induction k with
 |zero=>
  intro i hk A R s h;obtain⟨hq,gs,dr,tk,oss⟩:=s;obtain⟨u1,ue,q⟩:=h;have v1:xs[((i:Nat):Int).toNat]? =none:=by simp;omega
  have v3:(List.range xs.size).drop i=[]:=by simp;omega
  rw[v3] at q
  wp_walk using AutoSeq1.wpAny_loadPart' u1
  rw[v1]
  wp_walk
  exact q
 |succ k ih=>
  intro i hk A R s h;obtain⟨hq,gs,dr,tk,oss⟩:=s;obtain⟨u1,ue,q⟩:=h;have t1:i<xs.size:=by omega
  have v1:xs[((i:Nat):Int).toNat]? =some xs[i]:=by simp[t1]
  have v3:(List.range xs.size).drop i=i::(List.range xs.size).drop (i+1):=by simp[List.drop_eq_getElem_cons,t1]
  have v4:((i:Int)+1)=((i+1:Nat):Int):=by push_cast;rfl
  rw[v3,List.any_cons] at q
  wp_walk using AutoSeq1.wpAny_loadPart' u1
  rw[v1];refine wpAny_bind (ue i t1 _ _ ?_);cases ei:e i with
  |true=>
   rw[ei,Bool.true_or] at q
   wp_walk
   exact q
  |false=>
   rw[ei,Bool.false_or] at q
   wp_walk
   rw[v4];refine⟨plainId_quiet MeetsSeq.plain_contains_loop _,codeAny_builtin MeetsSeq.entry_contains_loop ?_⟩;rw[Around.under_plainId MeetsSeq.plain_contains_loop _];exact ih (i+1) (by omega) A R _ ⟨u1,ue,q⟩
theorem Zs1:MeetsIn P w (Builtin.«list.__contains__» ⟨[.ref l,y],[]⟩)
  (fun A R s=>s.heap.get? l=some (Zli d1 xs n s1)/\(∀j (h1:j<xs.size),EqP P w A.in1 s xs[j] y (e j))/\R (.ok (.ret (.bool ((List.range xs.size).any e)))) s):=by
 intro A R s h;obtain⟨hq,gs,dr,tk,oss⟩:=s;obtain⟨u1,ue,q⟩:=h
 wp_walk using AutoSeq1.wpAny_loadPart' u1
 refine⟨plainId_quiet MeetsSeq.plain_contains_loop _,codeAny_builtin MeetsSeq.entry_contains_loop ?_⟩;rw[Around.under_plainId MeetsSeq.plain_contains_loop _];exact Zs0 l xs n d1 s1 y e _ 0 rfl A R _ ⟨u1,ue,by simpa using q⟩
end
section
variable {X:Cx} {pins:List (Addr×Obj)} {σ:L2.St} {H:Hp} {s:Shared} {A:Around} {E:Value->Shared->Prop}
theorem Zps{l:Addr}{xs:Array Value}{y:Value}{e:Nat->Bool}{Q:Value->Shared->Prop}(hl:s.heap.IsList l xs)(he:∀j (h1:j<xs.size),EqP X.prog X.w A.in1 s xs[j] y (e j))(q:∀b,b=(List.range xs.size).any e->Q (.bool b) s):
  wpAny (model X.prog X.w) A (call (.builtin "list.__contains__") [.ref l,y]) (fun v s'=>∃b,v=.bool b/\Q (.bool b) s') E s:=by
 obtain⟨⟨c1,d1,t1,s1⟩,o1,k1,n,e1⟩:=id hl;simp only at k1 e1
 subst k1 e1;exact call_meetsIn F.slot_list_contains hl.typeIs F.entry_list_contains (F.args_list_contains_2 _ _) (Zs1 l xs n d1 s1 y e) ⟨o1,he,_,rfl,q _ rfl⟩
theorem Zo5{α:Type}(f:α->Bool)(d:α):∀l:List α,((List.range l.length).any fun j=>f (l.getD j d))=l.any f:=by
 intro l;have e:l=(List.range l.length).map fun j=>l.getD j d:=by
  apply List.ext_getElem
  ·simp
  ·intro i h1 h2;simp[h1]
 conv=>rhs;rw[e]
 rw[List.any_map]
 rfl
def ZtD(K:PySem.W.Frag)(neg:Bool):R2:=fun x y H Q=>∃p n d xs ds,y=.ref p/\n<=20/\SqL K H p xs/\Rep K H d x/\Zlk K H ds xs/\(∀e∈ds,ZbA n e d=true)/\Q (.bl (if neg then !(ds.any fun e=>Jb n e d) else ds.any fun e=>Jb n e d)) H
theorem ZqK(I:L2.Inv X pins σ H s){p:Addr}{n:Nat}{d:Dt}{x:V}{v:Value}{xs:List V}{ds:List Dt}(hn:n<=20)(hu:X.A.units+30<cLine)(rx:ZX x v)(r1:Rep X.K H d x)(rs:Zlk X.K H ds xs)(lk:∀e∈ds,ZbA n e d=true){us:List Value}(ru:Yc xs us):
  ∀j (h1:j<us.toArray.size),EqP X.prog X.w X.A.in1 s us.toArray[j] v (Jb n (ds.getD j (.v .non)) d):=fun j h1=>by
 have h2:j<us.length:=by simpa using h1
 obtain⟨y,ry,rv⟩:=Zhj rs ru j h2;have hj:j<ds.length:=by rw[Paired.length rs,ru.length];exact h2
 have m:ds.getD j (.v .non)∈ds:=by rw[List.getD_eq_getElem?_getD,List.getElem?_eq_getElem hj];exact List.getElem_mem hj
 rw[List.getElem_toArray];exact(Znp I n _ d y x _ v X.A.in1 ry r1 rv rx (lk _ m) (by show X.A.units+1+n<cLine;omega)).1
theorem Zo6(hu:X.A.units+30<cLine):OpR X (compareOp .NotIn) (ZtD X.K true):=by
 intro pins s σ H x y v u Q I rx ry h;obtain⟨p,n,d,xs,ds,rfl,hn,hq,r1,rs,lk,q⟩:=h;cases ry;obtain⟨us,ru,pl,_⟩:=I.list hq;show wpAny _ X.A (do return Value.bool (!(<-contains (.ref p) v))) _ _ s;refine wpAny_bind (wpAny_contains_slot pl.isList.typeIs F.slot_list_contains (wpAny_mono (Zps (X:=X) (Q:=fun v s'=>∃b,v=.bool b/\EP X pins σ Q (.bool (!b)) s') pl.isList (ZqK (p:=p) I hn hu rx r1 rs lk ru) fun b hb=>⟨b,rfl,.bl (!b),H,I,rfl, ?_⟩) (fun v s' hv=> ?_) fun _ _ e=>e))
 ·have le:us.toArray.size=ds.length:=by rw[List.size_toArray,<-ru.length,Paired.length rs]
  rw[hb,le,Zo5 (fun e=>Jb n e d)];exact q
 ·obtain⟨b,rfl,b',e,told⟩:=hv;cases e;exact wpAny_truthy_bool (wpAny_pure told)
end
end L3
namespace L3
open PySem PySem.Spec PyProof.Rows L2 PySem.W PySem.Calls
section
variable {X:Cx}
theorem ZsX{pins:List (Addr×Obj)}{σ:L2.St}{H:Hp}{s:Shared}{a:Addr}{kvs:List (Key×V)}(I:L2.Inv X pins σ H s)(h:Rd H a (.dK kvs)):XH X.prog X.w H s.heap a (.dK kvs):=by
 rcases h with h|⟨o,h⟩
 ·exact I.hok a _ h
 ·exact(I.hok a _ h).2
def ZcI(v a:Addr):HO:=.ext fun h=>h.IsValuesView v a
def ZqL(tl:TE):TE:=fun σ H Q=>tl σ H fun x H1=>∃a kvs,x=.ref a/\Rd H1 a (.dK kvs)/\∀v,H1 v=none->Q (.ref v) (upd H1 v (ZcI v a))
theorem Zo7{o:PySem.Expr}{to:TE}{apos cpos:Pos}(ho:PE X o to)
  (hb:attributeBase o "values" X.env (eval o X.env)=eval o X.env:=by rfl)(hline:(apos.endLine==cpos.line)=true:=by rfl):PE X (.Call (.Attribute o "values" apos) [] [] cpos) (ZqL to):=by
 intro pins s σ H Q I h;refine wpAny_Call_method0_late hb hline (thn (ho pins s σ H _ I h) fun v s1 ⟨x,H1,I1,r1,a,kvs,e,ha,q1⟩=> ?_);subst e;cases r1;obtain⟨t1,t2,_⟩:=Zk0 I1 (.inl ⟨kvs,ha⟩);obtain⟨z1,z2,vs,z3,z4⟩:=ZsX I1 ha;refine⟨"dict","dict.values",F.plainAttrs_dict,F.slot_dict_values,F.type_dict_values,t1,t2,Calls.callWith_builtin rfl (PySem.evalArgs_none ?_)⟩;refine call_meetsIn F.slot_dict_values t1 F.entry_dict_values (F.args_dict_values_1 _) (meets_dict_values (Yy X.prog X.w) a z2) ⟨⟨vs,z4⟩, ?_⟩
 refine⟨.ref _,_,I1.laid (a:=s1.heap.objs.size) (o:=ZcI s1.heap.objs.size a) (t':=s1.toks) (fun b q hq=>Heap.get?_push_of_some _ hq) (Nat.le_refl _) ?_,rfl,q1 _ I1.fresh⟩;refine⟨⟨_,Heap.get?_push_size _ rfl,rfl,rfl⟩,⟨_,Heap.get?_push_size _ rfl⟩,fun g1 g2 z k=> ?_⟩;obtain⟨ob,e1,e2⟩:=z;exact⟨ob,k _ e1,e2⟩
end
end L3
namespace L3
open PySem PySem.Spec PyProof.Rows L2 PySem.W PySem.Calls
section
variable {X:Cx} {pins:List (Addr×Obj)} {σ:L2.St} {H:Hp} {s:Shared} {a:Addr} {kvs:List (Key×V)} {k:Key} {u:Value} {A:Around} {E:Value->Shared->Prop}
theorem Zpt{v:V}{r:Value}{Q:Value->Shared->Prop}(I:L2.Inv X pins σ H s)(e:H a=some (.dK kvs))(hl:kvs.length<sizeLine)(ry:ZX (kV k) u)(rv:ZX v r)
  (h1:∀w s' x,Yp kvs k=some x->L2.Inv X pins σ H s'->ZX x w->Q w s')(h2:∀s',Yp kvs k=none->L2.Inv X pins σ (upd H a (.dK (Js kvs k v))) s'->Q r s'):
  wpAny (model X.prog X.w) A (call (.builtin "dict.setdefault") [.ref a,u,r]) Q E s:=by
 obtain⟨z,hd,vs,rel,dd⟩:=Zrl I.hok e;have hz:vs.length<=sizeLine:=by rw[<-rel.length];exact z
 have hv:=rel.val k;refine call_meetsIn PySem.F.slot_dict_setdefault dd.typeIs PySem.F.entry_dict_setdefault (PySem.F.args_dict_setdefault_3 _ _ _) (kt_meets_setdefault (Yy X.prog X.w) a (ZgR ry) hd r) ⟨vs,dd,hz,fun w hw=> ?_,fun hn h' dd' hs=> ?_⟩
 ·rw[hw] at hv
  cases ex:Yp kvs k with
  |none=>rw[ex] at hv;exact hv.elim
  |some x=>
   rw[ex] at hv
   exact h1 w _ x ex (I.tok _) hv
 ·have ex:Yp kvs k=none:=by
   rw[hn] at hv
   cases ex:Yp kvs k with
   |none=>rfl
   |some x=>rw[ex] at hv;exact hv.elim
  have he:∃q,h'.get? a=some q:=let ⟨q,_,_,hq,_⟩:=dd';⟨q,hq⟩;have l2:(Js kvs k v).length<=sizeLine:=by have:=ZaM kvs k v;omega
  exact h2 _ ex (ZjY I (by rw[e];exact True.intro) hs he (Zp3 l2 hd (rel.put k rv) dd'))
end
section
variable {X:Cx} {o e f:PySem.Expr} {apos cpos:Pos} {td ty tx:TE}
def ZqM(td ty tx:TE):TE:=fun σ H Q=>td σ H fun x H1=>∃a,x=.ref a/\IsD H1 a/\ty σ H1 fun y H2=>tx σ H2 fun z H3=>∃kvs k,H3 a=some (.dK kvs)/\kvs.length<sizeLine/\y=kV k/\(∀x,Yp kvs k=some x->Q x H3)/\(Yp kvs k=none->Q z (upd H3 a (.dK (Js kvs k z))))
theorem Zo8(ho:PE X o td)(he:PE X e ty)(hf:PE X f tx)(m:M2 X o "setdefault" apos e f cpos):PE X (.Call (.Attribute o "setdefault" apos) [e,f] [] cpos) (ZqM td ty tx):=by
 intro pins s σ H Q I h;refine wpAny_Call_method m.base m.few m.line PySem.F.plainAttrs_dict PySem.F.slot_dict_setdefault PySem.F.type_dict_setdefault (thn (ho pins s σ H _ I h) fun u s1 ⟨x,H1,I1,rx,a,ex,d,q1⟩=> ?_);subst ex;obtain rfl:u=Value.ref a:=rx;obtain⟨t1,t2,_⟩:=Zk0 I1 d;refine⟨t1,t2, ?_⟩;rw[m.trees];refine Calls.callWith_builtin rfl (Calls.evalArgs_plain (Calls.spliced_cons (thn (he pins s1 σ H1 _ I1 q1) fun iv s2 ⟨y,H2,I2,ry,q2⟩=>
  Calls.spliced_cons (thn (hf pins s2 σ H2 _ I2 q2) fun fv s3 ⟨z,H3,I3,rz,kvs,k,e3,l3,ey,qa,qb⟩=>Calls.spliced_nil ?_))))
 subst ey;exact Zpt I3 e3 l3 ry rz (fun w s' x ex I4 rw'=>⟨x,H3,I4,rw',qa x ex⟩) fun s' ex I4=>⟨z,_,I4,rz,qb ex⟩
end
end L3
namespace L3
open PySem PySem.Spec PyProof.Rows L2
section
variable {X:Cx} {K:PySem.W.Frag}
end
end L3
namespace L3
open PySem PySem.Spec PyProof.Rows L2
section
variable {prog:Program} {w:World} {A:Around} {E:Value->Shared->Prop} {s:Shared}
section
variable {prog:Program} {w:World} {A:Around} {E:Value->Shared->Prop} {s:Shared}
end
end
section
variable {X:Cx} {pins:List (Addr×Obj)} {σ:L2.St} {H:Hp} {s:Shared}
theorem Zkf{M:Model}{A:Around}{E:Value->Shared->Prop}{env:Env}{pos:Pos}{T:String}{e:Expr}{rest:List Expr}{kws:List Keyword}{Q:Value->Shared->Prop}
  (h:wpAny M A (spliced (backTo pos (starEach (e::rest) env))) (fun vs s1=>wpAny M A (evalAll ((backToKw pos (keywordEach kws env)).map (·.2))) (fun ks s2=>wpAny M A (call (.type T) vs (((backToKw pos (keywordEach kws env)).filterMap (·.1)).zip ks)) Q E s2) E s1) E s)
  (e1:backTo pos (starEach (e::rest) env)=(false,eval e env)::backTo pos (starEach rest env))(e2:(backTo pos (starEach (e::rest) env)).any (·.1)=false)
  (e3:(backToKw pos (keywordEach kws env)).all (·.1.isSome)=true)(e4:(backToKw pos (keywordEach kws env)).any (·.1.isNone)=false):
  wpAny M A (callWith pos (.type T) [] (backTo pos (starEach (e::rest) env)) (backToKw pos (keywordEach kws env))) Q E s:=by
 unfold callWith;rw[e1] at h e2⊢
 refine wpAny_bind (wpAny_holding (thn (evalArgs_kwB (f:=.type T) (Q:=fun a s1=>wpAny M A (call (.type T) a.pos a.kw) Q E s1) e3 h) fun a s1 q=>wpAny_bind (wpAny_standAt ?_)));simp only [e2,e4,Bool.or_false];exact wpAny_bind (wpAny_pure (wpAny_bind (thn q fun r s2 q2=>wpAny_bind (wpAny_holding (wpAny_point (wpAny_pure q2))))))
end
end L3
namespace L3
open PySem PySem.Spec PyProof.Rows L2
def Itv(K:PySem.W.Frag)(a:Addr)(ys:List V):It:=
 ⟨fun i H=>SqL K H a ys/\i<ys.length,fun i H x H'=>H'=H/\ys[ys.length-1-i]? =some x,fun i H=>SqL K H a ys/\ys.length=i⟩
theorem Zpu{P:Program}{w:World}{K:PySem.W.Frag}{tg:PySem.Expr}(a it:Addr)(ys:List V):
  Zme P w K tg (Itv K a ys) [it] it (fun i h=>h.IsRevIter it a ((ys.length:Int)-1-(i:Nat))) where
 mem:=by simp
 obj:=fun i h st b hb=>by
  have e:b=it:=by simpa using hb
  subst e;obtain⟨o,e,c,d⟩:=st;exact⟨o,e,fun v z=>by rw[d] at z;cases z⟩
 keep:=fun i h h' st k=>st.at fun o e=>k it (by simp) o e
 item:=by
  intro X hP hw hK hc i pins s σ H E I hf st hg;subst hP hw hK;obtain⟨hq,lt⟩:=hg;obtain⟨its,rv,p,hz⟩:=I.list hq;have hl:=rv.length;obtain⟨x,hx⟩:∃x,ys[ys.length-1-i]? =some x:=⟨_,List.getElem?_eq_getElem (by omega)⟩
  obtain⟨u,hu,ru⟩:=rv.get hx;obtain⟨f0,f1,f2,f3,f4,f5⟩:=hf it (by simp);have e1:(ys.length:Int)-1-(i:Nat)=((ys.length-1-i:Nat):Int):=by omega
  have st:s.heap.IsRevIter it a ((ys.length:Int)-1-(i:Nat)):=st;rw[e1] at st
  refine wpAny_pyNext_rev_item st p.isList (x:=u) (by simpa using hu) fun h' st' sb=> ?_;have I1:L2.Inv X pins σ H {s with heap:=h'}:=I.turned (t':=s.toks) (fun b o hb z=>(sb.2 b hb).trans z) f0 f1 f3 f4 f5;have e2:(ys.length:Int)-1-((i+1:Nat):Int)=((ys.length-1-i:Nat):Int)-1:=by omega
  obtain⟨o,z1,z2,z3⟩:=id st';exact⟨u,rfl,Zng (s:={s with heap:=h'}) z1 z2 z3 (by decide) ⟨x,H,I1,ru,⟨rfl,hx⟩,by rw[e2];exact st',fun b hb=>(hf b hb).1⟩⟩
 done:=by
  intro X hP hw hK hc i pins s σ H E I hf st hg;subst hP hw hK;obtain⟨hq,le⟩:=hg;obtain⟨f0,f1,f2,f3,f4,f5⟩:=hf it (by simp);have st:s.heap.IsRevIter it a ((ys.length:Int)-1-(i:Nat)):=st;rw[show(ys.length:Int)-1-(i:Nat)= -1 by omega] at st
  exact wpAny_pyNext_rev_end (I.ok.hd hc) st fun h' eb=>⟨rfl,I.turned (t':=s.toks) (fun b o hb z=>eb b o hb z) f0 f1 f3 f4 f5⟩
 self:=fun _ _ _ _ _ st h=>wpAny_pyIter_revIter st h
section
variable {X:Cx}
def ZtE(K:PySem.W.Frag)(te:TE):TI:=fun σ H R=>te σ H fun x H1=>∃a ys,x=.ref a/\SqL K H1 a ys/\R (Itv K a ys) H1
theorem Zpv{K:PySem.W.Frag}{tg e:PySem.Expr}{te:TE}{p pos:Pos}(eK:X.K=K)(hg:Gl X "reversed")(hm:X.mg "reversed"=none)(ha:PE X e te)
  (s1:starEach [e] X.env=(false,eval e X.env)::starEach [] X.env:=by rfl):PI X tg (.Call (.Name "reversed" p) [e] [] pos) (ZtE K te):=by
 subst eK;intro pins s σ H R I h;refine wpAny_Call_Name_kw (Zge I hg hm Zld (PyProof.Rows.callWith_type1 ?_ s1 rfl));rw[s1];show wpAny _ _ (spliced ((false,eval e X.env)::[])) _ _ s;refine Calls.spliced_cons (thn (ha pins s σ H _ I h) fun u s' ⟨x,H1,I1,r1,a,ys,ex,hq,q⟩=>Calls.spliced_nil ?_);subst ex;cases r1;obtain⟨us,r,pl,hz⟩:=I1.list hq;have hlen:=r.length;refine call_reversed_list pl.isList ?_
 have st:Heap.IsRevIter (s'.heap.push (revObj a ((us.toArray.size:Int)-1))) s'.heap.objs.size a ((us.toArray.size:Int)-1):=⟨_,Heap.get?_push_size _ rfl,rfl,rfl⟩
 refine wpAny_pyIter_revIter (s:={s' with heap:=s'.heap.push (revObj a ((us.toArray.size:Int)-1))}) st ?_;refine⟨s'.heap.objs.size,[s'.heap.objs.size],_,_,_,rfl,I1.kept (t':=s'.toks) fun b o z=>Heap.get?_push_of_some _ z,Zpu a _ ys, ?_,fun b hb=> ?_,q⟩
 ·have e:((ys.length:Int)-1-((0:Nat):Int))=(us.toArray.size:Int)-1:=by rw[List.size_toArray,<-hlen];omega
  show Heap.IsRevIter _ _ _ _;rw[e];exact st
 ·have e:b=s'.heap.objs.size:=by simpa using hb
  subst e;exact I1.fpOk (Nat.le_refl _) (I1.hok.fresh (Nat.le_refl _))
end
end L3
namespace L3
open PySem PySem.Spec PyProof.Rows L2 PySem.W PySem.Calls
section
variable {X:Cx} {K:PySem.W.Frag}
theorem ZhQ(eK:X.K=K):OpR X (compareOp .In) (rIn K false):=by
 subst eK;exact ZcD
theorem Yu(eK:X.K=K):IxR X (ZrG K):=by
 subst eK;exact ZG
end
section
variable {P:Program} {w:World} (l b:Addr) (xs ys:Array Value) (n m:Nat) (d1 d2:Option Addr) (s1 s2:Array (Option Value)) (e c:Nat->Bool)
abbrev Zo9(xs ys:Array Value)(e c:Nat->Bool)(i:Nat):Bool:=ZmH e c (decide (ys.size<xs.size)) ((List.range (min xs.size ys.size)).drop i)
theorem ZsY:MeetsIn P w (Builtin.«tuple.__gt__» ⟨[.ref l,.ref b],[]⟩) (fun A R s=>s.heap.get? l=some (Zlj d1 xs n s1)/\s.heap.get? b=some (Zlj d2 ys m s2)/\
  (∀j (h1:j<xs.size) (h2:j<ys.size),EqP P w A.in1 s xs[j] ys[j] (e j))/\(∀j (h1:j<xs.size) (h2:j<ys.size),e j=false->RcP P w A.in1 s .Gt xs[j] ys[j] (c j))/\R (.ok (.ret (.bool (Zo9 xs ys e c 0)))) s):=
 .of_wp fun A R s h=>by
  obtain⟨hq,gs,dr,tk,oss⟩:=s;obtain⟨u1,u2,ue,uc,q⟩:=h;have sub:=AutoSeq1.sub_tuple_tuple;have zl:(xs.toList.zip ys.toList).length=min xs.size ys.size:=by simp
  wp_walk using AutoSeq1.wpAny_loadPart' u1,AutoSeq1.wpAny_loadPart' u2,wpAny_forIn_list _ (fun rest a s'=>a.1=none/\s'=⟨hq,gs,dr,tk,oss⟩/\∃i,rest=(xs.toList.zip ys.toList).drop i/\
   R (.ok (.ret (.bool (Zo9 xs ys e c i)))) ⟨hq,gs,dr,tk,oss⟩) _
  case turn=>
   rintro⟨y,x⟩ rest a s' ⟨ha,rfl,i,zr,zq⟩;have lt:i<(xs.toList.zip ys.toList).length:=Nat.lt_of_not_le fun z=>by rw[List.drop_of_length_le z] at zr;cases zr
   have lm:i<min xs.size ys.size:=zl▸lt;have l1:i<xs.size:=by omega
   have l2:i<ys.size:=by omega
   rw[List.drop_eq_getElem_cons lt] at zr
   injection zr with zyx zrest
   obtain rfl:y=xs[i]:=by simpa using congrArg Prod.fst zyx
   obtain rfl:x=ys[i]:=by simpa using congrArg Prod.snd zyx
   have zd:(List.range (min xs.size ys.size)).drop i=i::(List.range (min xs.size ys.size)).drop (i+1):=by simp[List.drop_eq_getElem_cons,lm]
   unfold Zo9 at zq
   rw[zd] at zq
   unfold ZmH at zq
   refine wpAny_bind (ue i l1 l2 _ _ ?_);cases ei:e i with
   |true=>
    rw[ei,if_pos rfl] at zq
    wp_walk
    exact⟨rfl,rfl,i+1,zrest,zq⟩
   |false=>
    rw[ei,if_neg (by simp)] at zq
    have rc:=uc i l1 l2 ei;unfold RcP at rc
    generalize richCompare CmpOp.Gt xs[i] ys[i]=m at rc⊢
    wp_walk
    first|refine wpAny_bind (rc _ _ ?_)|refine rc _ _ ?_
    wp_walk
    exact⟨_,rfl,zq⟩
  case fin=>
   rintro⟨a1,a2⟩ s' ⟨ha,rfl,i,zr,zq⟩;simp only at ha
   subst ha;have ge:min xs.size ys.size<=i:=Nat.le_of_not_lt fun z=>by rw[List.drop_eq_getElem_cons (zl▸z:i<(xs.toList.zip ys.toList).length)] at zr;cases zr
   unfold Zo9 at zq
   rw[List.drop_of_length_le (by simpa using ge)] at zq
   wp_walk
   exact⟨_,rfl,by simpa [Builtin.Tuple.tupleCompareSizes,ZmH] using zq⟩
  case h=>exact⟨rfl,rfl,0,rfl,q⟩
end
section
variable {P:Program} {w:World} {A:Around} {s:Shared} {l b:Addr} {xs ys:Array Value} {e c:Nat->Bool}
theorem Zs2(hl:s.heap.IsTuple l xs)(hb:s.heap.IsTuple b ys)(hu:A.units<cLine)(he:∀j (h1:j<xs.size) (h2:j<ys.size),EqP P w A.in1 s xs[j] ys[j] (e j))(hc:∀j (h1:j<xs.size) (h2:j<ys.size),e j=false->RcP P w A.in1 s .Gt xs[j] ys[j] (c j)):RcP P w A s .Gt (.ref l) (.ref b) (Zo9 xs ys e c 0):=by
 obtain⟨⟨c1,d1,t1,s1⟩,o1,k1,n,e1⟩:=id hl;obtain⟨⟨c2,d2,t2,s2⟩,o2,k2,m,e2⟩:=id hb;simp only at k1 e1 k2 e2
 subst k1 e1 k2 e2;exact fun E Q q=>wpAny_richCompare_same_room hl.typeIs hb.typeIs F.slot_tuple_gt (call_meetsIn F.slot_tuple_gt hl.typeIs F.entry_tuple_gt (F.args_tuple_gt_2 _ _) (ZsY l b xs ys n m d1 d2 s1 s2 e c) ⟨o1,o2,he,hc,Zbs q⟩) hu
end
abbrev Xd:=Int×Str
def ZeM:Xd->Xd->Bool:=Zo2 ZaN Xl
theorem ZaP:STO ZeM:=Zlo ZcH Xo
section
variable {X:Cx} {pins:List (Addr×Obj)} {σ:L2.St} {H:Hp} {s:Shared} {A:Around}
def Zau(K:PySem.W.Frag)(H:Hp)(x:Xd)(a:V):Prop:=∃p,a=.ref p/\SqT K H p [.int x.1,.str x.2]
theorem ZmK(I:L2.Inv X pins σ H s){x:Xd}{p:Addr}(h:SqT X.K H p [.int x.1,.str x.2]):∃t t',s.heap.IsTuple p #[.int x.1 t,.str x.2 t']:=by
 obtain⟨its,r,T,_⟩:=I.tuple h;cases r with
 |cons a r=>
  cases r with
  |cons b r=>
   cases r;obtain⟨t,rfl⟩:=a;obtain⟨t',rfl⟩:=b;exact⟨t,t',T⟩
theorem ZsZ(I:L2.Inv X pins σ H s){x y:Xd}{a b:V}{u v:Value}(ra:Zau X.K H x a)(rb:Zau X.K H y b)(ru:ZX a u)(rv:ZX b v)(hu:A.units+10<cLine):RcP X.prog X.w A s .Gt u v (ZeM y x):=by
 obtain⟨p,rfl,hp⟩:=ra;obtain⟨p',rfl,hp'⟩:=rb;cases ru;cases rv;obtain⟨t,t2,T1⟩:=ZmK I hp;obtain⟨t',t2',T2⟩:=ZmK I hp';have go:=Zs2 (P:=X.prog) (w:=X.w) (A:=A) (e:=fun j=>if j=0 then(x.1==y.1) else(x.2==y.2)) (c:=fun j=>if j=0 then ZaN y.1 x.1 else Xl y.2 x.2) T1 T2 (by omega) (fun j h1 h2=> ?_) (fun j h1 h2 z=> ?_)
 ·have e:Zo9 #[Value.int x.1 t,Value.str x.2 t2] #[Value.int y.1 t',Value.str y.2 t2'] (fun j=>if j=0 then(x.1==y.1) else(x.2==y.2)) (fun j=>if j=0 then ZaN y.1 x.1 else Xl y.2 x.2) 0=ZeM y x:=by
   show(if(x.1==y.1)=true then(if(x.2==y.2)=true then false else Xl y.2 x.2) else ZaN y.1 x.1)=if y.1=x.1 then Xl y.2 x.2 else ZaN y.1 x.1
   by_cases z:x.1=y.1
   ·rw[if_pos (by rw[z];exact beq_self_eq_true _),if_pos z.symm]
    by_cases z2:x.2=y.2
    ·rw[if_pos (by rw[z2];exact beq_self_eq_true _),z2,Xo.irr]
    ·rw[if_neg (by rw[beq_false_of_ne z2];simp)]
   ·rw[if_neg (by rw[beq_false_of_ne z];simp),if_neg (Ne.symm z)]
  rw[e] at go
  exact go
 ·match j,h1,h2 with
  |0,_,_=>exact fun E Q q=>wpAny_eqBool_int q
  |1,_,_=>exact fun E Q q=>ZjU (show ZX (.str x.2) (.str x.2 t2) from⟨t2,rfl⟩) (show ZX (.str y.2) (.str y.2 t2') from⟨t2',rfl⟩) rfl rfl X.prog X.w E Q q
 ·match j,h1,h2 with
  |0,_,_=>exact fun E Q q=>PyProof.Rows.gt_int q
  |1,_,_=>exact fun E Q q=>PySem.P.gt_str q
end
section
variable {prog:Program} {w:World} {B:Around} {R:Result->Shared->Prop} {it S:Addr} {c:Nat} {s:Shared}
abbrev ZdB(it S:Addr):Code:=.builtin "max.loop" ⟨[.ref it,.none,.ref S],[]⟩
theorem Zpw:toString "max"++toString ".loop"="max.loop":=rfl
theorem ZhR{P:PySem.Fin->Shared->Prop}(hP:∀f s',P f s'->match f with| .done x=>R (.ok x) s'| .again c'=>c'.quiet=true/\codeAny (model prog w) B c' R s')
  (h:wpAny (model prog w) B.in1 (Builtin.«max.loop» ⟨[.ref it,.none,.ref S],[]⟩) P (fun e s'=>R (.error e) s') s):codeAny (model prog w) B (ZdB it S) R s:=
 codeAny_builtin F.entry_max_loop (by
  rw[Around.under_plainId (A:=B) F.plain_max_loop ⟨[Value.ref it,.none,.ref S],[]⟩];exact wpAny_mono h (fun f s' z=>hP f s' z) fun _ _ z=>z)
theorem ZqN{Kp:Heap->Prop}{ub uk:Value}(hS:s.heap.get? S=some (seqObj "list" #[ub,uk] c))(hn:∀(Q:Option Value->Shared->Prop) (E:Value->Shared->Prop),(∀h' tk,Kp h'->Q none {s with heap:=h',toks:=tk})->wpAny (model prog w) B.in1 (pyNext (.ref it)) Q E s)
  (kp:∀h',Kp h'->h'.get? S=some (seqObj "list" #[ub,uk] c))(q:∀h' tk,Kp h'->R (.ok (.ret ub)) {s with heap:=h'.update S (Obj.mapSeq fun _=> #[]),toks:=tk}):codeAny (model prog w) B (ZdB it S) R s:=by
 refine ZhR (P:=fun f s'=>match f with| .done x=>R (.ok x) s'| .again _=>False) (fun f s' z=>by cases f with|done x=>exact z|again _=>exact z.elim) ?_;refine wpAny_bind (m:=seqItems? (.ref S)) (wpAny_seqItems hS rfl (wpAny_bind (m:=tryCatch (pyNext (.ref it)) _) (wpAny_tryCatch (hn _ _ fun h' tk k=> ?_))));exact wpAny_bind (m:=updateSeq S fun _=> #[]) (wpAny_updateSeq (kp h' k) rfl (wpAny_bind (wpAny_letGo (wpAny_pure (q h' tk k)))))
theorem Zpx{Kv:Value->Heap->Prop}{ub uk:Value}(hS:s.heap.get? S=some (seqObj "list" #[ub,uk] c))(hn:∀(Q:Option Value->Shared->Prop) (E:Value->Shared->Prop),(∀v h' tk,Kv v h'->Q (some v) {s with heap:=h',toks:=tk})->wpAny (model prog w) B.in1 (pyNext (.ref it)) Q E s)
  (q:∀v h' tk,Kv v h'->∃k,RcP prog w B.in1 {s with heap:=h',toks:=tk} .Gt v uk k/\h'.get? S=some (seqObj "list" #[ub,uk] c)/\
   (k=true->codeAny (model prog w) B (ZdB it S) R {s with heap:=h'.update S (Obj.mapSeq fun _=> #[v,v]),toks:=tk})/\(k=false->codeAny (model prog w) B (ZdB it S) R {s with heap:=h',toks:=tk})):
  codeAny (model prog w) B (ZdB it S) R s:=by
 refine ZhR (P:=fun f s'=>f=.again (ZdB it S)/\codeAny (model prog w) B (ZdB it S) R s') (fun f s' z=>by rw[z.1];exact⟨plainId_quiet F.plain_max_loop _,z.2⟩) ?_
 refine wpAny_bind (m:=seqItems? (.ref S)) (wpAny_seqItems hS rfl (wpAny_bind (m:=tryCatch (pyNext (.ref it)) _) (wpAny_tryCatch (hn _ _ fun v h' tk k=> ?_))));obtain⟨b,rc,gS,yes,no⟩:=q v h' tk k;refine wpAny_bind (m:=pure v) (wpAny_pure ?_);refine wpAny_bind (m:=tryCatch (holding [v,v] (richCompare .Gt v uk>>=_)) _) (wpAny_tryCatch (wpAny_holding (wpAny_bind (rc _ _ (wpAny_bind (wpAny_holding (wpAny_truthy_bool (wpAny_bind (wpAny_letGo (wpAny_pure ?_))))))))))
 cases b with
 |true=>exact wpAny_ite_split (fun _=>wpAny_bind (wpAny_updateSeq gS rfl (wpAny_bind (wpAny_letGo (wpAny_pure ⟨rfl,yes rfl⟩))))) (fun z=>absurd rfl z)
 |false=>exact wpAny_ite_split (fun z=>nomatch z) (fun _=>wpAny_bind (wpAny_letGo (wpAny_pure ⟨rfl,no rfl⟩)))
theorem Zoa{Kv:Value->Heap->Prop}(hS:s.heap.get? S=some (seqObj "list" #[] c))(hn:∀(Q:Option Value->Shared->Prop) (E:Value->Shared->Prop),(∀v h' tk,Kv v h'->Q (some v) {s with heap:=h',toks:=tk})->wpAny (model prog w) B.in1 (pyNext (.ref it)) Q E s)
  (q:∀v h' tk,Kv v h'->h'.get? S=some (seqObj "list" #[] c)/\codeAny (model prog w) B (ZdB it S) R {s with heap:=h'.update S (Obj.mapSeq fun _=> #[v,v]),toks:=tk}):
  codeAny (model prog w) B (ZdB it S) R s:=by
 refine ZhR (P:=fun f s'=>f=.again (ZdB it S)/\codeAny (model prog w) B (ZdB it S) R s') (fun f s' z=>by rw[z.1];exact⟨plainId_quiet F.plain_max_loop _,z.2⟩) ?_
 refine wpAny_bind (m:=seqItems? (.ref S)) (wpAny_seqItems hS rfl (wpAny_bind (m:=tryCatch (pyNext (.ref it)) _) (wpAny_tryCatch (hn _ _ fun v h' tk k=> ?_))));obtain⟨gS,yes⟩:=q v h' tk k;refine wpAny_bind (m:=pure v) (wpAny_pure ?_);exact wpAny_bind (m:=updateSeq S fun _=> #[v,v]) (wpAny_updateSeq gS rfl (wpAny_pure ⟨rfl,yes⟩))
end
section
variable {X:Cx} {pins:List (Addr×Obj)} {σ:L2.St} {H:Hp} {s:Shared}
theorem ZhS{K:PySem.W.Frag}:∀{ys:List Xd} {us:List V},Paired (Zau K H) ys us->∀(j:Nat) (x:V),us[j]? =some x->∃y,ys[j]? =some y/\Zau K H y x
 |_,_,.nil,j,x,h=>by simp at h
 |_,_,.cons (a:=y) (b:=v) r t,0,x,h=>by
  have h:v=x:=by simpa using h
  exact⟨y,rfl,h▸r⟩
 |_,_,.cons _ t,j+1,x,h=>by
  obtain⟨y,e,z⟩:=ZhS t j x (by simpa using h);exact⟨y,by simpa using e,z⟩
theorem Zob{E:Value->Shared->Prop}{l it S:Addr}{us:List V}{ys:List Xd}{R:VK}(hh:X.A.handled=none)(hu:X.A.units+20<cLine)(lI:Zf4 X it)(lS:Zf4 X S)(nIS:S≠it)(nl:l≠it)(nI:∀p∈pins,p.1≠it)(nS:∀p∈pins,p.1≠S)
  (hq:SqL X.K H l us)(rp:Paired (Zau X.K H) ys us)(q:∀x y,y∈ys->Zau X.K H y x->(∀z∈ys,ZeM y z=false)->R x H):
  ∀(r:List V) (j:Nat) (s:Shared) (b:V) (yb:Xd) (ub:Value) (c:Nat) (oI:Obj),us.drop j=r->j<=us.length->L2.Inv X ((it,oI)::(S,seqObj "list" #[ub,ub] c)::pins) σ H s->s.heap.IsListIter it l j->ZX b ub->Zau X.K H yb b->yb∈ys->(∀z∈ys.take j,ZeM yb z=false)->
   codeAny (model X.prog X.w) X.A (ZdB it S) (ZsW X pins σ R E) s:=by
 have two:∀(o:Obj) (p:Addr×Obj),p∈(S,o)::pins->p.1≠it:=fun o p hp=>by
  obtain rfl|m:=List.mem_cons.mp hp
  ·exact nIS
  ·exact nI p m
 have one:∀(o:Obj) (p:Addr×Obj),p∈(it,o)::pins->p.1≠S:=fun o p hp=>by
  obtain rfl|m:=List.mem_cons.mp hp
  ·exact fun z=>nIS z.symm
  ·exact nS p m
 intro r
 induction r with
 |nil=>
  intro j s b yb ub c oI hj hjl I hit rb sb mem best;obtain⟨vs,rx,pl,_⟩:=I.list hq;have ej:us.length=j:=Nat.le_antisymm (List.drop_eq_nil_iff.mp hj) hjl;have hl:vs.toArray.size=j:=by rw[List.size_toArray,<-rx.length,ej]
  have pI:=I.pin (it,oI) (List.mem_append_right _ (.head _));have pS:=I.pin (S,seqObj "list" #[ub,ub] c) (List.mem_append_right _ (.tail _ (.head _)));have J0:L2.Inv X ((S,seqObj "list" #[ub,ub] c)::pins) σ H s:=I.pins_of fun p hp=>I.pin p (List.mem_append_right _ (.tail _ hp));have J1:∀h' tk',(∀b o,b∉[it]->s.heap.get? b=some o->h'.get? b=some o)->L2.Inv X ((S,seqObj "list" #[ub,ub] c)::pins) σ H {s with heap:=h',toks:=tk'}:=fun h' tk' kp=>J0.turned (it:=it) (t':=tk') (fun b u n e=>kp b u (by simpa using n) e) pI.2.1 pI.2.2.1 (.inr lI.new) lI.cells fun p hp=>(List.mem_append.mp hp).elim (lI.pn p) (two _ p)
  refine ZqN (Kp:=fun h'=>∀b o,b∉[it]->s.heap.get? b=some o->h'.get? b=some o) pS.1 (fun Q E q=>(Walks.list (prog:=X.prog) (w:=X.w) (A:=X.A.in1) hh it l nl vs.toArray).done s Q E ⟨by rw[hl];exact hit,pl.isList⟩ q) (fun h' kp=>kp S _ (by simpa using nIS) pS.1) fun h' tk kp=> ?_
  have J2:=Zbk (J1 h' tk kp) lS nS Yd (get?_update_seq (kp S _ (by simpa using nIS) pS.1) fun _=> #[]) YD;rw[List.take_of_length_le (by rw[Paired.length rp,ej];exact Nat.le_refl _)] at best
  exact⟨b,H,J2.pins_of fun p hp=>J2.pin p (List.mem_append_right _ (.tail _ hp)),rb,q b yb mem sb best⟩
 |cons x r ih=>
  intro j s b yb ub c oI hj hjl I hit rb sb mem best;have hjx:us[j]? =some x:=by
   have e:=congrArg List.head? hj;rw[List.head?_drop] at e
   exact e
  have hjn:us.drop (j+1)=r:=by
   rw[<-List.tail_drop,hj]
   rfl
  have hlx:j+1<=us.length:=(List.getElem?_eq_some_iff.mp hjx).1;obtain⟨yx,ey,sx⟩:=ZhS rp j x hjx;have tk:ys.take (j+1)=ys.take j++[yx]:=by rw[List.take_add_one,ey];rfl
  have pS:=I.pin (S,seqObj "list" #[ub,ub] c) (List.mem_append_right _ (.tail _ (.head _)));refine Zpx pS.1 (ZeE hh nl lI (two _) hq hjx I hit) fun v h' tk' ⟨rv,mv⟩=> ?_;obtain⟨o,J2,hi2⟩:=mv tk';have pS2:=J2.pin (S,seqObj "list" #[ub,ub] c) (List.mem_append_right _ (.tail _ (.head _)));have pI2:=J2.pin (it,o) (List.mem_append_right _ (.head _));refine⟨_,ZsZ J2 sx sb rv rb (show X.A.units+1+10<cLine by omega),pS2.1,fun e=> ?_,fun e=>ih (j+1) _ b yb ub c o hjn hlx J2 (hi2 _ pI2.1) rb sb mem fun z hz=> ?_⟩
  ·have J4:=ZaO (Zbk (ZaO J2) lS (one o) Yd (get?_update_seq pS2.1 fun _=> #[v,v]) YD);refine ih (j+1) _ x yx v _ o hjn hlx J4 (hi2 _ (J4.pin (it,o) (List.mem_append_right _ (.head _))).1) rv sx (List.mem_of_getElem? ey) fun z hz=> ?_;rw[tk] at hz
   rcases List.mem_append.mp hz with old|new
   ·cases lz:ZeM yx z with
    |false=>rfl
    |true=>exact absurd (ZaP.tr _ _ _ e lz) (by rw[best z old];exact Bool.false_ne_true)
   ·have:z=yx:=by simpa using new
    rw[this];exact ZaP.irr _
  ·rw[tk] at hz
   rcases List.mem_append.mp hz with old|new
   ·exact best z old
   ·have:z=yx:=by simpa using new
    rw[this];exact e
theorem Zoc(hc:X.calm=true)(hu:X.A.units+30<cLine):Zbf X (.builtin "max") (fun xs H Q=>∃(l:Addr) (x:V) (us:List V) (ys:List Xd),xs=[.ref l]/\SqL X.K H l (x::us)/\Paired (Zau X.K H) ys (x::us)/\
  ∀v y,y∈ys->Zau X.K H y v->(∀z∈ys,ZeM y z=false)->Q v H):=by
 intro pins s σ H xs vals Q I r h;obtain⟨l,x,us,ys,rfl,hq,rp,q⟩:=h;obtain⟨u,rfl,rx0⟩:=Zbx r;cases rx0;have hh:=I.ok.hd hc;obtain⟨vs,rx,pl,_⟩:=I.list hq;have nl:l≠s.heap.objs.size:=Nat.ne_of_lt (let ⟨_,e,_⟩:=pl.isList;Heap.lt_size e)
 refine call_function_tree (Q:=EP X pins σ Q) PySem.F.kind_max PySem.F.plain_max PySem.F.entry_max (PySem.F.args_max1 _) ?_;have bp:Builtin.Builtins.bindParams "max" ["key","default"] 0 ⟨[],[]⟩=pure [none,none]:=rfl;refine wpAny_bind (m:=Builtin.Builtins.bindParams "max" ["key","default"] 0 ⟨[],[]⟩) (wpAny_of_eq bp (wpAny_bind (wpAny_pure (wpAny_bind (wpAny_pyIter_list pl.isList (wpAny_bind (wpAny_newList ?_ (Nat.zero_le _))))))))
 rw[Zpw];generalize ho:({cls:=.type "list_iterator",data:=.fields #[.ref l,.int 0 0]}:Obj)=oI;have sz1:(s.heap.push oI).objs.size=s.heap.objs.size+1:=size_push' ..;rw[sz1];have gI:((s.heap.push oI).push (seqObj "list" #[] 0)).get? s.heap.objs.size=some oI:=Heap.get?_push_of_some _ (Heap.get?_push_size _ (by rw[<-ho];rfl))
 have gS:((s.heap.push oI).push (seqObj "list" #[] 0)).get? (s.heap.objs.size+1)=some (seqObj "list" #[] 0):=by rw[<-sz1];exact Heap.get?_push_size _ rfl
 have lI:Zf4 X s.heap.objs.size:=ZeD I (Nat.le_refl _);have lS:Zf4 X (s.heap.objs.size+1):=ZeD I (Nat.le_succ _);have fresh:∀a,s.heap.objs.size<=a->H a=none/\a≠X.env.locals/\a∉X.fs:=fun a ha=>⟨I.hok.fresh ha,fun z=>absurd (z▸ha) (Nat.not_le.mpr I.lt),I.nofs ha⟩
 have old:∀p∈pins,p.1<s.heap.objs.size:=fun p hp=>Heap.lt_size (I.pin p (List.mem_append_right _ hp)).1;have nI:∀p∈pins,p.1≠s.heap.objs.size:=fun p hp=>Nat.ne_of_lt (old p hp);have nS:∀p∈pins,p.1≠s.heap.objs.size+1:=fun p hp=>Nat.ne_of_lt (Nat.lt_succ_of_lt (old p hp));have I0:L2.Inv X pins σ H {s with heap:=(s.heap.push oI).push (seqObj "list" #[] 0)}:=I.kept (t':=s.toks) fun b u e=>Heap.get?_push_of_some _ (Heap.get?_push_of_some _ e)
 have I1:L2.Inv X ((s.heap.objs.size,oI)::(s.heap.objs.size+1,seqObj "list" #[] 0)::pins) σ H {s with heap:=(s.heap.push oI).push (seqObj "list" #[] 0)}:=I0.pins_of fun p hp=>by
  obtain rfl|m:=List.mem_cons.mp hp
  ·exact⟨gI,(fresh _ (Nat.le_refl _)).1,(fresh _ (Nat.le_refl _)).2.1,(fresh _ (Nat.le_refl _)).2.2,fun v z=>by rw[<-ho] at z;cases z⟩
  ·obtain rfl|m:=List.mem_cons.mp m
   ·exact⟨gS,(fresh _ (Nat.le_succ _)).1,(fresh _ (Nat.le_succ _)).2.1,(fresh _ (Nat.le_succ _)).2.2,YD⟩
   ·exact I0.pin p (List.mem_append_right _ m)
 have nIS:s.heap.objs.size+1≠s.heap.objs.size:=Nat.succ_ne_self _;have hit0:((s.heap.push oI).push (seqObj "list" #[] 0)).IsListIter s.heap.objs.size l 0:=⟨oI,gI,by rw[<-ho],by rw[<-ho];rfl⟩
 refine wpAny_pure (And.intro (plainId_quiet PySem.F.plain_max_loop _) ?_);generalize hs1:({s with heap:=(s.heap.push oI).push (seqObj "list" #[] 0)}:Shared)=s1 at I1
 have hit1:s1.heap.IsListIter s.heap.objs.size l 0:=by rw[<-hs1];exact hit0
 generalize s.heap.objs.size=it at*
 have two:∀p∈(it+1,seqObj "list" #[] 0)::pins,p.1≠it:=fun p hp=>by
  obtain rfl|m:=List.mem_cons.mp hp
  ·exact nIS
  ·exact nI p m
 have pS:=I1.pin (it+1,seqObj "list" #[] 0) (List.mem_append_right _ (.tail _ (.head _)));refine Zoa pS.1 (ZeE hh nl lI two hq (j:=0) (x:=x) rfl I1 hit1) fun v h' tk' ⟨rv,mv⟩=> ?_;obtain⟨o,J2,hi2⟩:=mv tk';have pS2:=J2.pin (it+1,seqObj "list" #[] 0) (List.mem_append_right _ (.tail _ (.head _)));obtain⟨yx,ey,sx⟩:=ZhS rp 0 x rfl;have J4:=ZaO (Zbk (ZaO J2) lS (fun p hp=>by
  obtain rfl|m:=List.mem_cons.mp hp
  ·exact fun z=>nIS z.symm
  ·exact nS p m) Yd (get?_update_seq pS2.1 fun _=> #[v,v]) YD)
 refine⟨pS2.1,Zob hh (by omega) lI lS nIS nl nI nS hq rp q us 1 _ x yx v _ o rfl (Nat.succ_le_succ (Nat.zero_le _)) J4 (hi2 _ (J4.pin (it,o) (List.mem_append_right _ (.head _))).1) rv sx (List.mem_of_getElem? ey) fun z hz=> ?_⟩;cases ys with
 |nil=>cases ey
 |cons y0 ys=>
  obtain rfl:y0=yx:=by simpa using ey
  have:z=y0:=by simpa using hz
  rw[this];exact ZaP.irr _
theorem Zjo:∀{ss:List Str} {vs:List Value},Yc (ss.map V.str) vs->StrsAre vs ss
 |[],_,.nil=> .nil
 |x::ss,_,.cons ⟨t,e⟩ r=>by
  subst e;exact .cons x t (Zjo r)
theorem Zd8:Zbf X (.builtin "sorted") (fun xs H Q=>∃(l:Addr) (ss:List Str),xs=[.ref l]/\SqL X.K H l (ss.map V.str)/\ss.length<64/\∀zs,zs.Perm ss->sortedS zs=true->∀D,H D=none->Q (.ref D) (upd H D (.lst (zs.map V.str)))):=by
 intro pins s σ H xs vals Q I r h;obtain⟨l,ss,rfl,hq,h64,q⟩:=h;obtain⟨u,rfl,rx0⟩:=Zbx r;cases rx0;obtain⟨vs,rx,pl,_⟩:=I.list hq;have lv:vs.length=ss.length:=by rw[<-rx.length,List.length_map]
 have hz:vs.length<=sizeLine:=by rw[sizeLine_eq];omega
 refine call_function_entry kind_sorted plain_sorted entry_sorted (args_sorted1 (.ref l)) ?_;unfold Builtin.«sorted»;refine wpAny_bind (m:=checkCount "sorted" 1 1 _) (wpAny_pure (wpAny_bind (collect_list pl.isList (wpAny_bind (wpAny_newList ?_ hz)) hz)));have sz1:((s.heap.push (seqObj "list" #[] 0)).update s.heap.objs.size (Obj.mapSeq (· ++vs.toArray))).objs.size=s.heap.objs.size+1:=by rw[Heap.size_update,size_push']
 generalize hh1:(s.heap.push (seqObj "list" #[] 0)).update s.heap.objs.size (Obj.mapSeq (· ++vs.toArray))=h1 at sz1
 have k1:∀b u,s.heap.get? b=some u->h1.get? b=some u:=fun b u e=>by
  have hlt:=Heap.lt_size e;rw[<-hh1];exact Yd b u (Nat.ne_of_lt hlt) (Heap.get?_push_of_some _ e)
 have I1:L2.Inv X pins σ H {s with heap:=h1}:=I.kept (t':=s.toks) k1;refine wpAny_bind (wpAny_holding (ZfO (s:={s with heap:=h1.push (seqObj "list" vs.toArray 0)}) (Heap.get?_push_size (o:=seqObj "list" vs.toArray 0) h1 rfl) (Zjo rx) (by omega) fun out ss' o1 o2 o3=>wpAny_pure ⟨_,rfl, ?_⟩));obtain⟨e,he⟩:=sortedHeap_at (h:=h1.push (seqObj "list" vs.toArray 0)) (out:=out) (Heap.get?_push_size (o:=seqObj "list" vs.toArray 0) h1 rfl)
 have hz2:(ss'.map V.str).length<=sizeLine:=by rw[List.length_map,o2.length_eq,sizeLine_eq];omega
 refine⟨.ref h1.objs.size,_,I1.laid (a:=h1.objs.size) (o:=.lst (ss'.map V.str)) (t':=s.toks) (fun b o e1=> ?_) (Nat.le_refl _) ⟨hz2,out.toList,e,Zd5 o1,he⟩,rfl,q ss' o2 o3 _ I1.fresh⟩;have hb:b<h1.objs.size:=Heap.lt_size e1;rw[sortedHeap_old (Nat.ne_of_lt hb) (by rw[size_push'];exact Nat.lt_succ_of_lt hb)]
 exact Heap.get?_push_of_some _ e1
end
end L3
namespace L3
open PySem PySem.Spec PyProof.Rows L2
section
variable {X:Cx} {K:PySem.W.Frag}
theorem ZqO(eK:X.K=K):SlR X (ZsC K):=by
 subst eK;exact Zp0
end
end L3
namespace L3
open PySem PySem.Spec PyProof.Rows L2 PySem.W PySem.Calls
section
variable {X:Cx} {pins:List (Addr×Obj)} {σ:L2.St} {H:Hp} {s:Shared} {A:Around}
def ZiQ(K:PySem.W.Frag)(H:Hp)(x:Lf)(a:V):Prop:=∃p,a=.ref p/\SqT K H p [.str x.1,.int x.2]
theorem Zt0(I:L2.Inv X pins σ H s){x y:Lf}{a b:V}{u v:Value}(ra:ZiQ X.K H x a)(rb:ZiQ X.K H y b)(ru:ZX a u)(rv:ZX b v)(hu:A.units+10<cLine):RcP X.prog X.w A s .Lt u v (Zk9 x y):=by
 obtain⟨p,rfl,hp⟩:=ra;obtain⟨p',rfl,hp'⟩:=rb;cases ru;cases rv;exact ZsV I hp hp' (by omega)
end
section
variable {prog:Program} {w:World} {B:Around} {R:Result->Shared->Prop} {it S:Addr} {c:Nat} {s:Shared}
abbrev ZeV(it S:Addr):Code:=.builtin "min.loop" ⟨[.ref it,.none,.ref S],[]⟩
theorem Zod{Kv:Value->Heap->Prop}{ub uk:Value}(hS:s.heap.get? S=some (seqObj "list" #[ub,uk] c))(hn:∀(Q:Option Value->Shared->Prop) (E:Value->Shared->Prop),(∀v h' tk,Kv v h'->Q (some v) {s with heap:=h',toks:=tk})->wpAny (model prog w) B.in1 (pyNext (.ref it)) Q E s)
  (q:∀v h' tk,Kv v h'->∃k,RcP prog w B.in1 {s with heap:=h',toks:=tk} .Lt v uk k/\h'.get? S=some (seqObj "list" #[ub,uk] c)/\
   (k=true->codeAny (model prog w) B (ZeV it S) R {s with heap:=h'.update S (Obj.mapSeq fun _=> #[v,v]),toks:=tk})/\(k=false->codeAny (model prog w) B (ZeV it S) R {s with heap:=h',toks:=tk})):
  codeAny (model prog w) B (ZeV it S) R s:=by
 refine ZhP (P:=fun f s'=>f=.again (ZeV it S)/\codeAny (model prog w) B (ZeV it S) R s') (fun f s' z=>by rw[z.1];exact⟨plainId_quiet F.plain_min_loop _,z.2⟩) ?_
 refine wpAny_bind (m:=seqItems? (.ref S)) (wpAny_seqItems hS rfl (wpAny_bind (m:=tryCatch (pyNext (.ref it)) _) (wpAny_tryCatch (hn _ _ fun v h' tk k=> ?_))));obtain⟨b,rc,gS,yes,no⟩:=q v h' tk k;refine wpAny_bind (m:=pure v) (wpAny_pure ?_);refine wpAny_bind (m:=tryCatch (holding [v,v] (richCompare .Lt v uk>>=_)) _) (wpAny_tryCatch (wpAny_holding (wpAny_bind (rc _ _ (wpAny_bind (wpAny_holding (wpAny_truthy_bool (wpAny_bind (wpAny_letGo (wpAny_pure ?_))))))))))
 cases b with
 |true=>exact wpAny_ite_split (fun _=>wpAny_bind (wpAny_updateSeq gS rfl (wpAny_bind (wpAny_letGo (wpAny_pure ⟨rfl,yes rfl⟩))))) (fun z=>absurd rfl z)
 |false=>exact wpAny_ite_split (fun z=>nomatch z) (fun _=>wpAny_bind (wpAny_letGo (wpAny_pure ⟨rfl,no rfl⟩)))
theorem ZmL{Kv:Value->Heap->Prop}(hS:s.heap.get? S=some (seqObj "list" #[] c))(hn:∀(Q:Option Value->Shared->Prop) (E:Value->Shared->Prop),(∀v h' tk,Kv v h'->Q (some v) {s with heap:=h',toks:=tk})->wpAny (model prog w) B.in1 (pyNext (.ref it)) Q E s)
  (q:∀v h' tk,Kv v h'->h'.get? S=some (seqObj "list" #[] c)/\codeAny (model prog w) B (ZeV it S) R {s with heap:=h'.update S (Obj.mapSeq fun _=> #[v,v]),toks:=tk}):
  codeAny (model prog w) B (ZeV it S) R s:=by
 refine ZhP (P:=fun f s'=>f=.again (ZeV it S)/\codeAny (model prog w) B (ZeV it S) R s') (fun f s' z=>by rw[z.1];exact⟨plainId_quiet F.plain_min_loop _,z.2⟩) ?_
 refine wpAny_bind (m:=seqItems? (.ref S)) (wpAny_seqItems hS rfl (wpAny_bind (m:=tryCatch (pyNext (.ref it)) _) (wpAny_tryCatch (hn _ _ fun v h' tk k=> ?_))));obtain⟨gS,yes⟩:=q v h' tk k;refine wpAny_bind (m:=pure v) (wpAny_pure ?_);exact wpAny_bind (m:=updateSeq S fun _=> #[v,v]) (wpAny_updateSeq gS rfl (wpAny_pure ⟨rfl,yes⟩))
end
section
variable {X:Cx} {pins:List (Addr×Obj)} {σ:L2.St} {H:Hp} {s:Shared}
theorem ZmM{K:PySem.W.Frag}:∀{ys:List Lf} {us:List V},Paired (ZiQ K H) ys us->∀(j:Nat) (x:V),us[j]? =some x->∃y,ys[j]? =some y/\ZiQ K H y x
 |_,_,.nil,j,x,h=>by simp at h
 |_,_,.cons (a:=y) (b:=v) r t,0,x,h=>by
  have h:v=x:=by simpa using h
  exact⟨y,rfl,h▸r⟩
 |_,_,.cons _ t,j+1,x,h=>by
  obtain⟨y,e,z⟩:=ZmM t j x (by simpa using h);exact⟨y,by simpa using e,z⟩
theorem Zoe{E:Value->Shared->Prop}{l it S:Addr}{us:List V}{ys:List Lf}{R:VK}(hh:X.A.handled=none)(hu:X.A.units+20<cLine)(lI:Zf4 X it)(lS:Zf4 X S)(nIS:S≠it)(nl:l≠it)(nI:∀p∈pins,p.1≠it)(nS:∀p∈pins,p.1≠S)
  (hq:SqL X.K H l us)(rp:Paired (ZiQ X.K H) ys us)(q:∀x y,y∈ys->ZiQ X.K H y x->(∀z∈ys,Zk9 z y=false)->R x H):
  ∀(r:List V) (j:Nat) (s:Shared) (b:V) (yb:Lf) (ub:Value) (c:Nat) (oI:Obj),us.drop j=r->j<=us.length->L2.Inv X ((it,oI)::(S,seqObj "list" #[ub,ub] c)::pins) σ H s->s.heap.IsListIter it l j->ZX b ub->ZiQ X.K H yb b->yb∈ys->(∀z∈ys.take j,Zk9 z yb=false)->
   codeAny (model X.prog X.w) X.A (ZeV it S) (ZsW X pins σ R E) s:=by
 have two:∀(o:Obj) (p:Addr×Obj),p∈(S,o)::pins->p.1≠it:=fun o p hp=>by
  obtain rfl|m:=List.mem_cons.mp hp
  ·exact nIS
  ·exact nI p m
 have one:∀(o:Obj) (p:Addr×Obj),p∈(it,o)::pins->p.1≠S:=fun o p hp=>by
  obtain rfl|m:=List.mem_cons.mp hp
  ·exact fun z=>nIS z.symm
  ·exact nS p m
 intro r
 induction r with
 |nil=>
  intro j s b yb ub c oI hj hjl I hit rb sb mem best;obtain⟨vs,rx,pl,_⟩:=I.list hq;have ej:us.length=j:=Nat.le_antisymm (List.drop_eq_nil_iff.mp hj) hjl;have hl:vs.toArray.size=j:=by rw[List.size_toArray,<-rx.length,ej]
  have pI:=I.pin (it,oI) (List.mem_append_right _ (.head _));have pS:=I.pin (S,seqObj "list" #[ub,ub] c) (List.mem_append_right _ (.tail _ (.head _)));have J0:L2.Inv X ((S,seqObj "list" #[ub,ub] c)::pins) σ H s:=I.pins_of fun p hp=>I.pin p (List.mem_append_right _ (.tail _ hp));have J1:∀h' tk',(∀b o,b∉[it]->s.heap.get? b=some o->h'.get? b=some o)->L2.Inv X ((S,seqObj "list" #[ub,ub] c)::pins) σ H {s with heap:=h',toks:=tk'}:=fun h' tk' kp=>J0.turned (it:=it) (t':=tk') (fun b u n e=>kp b u (by simpa using n) e) pI.2.1 pI.2.2.1 (.inr lI.new) lI.cells fun p hp=>(List.mem_append.mp hp).elim (lI.pn p) (two _ p)
  refine ZqJ (Kp:=fun h'=>∀b o,b∉[it]->s.heap.get? b=some o->h'.get? b=some o) pS.1 (fun Q E q=>(Walks.list (prog:=X.prog) (w:=X.w) (A:=X.A.in1) hh it l nl vs.toArray).done s Q E ⟨by rw[hl];exact hit,pl.isList⟩ q) (fun h' kp=>kp S _ (by simpa using nIS) pS.1) fun h' tk kp=> ?_
  have J2:=Zbk (J1 h' tk kp) lS nS Yd (get?_update_seq (kp S _ (by simpa using nIS) pS.1) fun _=> #[]) YD;rw[List.take_of_length_le (by rw[Paired.length rp,ej];exact Nat.le_refl _)] at best
  exact⟨b,H,J2.pins_of fun p hp=>J2.pin p (List.mem_append_right _ (.tail _ hp)),rb,q b yb mem sb best⟩
 |cons x r ih=>
  intro j s b yb ub c oI hj hjl I hit rb sb mem best;have hjx:us[j]? =some x:=by
   have e:=congrArg List.head? hj;rw[List.head?_drop] at e
   exact e
  have hjn:us.drop (j+1)=r:=by
   rw[<-List.tail_drop,hj]
   rfl
  have hlx:j+1<=us.length:=(List.getElem?_eq_some_iff.mp hjx).1;obtain⟨yx,ey,sx⟩:=ZmM rp j x hjx;have tk:ys.take (j+1)=ys.take j++[yx]:=by rw[List.take_add_one,ey];rfl
  have pS:=I.pin (S,seqObj "list" #[ub,ub] c) (List.mem_append_right _ (.tail _ (.head _)));refine Zod pS.1 (ZeE hh nl lI (two _) hq hjx I hit) fun v h' tk' ⟨rv,mv⟩=> ?_;obtain⟨o,J2,hi2⟩:=mv tk';have pS2:=J2.pin (S,seqObj "list" #[ub,ub] c) (List.mem_append_right _ (.tail _ (.head _)));have pI2:=J2.pin (it,o) (List.mem_append_right _ (.head _));refine⟨_,Zt0 J2 sx sb rv rb (show X.A.units+1+10<cLine by omega),pS2.1,fun e=> ?_,fun e=>ih (j+1) _ b yb ub c o hjn hlx J2 (hi2 _ pI2.1) rb sb mem fun z hz=> ?_⟩
  ·have J4:=ZaO (Zbk (ZaO J2) lS (one o) Yd (get?_update_seq pS2.1 fun _=> #[v,v]) YD);refine ih (j+1) _ x yx v _ o hjn hlx J4 (hi2 _ (J4.pin (it,o) (List.mem_append_right _ (.head _))).1) rv sx (List.mem_of_getElem? ey) fun z hz=> ?_;rw[tk] at hz
   rcases List.mem_append.mp hz with old|new
   ·cases lz:Zk9 z yx with
    |false=>rfl
    |true=>exact absurd (ZhM.tr _ _ _ lz e) (by rw[best z old];exact Bool.false_ne_true)
   ·have:z=yx:=by simpa using new
    rw[this];exact ZhM.irr _
  ·rw[tk] at hz
   rcases List.mem_append.mp hz with old|new
   ·exact best z old
   ·have:z=yx:=by simpa using new
    rw[this];exact e
theorem Zof(hc:X.calm=true)(hu:X.A.units+30<cLine):Zbf X (.builtin "min") (fun xs H Q=>∃(l:Addr) (x:V) (us:List V) (ys:List Lf),xs=[.ref l]/\SqL X.K H l (x::us)/\Paired (ZiQ X.K H) ys (x::us)/\
  ∀v y,y∈ys->ZiQ X.K H y v->(∀z∈ys,Zk9 z y=false)->Q v H):=by
 intro pins s σ H xs vals Q I r h;obtain⟨l,x,us,ys,rfl,hq,rp,q⟩:=h;obtain⟨u,rfl,rx0⟩:=Zbx r;cases rx0;have hh:=I.ok.hd hc;obtain⟨vs,rx,pl,_⟩:=I.list hq;have nl:l≠s.heap.objs.size:=Nat.ne_of_lt (let ⟨_,e,_⟩:=pl.isList;Heap.lt_size e)
 refine call_function_tree (Q:=EP X pins σ Q) PySem.F.kind_min PySem.F.plain_min PySem.F.entry_min (PySem.F.args_min1 _) ?_;have bp:Builtin.Builtins.bindParams "min" ["key","default"] 0 ⟨[],[]⟩=pure [none,none]:=rfl;refine wpAny_bind (m:=Builtin.Builtins.bindParams "min" ["key","default"] 0 ⟨[],[]⟩) (wpAny_of_eq bp (wpAny_bind (wpAny_pure (wpAny_bind (wpAny_pyIter_list pl.isList (wpAny_bind (wpAny_newList ?_ (Nat.zero_le _))))))))
 rw[Zpr];generalize ho:({cls:=.type "list_iterator",data:=.fields #[.ref l,.int 0 0]}:Obj)=oI;have sz1:(s.heap.push oI).objs.size=s.heap.objs.size+1:=size_push' ..;rw[sz1];have gI:((s.heap.push oI).push (seqObj "list" #[] 0)).get? s.heap.objs.size=some oI:=Heap.get?_push_of_some _ (Heap.get?_push_size _ (by rw[<-ho];rfl))
 have gS:((s.heap.push oI).push (seqObj "list" #[] 0)).get? (s.heap.objs.size+1)=some (seqObj "list" #[] 0):=by rw[<-sz1];exact Heap.get?_push_size _ rfl
 have lI:Zf4 X s.heap.objs.size:=ZeD I (Nat.le_refl _);have lS:Zf4 X (s.heap.objs.size+1):=ZeD I (Nat.le_succ _);have fresh:∀a,s.heap.objs.size<=a->H a=none/\a≠X.env.locals/\a∉X.fs:=fun a ha=>⟨I.hok.fresh ha,fun z=>absurd (z▸ha) (Nat.not_le.mpr I.lt),I.nofs ha⟩
 have old:∀p∈pins,p.1<s.heap.objs.size:=fun p hp=>Heap.lt_size (I.pin p (List.mem_append_right _ hp)).1;have nI:∀p∈pins,p.1≠s.heap.objs.size:=fun p hp=>Nat.ne_of_lt (old p hp);have nS:∀p∈pins,p.1≠s.heap.objs.size+1:=fun p hp=>Nat.ne_of_lt (Nat.lt_succ_of_lt (old p hp));have I0:L2.Inv X pins σ H {s with heap:=(s.heap.push oI).push (seqObj "list" #[] 0)}:=I.kept (t':=s.toks) fun b u e=>Heap.get?_push_of_some _ (Heap.get?_push_of_some _ e)
 have I1:L2.Inv X ((s.heap.objs.size,oI)::(s.heap.objs.size+1,seqObj "list" #[] 0)::pins) σ H {s with heap:=(s.heap.push oI).push (seqObj "list" #[] 0)}:=I0.pins_of fun p hp=>by
  obtain rfl|m:=List.mem_cons.mp hp
  ·exact⟨gI,(fresh _ (Nat.le_refl _)).1,(fresh _ (Nat.le_refl _)).2.1,(fresh _ (Nat.le_refl _)).2.2,fun v z=>by rw[<-ho] at z;cases z⟩
  ·obtain rfl|m:=List.mem_cons.mp m
   ·exact⟨gS,(fresh _ (Nat.le_succ _)).1,(fresh _ (Nat.le_succ _)).2.1,(fresh _ (Nat.le_succ _)).2.2,YD⟩
   ·exact I0.pin p (List.mem_append_right _ m)
 have nIS:s.heap.objs.size+1≠s.heap.objs.size:=Nat.succ_ne_self _;have hit0:((s.heap.push oI).push (seqObj "list" #[] 0)).IsListIter s.heap.objs.size l 0:=⟨oI,gI,by rw[<-ho],by rw[<-ho];rfl⟩
 refine wpAny_pure (And.intro (plainId_quiet PySem.F.plain_min_loop _) ?_);generalize hs1:({s with heap:=(s.heap.push oI).push (seqObj "list" #[] 0)}:Shared)=s1 at I1
 have hit1:s1.heap.IsListIter s.heap.objs.size l 0:=by rw[<-hs1];exact hit0
 generalize s.heap.objs.size=it at*
 have two:∀p∈(it+1,seqObj "list" #[] 0)::pins,p.1≠it:=fun p hp=>by
  obtain rfl|m:=List.mem_cons.mp hp
  ·exact nIS
  ·exact nI p m
 have pS:=I1.pin (it+1,seqObj "list" #[] 0) (List.mem_append_right _ (.tail _ (.head _)));refine ZmL pS.1 (ZeE hh nl lI two hq (j:=0) (x:=x) rfl I1 hit1) fun v h' tk' ⟨rv,mv⟩=> ?_;obtain⟨o,J2,hi2⟩:=mv tk';have pS2:=J2.pin (it+1,seqObj "list" #[] 0) (List.mem_append_right _ (.tail _ (.head _)));obtain⟨yx,ey,sx⟩:=ZmM rp 0 x rfl;have J4:=ZaO (Zbk (ZaO J2) lS (fun p hp=>by
  obtain rfl|m:=List.mem_cons.mp hp
  ·exact fun z=>nIS z.symm
  ·exact nS p m) Yd (get?_update_seq pS2.1 fun _=> #[v,v]) YD)
 refine⟨pS2.1,Zoe hh (by omega) lI lS nIS nl nI nS hq rp q us 1 _ x yx v _ o rfl (Nat.succ_le_succ (Nat.zero_le _)) J4 (hi2 _ (J4.pin (it,o) (List.mem_append_right _ (.head _))).1) rv sx (List.mem_of_getElem? ey) fun z hz=> ?_⟩;cases ys with
 |nil=>cases ey
 |cons y0 ys=>
  obtain rfl:y0=yx:=by simpa using ey
  have:z=y0:=by simpa using hz
  rw[this];exact ZhM.irr _
end
end L3
namespace L3
open PySem PySem.Spec PyProof.Rows L2
section
variable {X:Cx} {K:PySem.W.Frag}
theorem ZhT(eK:X.K=K):IxR X (ZsD K):=by
 subst eK;exact YZ
end
end L3
namespace L3
open PySem PySem.Spec PyProof.Rows L2
section
variable {X:Cx} {pins:List (Addr×Obj)} {σ:L2.St} {H:Hp} {s:Shared} {h':Heap}
theorem Znr{t':Nat}{ch:List Addr}(I:L2.Inv X pins σ H s)(k:∀b o,b∉ch->s.heap.get? b=some o->h'.get? b=some o)(f:∀b∈ch,Zhx X pins H b):L2.Inv X pins σ H {s with heap:=h',toks:=t'}:=by
 have nit:∀b u,H b=some u->b∉ch:=fun b u e z=>by rw[(f b z).1] at e;cases e
 refine I.step (g':=s.gens) (d':=s.drawn) (ch:=ch) (fun b hb=> ?_) (fun b o _ _ hc e _=>k b o hc e) (fun b o _ _ hc e _=>⟨o.slots,k b o hc e⟩) (fun _ _ _ _ n=>n)
  (fun b o hc e=>⟨o,k b o hc e⟩) (fun _ _ e=>e) (fun _ _ _ e=>e) (fun b ps e=>⟨#[],by rw[e];simp⟩) (fun m hm=> ?_) (fun b u e=> ?_) I.bare
 ·obtain⟨_,a2,_,a4,a5,a6⟩:=f b hb;exact⟨a4,a2,a5,a6⟩
 ·obtain⟨o,es,ep,ho,r⟩:=hm;exact⟨o,es,ep,k _ o (fun z=>(f _ z).2.1 rfl) ho,r⟩
 ·refine(I.hok b u e).stay (fun c v hc q=>k c v ?_ q) (fun _ q=>q) fun _ _ q=>q;rcases hc with z|z
  ·rw[z];exact nit b u e
  ·exact nit c _ z
end
def Itz(K:PySem.W.Frag)(a b:Addr):It:=
 ⟨fun i H=>∃xs ys x y,SqL K H a xs/\SqL K H b ys/\xs[i]? =some x/\ys[i]? =some y,fun i H v H'=>∃p x y,H p=none/\(∀xs,SqL K H a xs->xs[i]? =some x)/\(∀ys,SqL K H b ys->ys[i]? =some y)/\v=.ref p/\H'=upd H p (.tup [x,y]),fun i H=>∃xs ys,SqL K H a xs/\SqL K H b ys/\(xs.length<=i\/ys.length<=i)⟩
theorem Zpy{P:Program}{w:World}{K:PySem.W.Frag}{elts:List PySem.Expr}{x1:Nat}{pos:Pos}(a b z TI TO i1 i2:Addr)(D:ZipApart z TI TO i1 i2 a b):
  Zme P w K (.Tuple elts x1 pos) (Itz K a b) [z,TI,TO,i1,i2] z (fun i h=>IsZip h z TI TO .none/\IsPair h TI (.ref i1) (.ref i2)/\(∃u v,IsPair h TO u v)/\h.IsListIter i1 a i/\h.IsListIter i2 b i) where
 mem:=by simp
 obj:=fun i h st c hc=>by
  obtain⟨s1,s2,⟨u,v,s3⟩,⟨o4,s4,_,d4⟩,o5,s5,_,d5⟩:=st;have hc:c=z\/c=TI\/c=TO\/c=i1\/c=i2:=by simpa using hc
  rcases hc with rfl|rfl|rfl|rfl|rfl
  ·exact⟨_,s1,fun v z=>nomatch z⟩
  ·exact⟨_,s2,fun v z=>nomatch z⟩
  ·exact⟨_,s3,fun v z=>nomatch z⟩
  ·exact⟨_,s4,fun v z=>by rw[d4] at z;cases z⟩
  ·exact⟨_,s5,fun v z=>by rw[d5] at z;cases z⟩
 keep:=fun i h h' ⟨s1,s2,⟨u,v,s3⟩,s4,s5⟩ k=>⟨k z (by simp) _ s1,k TI (by simp) _ s2,⟨u,v,k TO (by simp) _ s3⟩,s4.at fun o e=>k i1 (by simp) o e,s5.at fun o e=>k i2 (by simp) o e⟩
 item:=by
  intro X hP hw hK hc i pins s σ H E I hf st hg;subst hP hw hK;obtain⟨xs,ys,x,y,hq,hq2,hx,hy⟩:=hg;obtain⟨its,rv,p,hz⟩:=I.list hq;obtain⟨its2,rv2,p2,hz2⟩:=I.list hq2;obtain⟨u,hu,ru⟩:=rv.get hx;obtain⟨v,hv,rw_⟩:=rv2.get hy;obtain⟨s1,s2,⟨u0,v0,s3⟩,s4,s5⟩:=st;refine wpAny_pyNext_zip_item D s1 s2 s3 s4 s5 p.isList p2.isList (x:=u) (y:=v) (by simpa using hu) (by simpa using hv) fun h' a1 a2 a3 a4 a5 a6 a7=> ?_
  refine⟨_,rfl,wpAny_letOwnedTupleGo_zip (s:={s with heap:=h'}) a1 fun h2 zn sb=> ?_⟩;have I2:L2.Inv X pins σ H {s with heap:=h2,toks:=s.toks}:=Znr (ch:=[z,TI,TO,i1,i2]) (t':=s.toks) I (fun c o hc e=>by
   have hc:¬(c=z\/c=TI\/c=TO\/c=i1\/c=i2):=by simpa using hc
   exact(sb.2 c fun q=>hc (.inl q)).trans (a7 c o (fun q=>hc (.inl q)) (fun q=>hc (.inr (.inr (.inl q)))) (fun q=>hc (.inr (.inr (.inr (.inl q))))) (fun q=>hc (.inr (.inr (.inr (.inr q))))) e)) hf
  have new:∀c o,s.heap.get? c=some o->s.heap.objs.size≠c:=fun c o e q=>absurd (Heap.lt_size e) (by rw[<-q];exact Nat.lt_irrefl _)
  have nz:s.heap.objs.size≠z:=new z _ s1;have fn:=I.fpOk (H':=H) (Nat.le_refl _) (I.hok.fresh (Nat.le_refl _));have I3:=Zjg (q:=.tup [x,y]) I2 fn ⟨by show 2<=sizeLine;rw[sizeLine_eq];decide,[u,v],.cons ru (.cons rw_ .nil),_,(sb.2 _ nz).trans a5,rfl,_,rfl⟩
  refine⟨.ref s.heap.objs.size,_,I3,rfl,⟨_,x,y,fn.1,fun zs hzs=>by rw[I.list_inj hzs hq];exact hx,fun zs hzs=>by rw[I.list_inj hzs hq2];exact hy,rfl,rfl⟩,⟨zn, ?_,⟨u,v,(sb.2 TO D.TOz).trans a2⟩,a3.at fun o e=>(sb.2 i1 D.i1z).trans e,a4.at fun o e=>(sb.2 i2 D.i2z).trans e⟩,fun c hc=> ?_⟩
  ·exact(sb.2 TI D.TIz).trans (a7 TI _ D.TIz D.TITO D.TIi1 D.TIi2 s2)
  ·have hn:=(hf c hc).1;have hc:c=z\/c=TI\/c=TO\/c=i1\/c=i2:=by simpa using hc
   have nc:c≠s.heap.objs.size:=by
    rcases hc with rfl|rfl|rfl|rfl|rfl
    ·exact Ne.symm nz
    ·exact Ne.symm (new _ _ s2)
    ·exact Ne.symm (new _ _ s3)
    ·obtain⟨o,e,_⟩:=s4;exact Ne.symm (new _ _ e)
    ·obtain⟨o,e,_⟩:=s5;exact Ne.symm (new _ _ e)
   rw[Zm nc];exact hn
 done:=by
  intro X hP hw hK hc i pins s σ H E I hf st hg;subst hP hw hK;obtain⟨xs,ys,hq,hq2,hx⟩:=hg;obtain⟨its,rv,p,hz⟩:=I.list hq;obtain⟨its2,rv2,p2,hz2⟩:=I.list hq2;obtain⟨s1,s2,⟨u0,v0,s3⟩,s4,s5⟩:=st;have hl:=rv.length;have hl2:=rv2.length;refine wpAny_pyNext_zip_end (I.ok.hd hc) D s1 s2 s3 s4 s5 p.isList p2.isList (hx.elim (fun e=> .inl (by simp;omega)) (fun e=> .inr (by simp;omega))) fun h' k=>⟨rfl, ?_⟩
  exact Znr (ch:=[z,TI,TO,i1,i2]) (t':=s.toks) I (fun c o hc e=>by
   have hc:¬(c=z\/c=TI\/c=TO\/c=i1\/c=i2):=by simpa using hc
   exact k c o (fun q=>hc (.inl q)) (fun q=>hc (.inr (.inr (.inl q)))) (fun q=>hc (.inr (.inr (.inr (.inl q))))) (fun q=>hc (.inr (.inr (.inr (.inr q))))) e) hf
 self:=fun _ _ _ _ _ ⟨s1,_⟩ h=>wpAny_pyIter_zip s1 h
section
variable {X:Cx} {pins:List (Addr×Obj)} {σ:L2.St} {H:Hp} {s:Shared}
theorem Zs3:bootBuiltins "zip"=some (.type "zip"):=by decide+kernel
def ZtF(K:PySem.W.Frag)(t:TA):TI:=fun σ H R=>t σ H fun vs H1=>∃a b,vs=[.ref a,.ref b]/\(∃xs,SqL K H1 a xs)/\(∃ys,SqL K H1 b ys)/\R (Itz K a b) H1
theorem Zs4{K:PySem.W.Frag}{d e:PySem.Expr}{t:TA}{p0 pos tp:Pos}{elts:List PySem.Expr}{x1:Nat}(eK:X.K=K)(hg:Gl X "zip")(hm:X.mg "zip"=none)(ha:PA X [d,e] t)
  (hs:starEach [d,e] X.env=[(false,eval d X.env),(false,eval e X.env)]:=by rfl)(hs2:starEach [e] X.env=[(false,eval e X.env)]:=by rfl):PI X (.Tuple elts x1 tp) (.Call (.Name "zip" p0) [d,e] [] pos) (ZtF K t):=by
 subst eK;intro pins s σ H R I h;refine wpAny_Call_Name_kw (Zge I hg hm Zs3 ?_ (by decide) (by decide));refine Zkf (thn (ha pos pins s σ H _ I h) fun us s1 z=> ?_) (by rw[hs,hs2];rfl) (by rw[hs];rfl) rfl rfl
 obtain⟨vs,H1,I1,r1,a,b,rfl,⟨xs,hq⟩,⟨ys,hq2⟩,q⟩:=z;cases r1 with
 |cons ra r1=>
  cases r1 with
  |cons rb r1=>
   cases r1;cases ra;cases rb;refine kws_nil ?_;obtain⟨its,rv,pl,hz⟩:=I1.list hq;obtain⟨its2,rv2,pl2,hz2⟩:=I1.list hq2;have la:a<s1.heap.objs.size:=let ⟨_,e,_⟩:=pl.isList;Heap.lt_size e;have lb:b<s1.heap.objs.size:=let ⟨_,e,_⟩:=pl2.isList;Heap.lt_size e;refine call_zip_2 pl.isList pl2.isList fun h' a1 a2 a3 a4 a5 a6 a7=>wpAny_pyIter_zip a1 ?_;have D:ZipApart (s1.heap.objs.size+4) (s1.heap.objs.size+2) (s1.heap.objs.size+3) s1.heap.objs.size (s1.heap.objs.size+1) a b:=PySem.W.ktu_apart _ _ _ la lb
   refine⟨_,[s1.heap.objs.size+4,s1.heap.objs.size+2,s1.heap.objs.size+3,s1.heap.objs.size,s1.heap.objs.size+1],_,_,_,rfl,I1.kept (t':=s1.toks) a7,Zpy a b _ _ _ _ _ D,⟨a1,a2,⟨_,_,a3⟩,a4,a5⟩,fun c hc=> ?_,q⟩;have hc:c=s1.heap.objs.size+4\/c=s1.heap.objs.size+2\/c=s1.heap.objs.size+3\/c=s1.heap.objs.size\/c=s1.heap.objs.size+1:=by simpa using hc
   have le:s1.heap.objs.size<=c:=by rcases hc with rfl|rfl|rfl|rfl|rfl<;>omega
   exact I1.fpOk le (I1.hok.fresh le)
end
end L3
namespace L3
open PySem PySem.Spec PyProof.Rows L2 PySem.W PySem.Calls
structure ZdN (X:Cx) {α:Type} (lt:α->α->Bool) (R:Hp->α->V->Prop) (d:α):Prop where
 sto:STO lt
 kind:∀{A:Around} {pins:List (Addr×Obj)} {σ:L2.St} {H:Hp} {s:Shared} {kk:List α} {kx:List V} {ks:List Value},L2.Inv X pins σ H s->Paired (R H) kk kx->Yc kx ks->2<=ks.length->A.units+5<cLine->
  wpAny (model X.prog X.w) A (keyKind' (List.toArray ks)) (fun κ s'=>s'=s/\Zhl X.prog X.w A κ ks ks.length (fun i j=>lt (kk.getD i d) (kk.getD j d)) s) (fun _ _=>False) s
theorem ZdO{α:Type}{R:α->V->Prop}{d:α}:∀{kk:List α} {kx:List V} {ks:List Value} (_:Paired R kk kx) (_:Yc kx ks) (i:Nat),i<ks.length->∃x,R (kk.getD i d) x/\ZX x (ks.getD i Value.none)
 |_,_,_,.nil,.nil,i,h=>absurd h (Nat.not_lt_zero _)
 |_,_,_,.cons r _,.cons v _,0,_=>⟨_,r,v⟩
 |_,_,_,.cons _ t,.cons _ vt,i+1,h=>by
  obtain⟨x,a,b⟩:=ZdO t vt i (by simpa using h);exact⟨x,a,b⟩
def Zpz(_:Hp)(n:Int)(v:V):Prop:=v=.int n
theorem Zls{H:Hp}:∀{kk:List Int} {kx:List V} {ks:List Value},Paired (Zpz H) kk kx->Yc kx ks->IntsAre ks kk
 |_,_,_,.nil,.nil=> .nil
 |_,_,_,.cons r t,.cons v vt=>by
  cases r;obtain⟨tk,rfl⟩:=v;exact .cons _ tk (Zls t vt)
theorem ZfQ{X:Cx}:ZdN X ZaN Zpz 0 where
 sto:=ZcH
 kind:=by
  intro A pins σ H s kk kx ks I rp rk h2 hu;have ia:=Zls rp rk;rw[ksk_kind (keys:=List.toArray ks) (kz:=kk) ia (by rw[List.size_toArray];exact h2)]
  refine wpAny_pure ⟨rfl,fun i j hi hj C hC=> ?_⟩;obtain⟨x,r1,r2⟩:=ZdO (d:=0) rp rk i hi;obtain⟨y,r3,r4⟩:=ZdO (d:=0) rp rk j hj;cases r1;cases r3;obtain⟨t,e⟩:=r2;obtain⟨u,f⟩:=r4;rw[e,f];exact kat_lt_int hC
theorem ZpA{X:Cx}{pins:List (Addr×Obj)}{σ:L2.St}{H:Hp}{s:Shared}(I:L2.Inv X pins σ H s){x:Xd}{p:Addr}(h:SqT X.K H p [.int x.1,.str x.2]):∃t u o,s.heap.get? p=some o/\o.cls=.type "tuple"/\∃n,o.data=.seq #[.int x.1 t,.str x.2 u] n:=by
 obtain⟨t,u,o,e,c,n,d⟩:=ZmK I h;exact⟨t,u,o,e,c,n,d⟩
theorem Zs5{X:Cx}{pins:List (Addr×Obj)}{σ:L2.St}{H:Hp}{s:Shared}{A:Around}(I:L2.Inv X pins σ H s){x y:Xd}{a b:Addr}(ha:SqT X.K H a [.int x.1,.str x.2])(hb:SqT X.K H b [.int y.1,.str y.2]){C:Bool->Shared->Prop}(h:C (ZeM x y) s):wpAny (model X.prog X.w) A (keyLt' (tuples' true) (.ref a) (.ref b)) C (fun _ _=>False) s:=by
 obtain⟨t,u,o,e1,c1,n,e3⟩:=ZpA I ha;obtain⟨t',u',o',f1,c2,n',f3⟩:=ZpA I hb;have hk:ZeM x y=if x.1=y.1 then Xl x.2 y.2 else ZaN x.1 y.1:=rfl;refine kat_lt e1 e3 f1 f3 ?_;show KatLex X.prog X.w A true false C [(.int x.1 t,.int y.1 t'),(.str x.2 u,.str y.2 u')] 0 s;refine kat_cons (wpAny_eqBool_int ?_)
 by_cases z:x.1=y.1
 ·rw[if_pos z] at hk
  rw[z,beq_self_eq_true];refine kat_yes (kat_cons (wpAny_eqBool_str ?_))
  by_cases z2:x.2=y.2
  ·rw[decide_eq_true z2];refine kat_yes (kat_nil ?_);rw[hk,z2,Xo.irr] at h
   exact h
  ·rw[decide_eq_false z2];refine kat_no ?_;show wpAny (model X.prog X.w) A (oneLt' false (.str x.2 u) (.str y.2 u')) C (fun _ _=>False) s;refine kat_one _ _ (PyProof.Rows.lt_str ?_);rw[hk] at h
   exact h
 ·rw[if_neg z] at hk
  rw[beq_false_of_ne z];refine kat_no ?_;show wpAny (model X.prog X.w) A (oneLt' true (.int x.1 t) (.int y.1 t')) C (fun _ _=>False) s;refine oneLt_int ?_;rw[hk] at h
  exact h
theorem Zns{X:Cx}{pins:List (Addr×Obj)}{σ:L2.St}{H:Hp}{s:Shared}(I:L2.Inv X pins σ H s):∀{kk:List Xd} {kx:List V} {ks:List Value} (_:Paired (Zau X.K H) kk kx) (_:Yc kx ks),∃fs,KatTups s.heap ks fs/\fs.length=ks.length/\∀v∈fs,∃n t,v=Value.int n t
 |_,_,_,.nil,.nil=>⟨[],.nil,rfl,fun v hv=>nomatch hv⟩
 |_,_,_,.cons (a:=y) r t,.cons v vt=>by
  obtain⟨fs,a,b,c⟩:=Zns I t vt;obtain⟨p,rfl,hp⟩:=r;obtain⟨tk,u,o,e1,e2,n,e3⟩:=ZpA I hp;cases v;refine⟨.int y.1 tk::fs,.cons e1 e2 e3 rfl a,by rw[List.length_cons,List.length_cons,b],fun w hw=> ?_⟩;cases hw with
  |head=>exact⟨_,_,rfl⟩
  |tail _ hw=>exact c w hw
theorem Zog{X:Cx}:ZdN X ZeM (Zau X.K) (0,Str.empty) where
 sto:=ZaP
 kind:=by
  intro A pins σ H s kk kx ks I rp rk h2 hu;obtain⟨fs,t1,t2,t3⟩:=Zns I rp rk;refine kat_kind (T:=.type "int") t1 (by omega) (fun v hv=> ?_) rfl ⟨rfl,fun i j hi hj C hC=> ?_⟩
  ·obtain⟨n,t,rfl⟩:=t3 v hv;exact Looks.of_pure rfl
  ·obtain⟨x,r1,r2⟩:=ZdO (d:=(0,Str.empty)) rp rk i hi;obtain⟨y,r3,r4⟩:=ZdO (d:=(0,Str.empty)) rp rk j hj;obtain⟨p,rfl,hp⟩:=r1;obtain⟨q,rfl,hq⟩:=r3;cases z1:ks.getD i Value.none with
   |ref p'=>
    rw[z1] at r2
    cases r2;cases z2:ks.getD j Value.none with
    |ref q'=>
     rw[z2] at r4
     cases r4;exact Zs5 I hp hq hC
    |_=>rw[z2] at r4;cases r4
   |_=>rw[z1] at r2;cases r2
section
variable {X:Cx} {pins:List (Addr×Obj)} {σ:L2.St} {H:Hp} {s:Shared} {α:Type} {lt:α->α->Bool} {R:Hp->α->V->Prop} {d:α}
theorem Zd9(S:ZdN X lt R d)(hr:X.A.units+30<cLine):Zbf X (.builtin "sorted") (fun xs H Q=>∃(l:Addr) (us:List V) (kk:List α),xs=[.ref l]/\SqL X.K H l us/\us.length<64/\Paired (fun y x=>R H y x) kk us/\
  ∀zs:List (V×α),zs.Perm (us.zip kk)->zs.Pairwise (fun a b=>lt b.2 a.2=false)->∀D,H D=none->Q (.ref D) (upd H D (.lst (zs.map (·.1))))):=by
 intro pins s σ H xs vals Q I r h;obtain⟨l,us,kk,rfl,hq,h64,rp,q⟩:=h;obtain⟨u,rfl,rx⟩:=Zbx r;cases rx;obtain⟨vs,rx,pl,_⟩:=I.list hq;have hn:vs.length<64:=by rw[<-rx.length];exact h64
 have hz:vs.length<=sizeLine:=by rw[sizeLine_eq];omega
 have lkk:kk.length=us.length:=Paired.length rp;refine call_function_entry kind_sorted plain_sorted entry_sorted (args_sorted1 (.ref l)) ?_;unfold Builtin.«sorted»;refine wpAny_bind (m:=checkCount "sorted" 1 1 _) (wpAny_pure (wpAny_bind (collect_list pl.isList (wpAny_bind (wpAny_newList ?_ hz)) hz)));have sz1:((s.heap.push (seqObj "list" #[] 0)).update s.heap.objs.size (Obj.mapSeq (· ++vs.toArray))).objs.size=s.heap.objs.size+1:=by rw[Heap.size_update,size_push']
 generalize hh1:(s.heap.push (seqObj "list" #[] 0)).update s.heap.objs.size (Obj.mapSeq (· ++vs.toArray))=h1 at sz1
 have k1:∀b u,s.heap.get? b=some u->h1.get? b=some u:=fun b u e=>by
  have hlt:=Heap.lt_size e;rw[<-hh1];exact Yd b u (Nat.ne_of_lt hlt) (Heap.get?_push_of_some _ e)
 generalize hD:h1.objs.size=D at sz1
 have oD:(h1.push (seqObj "list" vs.toArray 0)).get? D=some (seqObj "list" vs.toArray 0):=by rw[<-hD];exact Heap.get?_push_size _ rfl
 have k2:∀b u,s.heap.get? b=some u->(ZaG (h1.push (seqObj "list" vs.toArray 0)) D vs).get? b=some u:=fun b u e=>
  Zlr b u (Nat.ne_of_lt (Nat.lt_of_lt_of_le (Heap.lt_size e) (by omega))) (Heap.get?_push_of_some _ (k1 b u e))
 have I2:L2.Inv X pins σ H {s with heap:=ZaG (h1.push (seqObj "list" vs.toArray 0)) D vs}:=I.kept (t':=s.toks) k2;refine wpAny_bind (wpAny_holding (wpAny_call_entry slot_list_sort ⟨_,oD,rfl⟩ entry_list_sort ?body (args_list_sort _)));refine ZhN (ans:=fun i j=>lt (kk.getD i d) (kk.getD j d)) oD hn (S.sto.ord _) (fun h2=> ?_) fun p pl2 so=>⟨_,rfl,wpAny_pure ⟨_,rfl, ?_⟩⟩
 ·exact S.kind I2 rp rx h2 (show X.A.units+1+1+5<cLine by omega)
 ·have lout:(p.toList.map fun i=>vs.getD i Value.none).length=vs.length:=by rw[List.length_map,Array.length_toList,pl2.size]
  have rv:=Zkb rx pl2;obtain⟨e,he⟩:=sortedHeap_at (h:=h1.push (seqObj "list" vs.toArray 0)) (out:=List.toArray (p.toList.map fun i=>vs.getD i Value.none)) oD;have I3:L2.Inv X pins σ H {s with heap:=sortedHeap (h1.push (seqObj "list" vs.toArray 0)) D vs (List.toArray (p.toList.map fun i=>vs.getD i Value.none))}:=I.kept (t':=s.toks) fun b u e=>Yd b u (Nat.ne_of_lt (Nat.lt_of_lt_of_le (Heap.lt_size e) (by omega))) (k2 b u e)
  have fD:H D=none:=I.hok.fresh (by omega);have J:=Zd6 (n:=D) (q:=.lst (p.toList.map fun i=>us.getD i .non)) I I3 fD (by
   cases z:s.heap.get? D with
   |none=>rfl
   |some o=>exact absurd (Heap.lt_size z) (Nat.not_lt.mpr (by omega))) ⟨by rw[rv.length,lout];exact hz,_,_,rv,he⟩
  refine⟨.ref D,_,J,rfl, ?_⟩;have fin:=q (p.toList.map fun i=>(us.getD i .non,kk.getD i d)) (Zkc lkk.symm (by rw[rx.length];exact pl2)) (Zkd so pl2) D fD
  rw[List.map_map] at fin
  exact fin
end
section
variable {X:Cx} {pins:List (Addr×Obj)} {σ:L2.St} {H:Hp} {s:Shared} {α:Type} {lt:α->α->Bool} {R:Hp->α->V->Prop} {d:α} {k:Nat} {g:Addr} {fd:FuncData} {p:Str} {sp:Sp}
theorem ZiR(S:ZdN X lt R d){E:Value->Shared->Prop}{l:Addr}{xs:List V}{Q:VK}(F:Yl X.prog X.w X.K X.mg X.base CX0 k g fd [p] sp)(hb:ZbZ X.K fd [p] [])(hr:Ju (k+2) X.A)(I:L2.Inv X pins σ H s)(hq:SqL X.K H l xs)(h64:xs.length<64)
  (h:kys sp xs [] H fun kx H2=>∃kk:List α,Paired (fun y x=>R H2 y x) kk kx/\∀zs:List (V×α),zs.Perm (xs.zip kk)->zs.Pairwise (fun a b=>lt b.2 a.2=false)->∀D,H2 D=none->Q (.ref D) (upd H2 D (.lst (zs.map (·.1))))):
  wpAny (model X.prog X.w) X.A (call (.builtin "sorted") [.ref l] [(Str.ofString "key",.ref g)]) (EP X pins σ Q) E s:=by
 obtain⟨vs,rx,pl,_⟩:=I.list hq;have hn:vs.length<64:=by rw[<-rx.length];exact h64
 have hz:vs.length<=sizeLine:=by rw[sizeLine_eq];omega
 refine call_function_entry_kw kind_sorted plain_sorted entry_sorted (ksk_s1 _ _) ?_;unfold Builtin.«sorted»;refine wpAny_bind (m:=checkCount "sorted" 1 1 _) (wpAny_pure (wpAny_bind (collect_list pl.isList (wpAny_bind (wpAny_newList ?_ hz)) hz)));have sz1:((s.heap.push (seqObj "list" #[] 0)).update s.heap.objs.size (Obj.mapSeq (· ++vs.toArray))).objs.size=s.heap.objs.size+1:=by rw[Heap.size_update,size_push']
 generalize hh1:(s.heap.push (seqObj "list" #[] 0)).update s.heap.objs.size (Obj.mapSeq (· ++vs.toArray))=h1 at sz1
 have k1:∀b u,s.heap.get? b=some u->h1.get? b=some u:=fun b u e=>by
  have hlt:=Heap.lt_size e;rw[<-hh1];exact Yd b u (Nat.ne_of_lt hlt) (Heap.get?_push_of_some _ e)
 generalize hD:h1.objs.size=D at sz1
 have oD:(h1.push (seqObj "list" vs.toArray 0)).get? D=some (seqObj "list" vs.toArray 0):=by rw[<-hD];exact Heap.get?_push_size _ rfl
 refine wpAny_bind (wpAny_holding (wpAny_call_entry_kw slot_list_sort ⟨_,oD,rfl⟩ entry_list_sort ?body (ksk_l1 _ _)));show wpAny (model X.prog X.w) X.A.in1.in1 (Builtin.«list.sort» ⟨[.ref D],[(Str.ofString "key",.ref g)]⟩) _ _ _;rw[ksk_t1];unfold ksk_tree;obtain⟨e1,oD1⟩:∃e1,((h1.push (seqObj "list" vs.toArray 0)).update D (Obj.mapSeq fun _=>(#[]:Array Value))).get? D=some (seqObj "list" #[] e1):=⟨_,get?_update_seq oD fun _=> #[]⟩
 have za:vs.toArray.size<=sizeLine:=by rw[List.size_toArray];exact hz
 refine wpAny_bind (listItems_at oD rfl (wpAny_bind (listUpdate_at oD rfl (wpAny_bind (seqEpoch_at oD1 rfl (wpAny_bind (wpAny_newTuple (wpAny_bind (wpAny_newList (wpAny_holding ?_) (Nat.zero_le _))) hz)))) za (Nat.zero_le _))));have sz2:(((h1.push (seqObj "list" vs.toArray 0)).update D (Obj.mapSeq fun _=>(#[]:Array Value))).push (seqObj "tuple" vs.toArray 0)).objs.size=D+2:=by rw[size_push',Heap.size_update,size_push',hD]
 have k2:∀b u,s.heap.get? b=some u->((((h1.push (seqObj "list" vs.toArray 0)).update D (Obj.mapSeq fun _=>(#[]:Array Value))).push (seqObj "tuple" vs.toArray 0)).push (seqObj "list" #[] 0)).get? b=some u:=fun b u e=>by
  have hlt:=Heap.lt_size e;exact Heap.get?_push_of_some _ (Heap.get?_push_of_some _ (Yd b u (Nat.ne_of_lt (Nat.lt_of_lt_of_le hlt (by omega))) (Heap.get?_push_of_some _ (k1 b u e))))
 have I0:L2.Inv X pins σ H {s with heap:=(((h1.push (seqObj "list" vs.toArray 0)).update D (Obj.mapSeq fun _=>(#[]:Array Value))).push (seqObj "tuple" vs.toArray 0)).push (seqObj "list" #[] 0)}:=I.kept (t':=s.toks) k2;have oK:((((h1.push (seqObj "list" vs.toArray 0)).update D (Obj.mapSeq fun _=>(#[]:Array Value))).push (seqObj "tuple" vs.toArray 0)).push (seqObj "list" #[] 0)).get? (D+2)=some (seqObj "list" #[] 0):=by rw[<-sz2];exact Heap.get?_push_size _ rfl
 have oD2:((((h1.push (seqObj "list" vs.toArray 0)).update D (Obj.mapSeq fun _=>(#[]:Array Value))).push (seqObj "tuple" vs.toArray 0)).push (seqObj "list" #[] 0)).get? D=some (seqObj "list" #[] e1):=Heap.get?_push_of_some _ (Heap.get?_push_of_some _ oD1);have fresh:∀a,s.heap.objs.size<=a->H a=none/\a≠X.env.locals/\a∉X.fs:=fun a ha=>⟨I.hok.fresh ha,fun z=>absurd (z▸ha) (Nat.not_le.mpr I.lt),I.nofs ha⟩
 have lK:Zf4 X (D+2):=ZeD I (by omega);have lD:Zf4 X D:=ZeD I (by omega);have old:∀p∈pins,p.1<s.heap.objs.size:=fun p hp=>Heap.lt_size (I.pin p (List.mem_append_right _ hp)).1;have I2:L2.Inv X ((D+2,seqObj "list" #[] 0)::(D,seqObj "list" #[] e1)::pins) σ H {s with heap:=(((h1.push (seqObj "list" vs.toArray 0)).update D (Obj.mapSeq fun _=>(#[]:Array Value))).push (seqObj "tuple" vs.toArray 0)).push (seqObj "list" #[] 0)}:=I0.pins_of fun p hp=>by
  rcases List.mem_cons.mp hp with rfl|hp
  ·exact⟨oK,(fresh _ (by omega)).1,(fresh _ (by omega)).2.1,(fresh _ (by omega)).2.2,YD⟩
  ·obtain rfl|hp:=List.mem_cons.mp hp
   ·exact⟨oD2,(fresh _ (by omega)).1,(fresh _ (by omega)).2.1,(fresh _ (by omega)).2.2,YD⟩
   ·exact I0.pin p (List.mem_append_right _ hp)
 dsimp only
 rw[sz2];have nD:D≠D+2:=Nat.ne_of_lt (Nat.lt_add_of_pos_right (by decide));refine ZmJ F hb hr lK nD (fun p hp=>Nat.ne_of_lt (Nat.lt_of_lt_of_le (old p hp) (by omega))) I2 rx hn h fun ks kx e H3 s3 I3 rk lk ⟨kk,rp,q⟩=> ?_;have u5:X.A.in1.in1.units+5<cLine:=by
  have:=hr.units;show X.A.units+1+1+5<cLine;omega
 have lkk:kk.length=vs.length:=by rw[<-lk,<-rk.length];exact Paired.length rp
 have pk:=(I3.pin (D+2,seqObj "list" (List.toArray ks) e) (List.mem_append_right _ (.head _))).1;have pD:=I3.pin (D,seqObj "list" #[] e1) (List.mem_append_right _ (.tail _ (.head _)));refine Zo4 (ans:=fun i j=>lt (kk.getD i d) (kk.getD j d)) (S.sto.ord _) lk hn (fun h2=> ?_) fun st dn=> ?_
 ·have go:=S.kind I3 rp rk (by omega) u5;rw[lk] at go
  exact go
 ·obtain⟨⟨pp,pl2,so,ho⟩,hf⟩:=dn;have lout:(pp.toList.map fun i=>vs.getD i Value.none).length=vs.length:=by rw[List.length_map,Array.length_toList,pl2.size]
  refine ZmI pk pD.1 nD ho (by omega) (by omega) hf ⟨_,rfl,wpAny_pure ⟨_,rfl, ?_⟩⟩;have J1:=Zbk I3 lK (fun p hp=> ?n1) Yd (get?_update_seq pk fun _=> #[]) YD;have J2:L2.Inv X ((D,seqObj "list" #[] e1)::pins) σ H3 {s3 with heap:=s3.heap.update (D+2) (Obj.mapSeq fun _=> #[])}:=J1.pins_of fun p hp=>J1.pin p (List.mem_append_right _ (.tail _ hp));have pD2:=(J2.pin (D,seqObj "list" #[] e1) (List.mem_append_right _ (.head _))).1
  have up:=get?_update_seq pD2 fun _=>List.toArray (pp.toList.map fun i=>vs.getD i Value.none);have J3:=Zbk J2 lD (fun p hp=>Nat.ne_of_lt (Nat.lt_of_lt_of_le (old p hp) (by omega))) Yd up YD;have J4:L2.Inv X pins σ H3 {s3 with heap:=(s3.heap.update (D+2) (Obj.mapSeq fun _=> #[])).update D (Obj.mapSeq fun _=>List.toArray (pp.toList.map fun i=>vs.getD i Value.none))}:=J3.pins_of fun p hp=>J3.pin p (List.mem_append_right _ (.tail _ hp))
  have rv:=Zkb rx pl2;have J5:=Zd6 (n:=D) (q:=.lst (pp.toList.map fun i=>xs.getD i .non)) I J4 pD.2.1 (by
   cases z:s.heap.get? D with
   |none=>rfl
   |some o=>exact absurd (Heap.lt_size z) (Nat.not_lt.mpr (by omega))) ⟨by rw[rv.length,lout];exact hz,_,_,rv,up⟩
  refine⟨.ref D,_,J5,rfl, ?_⟩;have fin:=q (pp.toList.map fun i=>(xs.getD i .non,kk.getD i d)) (Zkc (by rw[rx.length,lkk]) (by rw[rx.length];exact pl2)) (Zkd so pl2) D pD.2.1
  rw[List.map_map] at fin
  exact fin
  case n1=>
   rcases List.mem_cons.mp hp with rfl|hp
   ·exact nD
   ·exact Nat.ne_of_lt (Nat.lt_of_lt_of_le (old p hp) (by omega))
def Zs6(K:PySem.W.Frag)(lt:α->α->Bool)(R:Hp->α->V->Prop)(sp:Sp)(t:TA):TE:=fun σ H Q=>t σ H fun vs H1=>∃(l:Addr) (xs:List V),vs=[.ref l]/\SqL K H1 l xs/\xs.length<64/\kys sp xs [] H1 fun kx H2=>∃kk:List α,Paired (fun y x=>R H2 y x) kk kx/\
 ∀zs:List (V×α),zs.Perm (xs.zip kk)->zs.Pairwise (fun a b=>lt b.2 a.2=false)->∀D,H2 D=none->Q (.ref D) (upd H2 D (.lst (zs.map (·.1))))
theorem ZmN(S:ZdN X lt R d){k:Nat}{x p:Str}{sp:Sp}{e:PySem.Expr}{t:TA}{p0 p1 p2 pos:Pos}(c:Cal X.prog X.w X.K X.mg X.base CX0 k x [p] sp)(hr:Ju (k+2) X.A)(hg:Gl X "sorted")(hm:X.mg "sorted"=none)(hgx:Gl X x)(ha:PA X [e] t)(hdb:(x==("__debug__":Str))=false:=by decide)
  (hs:starEach [e] X.env=[(false,eval e X.env)]:=by rfl):PE X (.Call (.Name "sorted" p0) [e] [⟨some "key",.Name x p1,p2⟩] pos) (Zs6 X.K lt R sp t):=by
 intro pins s σ H Q I h;obtain⟨f,fd,hmx,hkp,hb,F⟩:=c.ex;refine wpAny_Call_Name_kw (Zge I hg hm Jt ?_ (by decide) (by decide));refine callWith_kw (thn (ha pos pins s σ H _ I h) fun us s1 z=> ?_) (by rw[hs];rfl) (by rw[hs];rfl)
 obtain⟨vs,H1,I1,r1,q1⟩:=z;obtain⟨l,xs,rfl,hq,h64,hk⟩:=q1;obtain⟨u,rfl,ru⟩:=Zbx r1;cases ru;refine kws_cons (ZfE I1 hgx hmx (kws_nil ?_) hdb);exact ZiR S F hb hr I1 hq h64 hk
end
end L3
namespace L3
open PySem PySem.Spec PyProof.Rows L2
theorem Zs7{X:Cx}{e:PySem.Expr}{t u:TE}(h:PE X e t)(k:PE X e u):PE X e (fun σ H Q=>t σ H Q\/u σ H Q):=by
 intro pins s σ H Q I z;cases z with
 |inl z=>exact h pins s σ H Q I z
 |inr z=>exact k pins s σ H Q I z
end L3
namespace L3
open PySem PySem.Spec PyProof.Rows L2
theorem Znt{X:Cx}{K:PySem.W.Frag}{e:PySem.Expr}{f:Str}{pos:Pos}{ta:TE}(eK:X.K=K)(he:PE X e ta)(hb:attributeBase e f X.env (eval e X.env)=eval e X.env):PE X (.Attribute e f pos) (ZrE K ta f):=by
 subst eK;exact Yg he hb
end L3
namespace L3
open PySem PySem.Spec PyProof.Rows L2 PySem.W PySem.Calls
end L3
namespace L3
open PySem PySem.Spec PyProof.Rows L2 PySem.W PySem.Calls
section
variable {X:Cx} {pins:List (Addr×Obj)} {σ:L2.St} {H:Hp} {s:Shared} {A:Around}
end
end L3
namespace L3
open PySem PySem.Spec PyProof.Rows L2 PySem.W PySem.Calls
end L3
namespace L3
open PySem PySem.Spec PyProof.Rows L2 PySem.W PySem.Calls
theorem Zjp:∀{vs:List Value} {ns:List Int},vs.length=ns.length->(∀(j:Nat) (v:Value),vs[j]? =some v->∃n t,ns[j]? =some n/\v=.int n t)->Yc (ns.map V.int) vs
 |[],[],_,_=> .nil
 |[],_::_,e,_=>nomatch e
 |_::_,[],e,_=>nomatch e
 |v::vs,n::ns,h,k=>by
  obtain⟨m,t,e,rfl⟩:=k 0 v rfl;cases e;exact .cons ⟨t,rfl⟩ (Zjp (by simpa using h) fun j w e=>k (j+1) w (by simpa using e))
theorem ZhU{H:Hp}:∀ns:List Int,Paired (Zpz H) ns (ns.map V.int)
 |[]=> .nil
 |n::ns=> .cons rfl (ZhU ns)
section
variable {X:Cx}
theorem Zkg(hc:X.calm=true)(hr:X.A.units+30<cLine):Zbf X (.builtin "sorted") (fun xs H Q=>∃(v a:Addr) (c:List (Str×Int)),xs=[.ref v]/\H v=some (ZcI v a)/\H a=some (.dK (c.map fun p=>(Sum.inr p.1,V.int p.2)))/\c.length<64/\
  ∀zs:List (V×Int),zs.Perm (((c.map (·.2)).map V.int).zip (c.map (·.2)))->zs.Pairwise (fun a b=>ZaN b.2 a.2=false)->∀D,H D=none->Q (.ref D) (upd H D (.lst (zs.map (·.1))))):=by
 intro pins s σ H xs us Q I r h;obtain⟨v,a,c,rfl,hv,ha,h64,q⟩:=h;obtain⟨u,rfl,rx⟩:=Zbx r;cases rx;have vw:s.heap.IsValuesView v a:=(I.hok v _ hv).1;obtain⟨z1,z2,vs,z3,z4⟩:=I.hok a _ ha;obtain⟨ep,hat⟩:=z4.dictAt;have el:vs.length=c.length:=by have:=Paired.length z3;rw[List.length_map] at this;exact this.symm
 refine ZhH (PySem.W.kdl_values (knd:=Yy X.prog X.w) (kvs:=vs) (ep:=ep)) (I.ok.hd hc) ⟨vw,hat⟩ (by rw[sizeLine_eq,el];omega) fun h' tk ws hk hl hw=> ?_
 have rx:Yc ((c.map (·.2)).map V.int) ws:=by
  refine Zjp (by rw[hl,el,List.length_map]) fun j v e=> ?_;obtain⟨k,e1⟩:=hw j v e;have hlt:j<c.length:=by
   have:=(List.getElem?_eq_some_iff.mp e1).1;omega
  obtain⟨u2,e3,t,e4⟩:=Znm z3 (i:=j) (p:=(Sum.inr c[j].1,V.int c[j].2)) (by rw[List.getElem?_map,List.getElem?_eq_getElem hlt];rfl)
  rw[e1] at e3
  have e5:v=u2:=congrArg Prod.snd (Option.some.inj e3);exact⟨c[j].2,t,by rw[List.getElem?_map,List.getElem?_eq_getElem hlt];rfl,e5.trans e4⟩
 generalize hkk:c.map (·.2)=kk at rx q
 have lkk:kk.length=c.length:=by rw[<-hkk,List.length_map]
 have hn:ws.length<64:=by rw[hl,el];exact h64
 have hz:ws.length<=sizeLine:=by rw[sizeLine_eq];omega
 generalize hD:h'.objs.size=D;have oD:(h'.push (seqObj "list" ws.toArray 0)).get? D=some (seqObj "list" ws.toArray 0):=by rw[<-hD];exact Heap.get?_push_size _ rfl
 have old:∀b o,s.heap.get? b=some o->b<D:=fun b o e=>by rw[<-hD];exact Heap.lt_size (hk b o e)
 have k2:∀b u,s.heap.get? b=some u->(ZaG (h'.push (seqObj "list" ws.toArray 0)) D ws).get? b=some u:=fun b u e=>
  Zlr b u (Nat.ne_of_lt (old b u e)) (Heap.get?_push_of_some _ (hk b u e))
 have I2:L2.Inv X pins σ H {s with heap:=ZaG (h'.push (seqObj "list" ws.toArray 0)) D ws,toks:=tk}:=I.kept (t':=tk) k2;refine wpAny_call_entry slot_list_sort ⟨_,oD,rfl⟩ entry_list_sort ?body (args_list_sort _);refine ZhN (ans:=fun i j=>ZaN (kk.getD i 0) (kk.getD j 0)) oD hn (ZcH.ord _) (fun h2=> ?_) fun p pl2 so=>⟨_,rfl, ?_⟩
 ·exact ZfQ.kind I2 (ZhU kk) rx h2 (show X.A.units+1+1+5<cLine by omega)
 ·have lout:(p.toList.map fun i=>ws.getD i Value.none).length=ws.length:=by rw[List.length_map,Array.length_toList,pl2.size]
  have rv:=Zkb rx pl2;obtain⟨e,he⟩:=sortedHeap_at (h:=h'.push (seqObj "list" ws.toArray 0)) (out:=List.toArray (p.toList.map fun i=>ws.getD i Value.none)) oD;have I3:L2.Inv X pins σ H {s with heap:=sortedHeap (h'.push (seqObj "list" ws.toArray 0)) D ws (List.toArray (p.toList.map fun i=>ws.getD i Value.none)),toks:=tk}:=I.kept (t':=tk) fun b u e=>Yd b u (Nat.ne_of_lt (old b u e)) (k2 b u e);have I1:L2.Inv X pins σ H {s with heap:=h',toks:=tk}:=I.kept hk
  have fD:H D=none:=by
   rw[<-hD];exact I1.fresh
  have J:=Zd6 (n:=D) (q:=.lst (p.toList.map fun i=>(kk.map V.int).getD i .non)) I I3 fD (by
   cases z:s.heap.get? D with
   |none=>rfl
   |some o=>exact absurd (old D o z) (Nat.lt_irrefl _)) ⟨by rw[rv.length,lout];exact hz,_,_,rv,he⟩
  refine⟨.ref D,_,J,rfl, ?_⟩;have fin:=q (p.toList.map fun i=>((kk.map V.int).getD i .non,kk.getD i 0)) (Zkc (by rw[List.length_map]) (by rw[List.length_map,lkk,<-el,<-hl];exact pl2)) (Zkd so pl2) D fD
  rw[List.map_map] at fin
  exact fin
end
section
variable {X:Cx} {K:PySem.W.Frag}
end
end L3
namespace K95
open PySem PySem.Spec PyProof.Rows L2 L3 M1 M2 M3
set_option maxHeartbeats 5000000
def top(i:Nat):Stmt:=PySem.Challenge.pw_disposehall_k95_whole_runs_on_days_foret.main.body.getD i (.Pass ⟨0,0,0,0⟩)
abbrev Zkh:Stmt:=top 14
abbrev Zki:Stmt:=top 15
abbrev Zkj:Stmt:=top 16
abbrev Zgk:Stmt:=top 17
abbrev Zgl:Stmt:=top 19
abbrev Zf5:Stmt:=top 20
abbrev Zgm:Stmt:=top 21
abbrev Zb2:Stmt:=top 22
abbrev ZhV:Stmt:=top 24
abbrev ZhW:Stmt:=top 25
abbrev Zgn:Stmt:=top 26
abbrev ZhX:Stmt:=top 27
abbrev ZdP:Stmt:=top 28
abbrev Zgo:Stmt:=top 29
abbrev Zf6:Stmt:=top 30
abbrev Zf7:Stmt:=top 31
abbrev Zda:Stmt:=top 32
abbrev Zf8:Stmt:=top 33
abbrev Zf9:Stmt:=top 35
abbrev ZdQ:Stmt:=top 36
abbrev Zfa:Stmt:=top 37
abbrev ZdR:Stmt:=top 38
abbrev ZdS:Stmt:=top 39
abbrev Zgp:Stmt:=top 42
abbrev ZbD:Stmt:=top 43
abbrev Zcf:Stmt:=top 45
abbrev Zcg:Stmt:=top 46
abbrev Zb3:Stmt:=top 47
abbrev Zch:Stmt:=top 48
abbrev Zfb:Stmt:=top 49
abbrev Zci:Stmt:=top 50
abbrev ZdT:Stmt:=top 51
abbrev Zb4:Stmt:=top 52
abbrev Zb5:Stmt:=top 53
abbrev Zdb:Stmt:=top 54
abbrev Zcj:Stmt:=top 55
abbrev Zfc:Stmt:=top 56
abbrev Zdc:Stmt:=top 57
abbrev ZfR:Stmt:=top 58
abbrev ZdU:Stmt:=Xw (top 9) 0
abbrev ZbE:Stmt:=Xw (top 9) 2
abbrev Zdd:Stmt:=Xw (top 10) 0
abbrev ZdV:Stmt:=Xw (top 10) 1
abbrev ZbF:Stmt:=Xw (top 10) 3
abbrev Zc2:Stmt:=Xw (top 11) 0
abbrev ZaH:Stmt:=Xw (top 11) 1
abbrev ZdW:Stmt:=Xw (top 12) 0
abbrev Zck:Stmt:=Xw (top 13) 0
abbrev Zde:Stmt:=Xw (top 41) 0
abbrev Zdf:Stmt:=Xw (top 41) 1
abbrev Za0:Stmt:=Xw (top 41) 2
abbrev Zav:Stmt:=Xw (top 41) 3
abbrev Za1:Stmt:=Xw (top 41) 4
abbrev Zab:Stmt:=Xw (top 41) 5
abbrev ZdX:Stmt:=Xw (top 41) 6
abbrev ZbG:Stmt:=Xw (top 41) 7
abbrev Zkk:Stmt:=Xw (top 41) 9
structure Txt (K:PySem.W.Frag) (mg:Str->Option Value) (Zh:Addr) (Zf:Addr) (Zg:Addr) (Zb:Addr) (Zo:Addr):Prop where
 z_abs:mg "abs"=none
 z_any:mg "any"=none
 z_int:mg "int"=none
 z_len:mg "len"=none
 z_list:mg "list"=none
 z_max:mg "max"=none
 z_min:mg "min"=none
 z_range:mg "range"=none
 z_reversed:mg "reversed"=none
 z_sorted:mg "sorted"=none
 z_tuple:mg "tuple"=none
 z_zip:mg "zip"=none
 kib:PySem.W.kitOne K (.type "int") (.type "bool")=some false
 kii:PySem.W.kitOne K (.type "int") (.type "int")=some true
 kll:PySem.W.kitOne K (.type "list") (.type "list")=some true
 ktt:PySem.W.kitOne K (.type "tuple") (.type "tuple")=some true
 kss:PySem.W.kitOne K (.type "str") (.type "str")=some true
 cl_Never:Cls K Zh
 ty_Never:TyC K Zh
 cl_After:Cls K Zf
 n_After_kind:YG K Zf "kind"
 n_After_days:YG K Zf "days"
 ty_After:TyC K Zf
 cl_Later:Cls K Zg
 n_Later_one:YG K Zg "one"
 n_Later_other:YG K Zg "other"
 ty_Later:TyC K Zg
 cl_Earlier:Cls K Zb
 n_Earlier_one:YG K Zb "one"
 n_Earlier_other:YG K Zb "other"
 ty_Earlier:TyC K Zb
 cl_House:Cls K Zo
 n_House_book:YG K Zo "book"
 n_House_told:YG K Zo "told"
 n_House_own:YG K Zo "own"
 n_House_holdings:YG K Zo "holdings"
 n_House_run_days:YG K Zo "run_days"
 n_House_taken:YG K Zo "taken"
 n_House_words:YG K Zo "words"
 ty_House:TyC K Zo
 ne_Never_After:Zh≠Zf
 ne_Never_Later:Zh≠Zg
 ne_Never_Earlier:Zh≠Zb
 Z00:Zh≠Zo
 ne_After_Later:Zf≠Zg
 ne_After_Earlier:Zf≠Zb
 Z01:Zf≠Zo
 ne_Later_Earlier:Zg≠Zb
 Z02:Zg≠Zo
 Y9:Zb≠Zo
theorem Xe:100000<=sizeLine:=by rw[sizeLine_eq];decide
theorem sl{n:Nat}(h:n<=100000:=by decide):n<=sizeLine:=Nat.le_trans h Xe
theorem Zk{H:Hp}{p:Addr}{o:HO}(h:H p=none):Zy H (upd H p o):=fun b u e=>by rw[Zm (Zd e h)];exact e
theorem ZqP(x:Str)(c:Nat):(x++⟨#[c]⟩:Str).length=x.length+1:=strLen_append x ⟨#[c]⟩
theorem ZfS{α:Type}{xs:List α}{i:Int}(h0: -(xs.length:Int)<=i)(h1:i<xs.length):∃v,atI xs i=some v:=by
 unfold atI ixN
 by_cases h:0<=i
 ·rw[if_pos h,if_pos h1];exact⟨_,List.getElem?_eq_getElem (by omega)⟩
 ·rw[if_neg h,if_pos h0];exact⟨_,List.getElem?_eq_getElem (by omega)⟩
theorem ZhY{ns:List Int}{i:Int}(h0: -(ns.length:Int)<=i)(h1:i<ns.length):∃c,c∈ns/\atI (ns.map V.int) i=some (.int c):=by
 obtain⟨v,e⟩:=ZfS (xs:=ns.map V.int) (i:=i) (by rw[List.length_map];exact h0) (by rw[List.length_map];exact h1)
 obtain⟨j,_,hj,_⟩:=ZeA e;rw[List.getElem?_map] at hj
 cases q:ns[j]? with
 |none=>rw[q] at hj;cases hj
 |some c=>
  rw[q] at hj
  cases hj;exact⟨c,List.mem_of_getElem? q,e⟩
theorem ZqQ{Q:VK}{a b:V}{H:Hp}(q:Q a H)(e:a=b):Q b H:=e▸q
theorem Zcl{c A B:Prop} [Decidable c](hc:c)(h:A):if decide c=true then A else B:=by
 rw[decide_eq_true hc];exact JZ h
theorem ZqR(k:Nat):((10:Int)^k)=((10^k:Nat):Int):=by simp
theorem ZpB{k:Int}(h0:0<=k)(h1:k<=1000):Zsx 10 k:=⟨h0,by omega,by decide⟩
theorem pow_pos(k:Nat):(0:Int)<10^k:=by rw[ZqR];exact Int.natCast_pos.mpr (Nat.pow_pos (by decide))
theorem ixT{K:PySem.W.Frag}{i:Nat}{j:Int}{σ:L2.St}{H:Hp}{Q:VK}{a:Addr}{xs:List V}{v:V}(e:σ[i]? =some (some (.ref a)))(h:SqT K H a xs)(m:atI xs j=some v)(k:Q v H):tOp (ZrG K) (ZoK i) (tC (.int j)) σ H Q:=⟨_,e,a,_,_,_,rfl,rfl,h,m,k⟩
theorem vI{C:Int->Int->Prop}{g:Int->Int->V}{i:Nat}{σ:L2.St}{H:Hp}{Q:VK}{a k:Int}(e:σ[i]? =some (some (.int a)))(c:C a k)(q:Q (g a k) H):tOp (rI C g) (ZoK i) (tC (.int k)) σ H Q:=⟨_,e,a,k,rfl,rfl,c,q⟩
theorem vEq{i:Nat}{σ:L2.St}{H:Hp}{k:Bool->Hp->Prop}{x v:V}(e:σ[i]? =some (some x))(f:Zqn x v=true)(q:k (decide (x=v)) H):Zrh (tOp rEq (ZoK i) (tC v)) σ H k:=⟨_,e,f,_,rfl,q⟩
def Nm(z:Str):Prop:=1<=z.length/\z.length<=12/\∀c∈cs z,97<=c/\c<=122
def ZcJ(n k at_:Int)(j:Nat):Nat:=97+((n/((j:Int)+3)+(j:Int)*(j:Int)+k*(if(j:Int)=at_ then 1 else 0))%26).toNat
def ZdY(n k:Int)(j:Nat):Nat:=97+(((j:Int)+k)%12+n/432%14).toNat
def ZfT(n k:Int):List Nat:=
 if n/144%3=1 then(List.range 12).map (ZdY n k)
 else if n/144%3=0 then(List.range (1+k%12).toNat).map (ZcJ n k 12)
 else(List.range (1+n%12).toNat).map (ZcJ n k (n/12%(1+n%12)))
def Zbh(n k:Int):Str:=⟨(ZfT n k).toArray⟩
theorem ZfU(n k:Int):cs (Zbh n k)=ZfT n k:=rfl
def Jg:Sp:=fun vs H Q _=>∃n k:Int,vs=[.int n,.int k]/\∀H',Zy H H'->Q (.str (Zbh n k)) H'
theorem Zt1(n k a:Int)(j:Nat):97<=ZcJ n k a j/\ZcJ n k a j<=122:=by
 unfold ZcJ;have h0:=Int.emod_nonneg (n/((j:Int)+3)+(j:Int)*(j:Int)+k*(if(j:Int)=a then 1 else 0)) (show(26:Int)≠0 by decide);have h1:=Int.emod_lt_of_pos (n/((j:Int)+3)+(j:Int)*(j:Int)+k*(if(j:Int)=a then 1 else 0)) (show(0:Int)<26 by decide);omega
theorem Zt2(n k:Int)(j:Nat):97<=ZdY n k j/\ZdY n k j<=122:=by
 unfold ZdY;have h0:=Int.emod_nonneg ((j:Int)+k) (show(12:Int)≠0 by decide);have h1:=Int.emod_lt_of_pos ((j:Int)+k) (show(0:Int)<12 by decide);have h2:=Int.emod_nonneg (n/432) (show(14:Int)≠0 by decide);have h3:=Int.emod_lt_of_pos (n/432) (show(0:Int)<14 by decide);omega
theorem Zlt(n k:Int):Nm (Zbh n k):=by
 have a0:=Int.emod_nonneg n (show(12:Int)≠0 by decide);have a1:=Int.emod_lt_of_pos n (show(0:Int)<12 by decide);have b0:=Int.emod_nonneg k (show(12:Int)≠0 by decide);have b1:=Int.emod_lt_of_pos k (show(0:Int)<12 by decide);have key:∀l:List Nat,cs (Zbh n k)=l->1<=l.length->l.length<=12->(∀c∈l,97<=c/\c<=122)->Nm (Zbh n k):=fun l e h1 h2 h3=>⟨by rw[Zmx,e];exact h1,by rw[Zmx,e];exact h2,by rw[e];exact h3⟩
 refine key (ZfT n k) (ZfU n k) ?_ ?_ ?_<;>unfold ZfT<;>split
 ·rw[List.length_map,List.length_range];decide
 ·split
  ·rw[List.length_map,List.length_range];omega
  ·rw[List.length_map,List.length_range];omega
 ·rw[List.length_map,List.length_range];decide
 ·split
  ·rw[List.length_map,List.length_range];omega
  ·rw[List.length_map,List.length_range];omega
 ·intro c hc;obtain⟨j,_,rfl⟩:=List.mem_map.mp hc;exact Zt2 n k j
 ·split<;>(intro c hc;obtain⟨j,_,rfl⟩:=List.mem_map.mp hc;exact Zt1 ..)
theorem Zoh{n k k':Int}(h0:0<=k)(h1:k<12)(h0':0<=k')(h1':k'<12)(h:Zbh n k=Zbh n k'):k=k':=by
 have h:ZfT n k=ZfT n k':=by rw[<-ZfU,<-ZfU,h]
 unfold ZfT at h
 by_cases w1:n/144%3=1
 ·rw[if_pos w1,if_pos w1] at h
  have h:ZdY n k 0=ZdY n k' 0:=congrArg (fun l=>l.headD 0) h;unfold ZdY at h
  have h2:=Int.emod_nonneg (n/432) (show(14:Int)≠0 by decide);have e1:((0:Nat):Int)+k=k:=by omega
  have e2:((0:Nat):Int)+k'=k':=by omega
  rw[e1,e2,Int.emod_eq_of_lt h0 h1,Int.emod_eq_of_lt h0' h1'] at h
  omega
 ·rw[if_neg w1,if_neg w1] at h
  by_cases w0:n/144%3=0
  ·rw[if_pos w0,if_pos w0] at h
   have h:=congrArg List.length h;rw[List.length_map,List.length_map,List.length_range,List.length_range,Int.emod_eq_of_lt h0 h1,Int.emod_eq_of_lt h0' h1'] at h
   omega
  ·rw[if_neg w0,if_neg w0] at h
   have a0:=Int.emod_nonneg n (show(12:Int)≠0 by decide);have pos:(0:Int)<1+n%12:=by omega
   have t0:=Int.emod_nonneg (n/12) (Int.ne_of_gt pos);have t1:=Int.emod_lt_of_pos (n/12) pos;obtain⟨a,ea⟩:∃a:Nat,n/12%(1+n%12)=(a:Int):=⟨(n/12%(1+n%12)).toNat,by omega⟩
   rw[ea] at h t0 t1
   have lt:a<(1+n%12).toNat:=by omega
   have h:((List.range (1+n%12).toNat).map (ZcJ n k a))[a]? =((List.range (1+n%12).toNat).map (ZcJ n k' a))[a]? :=by rw[h]
   rw[List.getElem?_map,List.getElem?_map,List.getElem?_range lt] at h
   have h:ZcJ n k a a=ZcJ n k' a a:=Option.some.inj h;unfold ZcJ at h
   rw[if_pos rfl] at h
   generalize n/((a:Int)+3)+(a:Int)*(a:Int)=b at h
   have x0:=Int.emod_nonneg (b+k*1) (show(26:Int)≠0 by decide);have y0:=Int.emod_nonneg (b+k'*1) (show(26:Int)≠0 by decide);omega
inductive Tr where
 |never|after (k:Str) (d:Int)|later (x y:Tr)|earlier (x y:Tr)
def Tr.deep:Tr->Nat
 | .never=>0
 | .after _ _=>0
 | .later x y=>max x.deep y.deep+1
 | .earlier x y=>max x.deep y.deep+1
def Tr.cnt:Tr->Nat
 | .never=>1
 | .after _ _=>1
 | .later x y=>x.cnt+y.cnt
 | .earlier x y=>x.cnt+y.cnt
def Tr.lvs:Tr->List (Str×Int)
 | .never=>[]
 | .after k d=>[(k,d)]
 | .later x y=>x.lvs++y.lvs
 | .earlier x y=>x.lvs++y.lvs
def ZpC:Option Int->Option Int->Option Int
 |some a,some b=>some (if b>a then b else a)
 |_,_=>none
def Zlu:Option Int->Option Int->Option Int
 |none,o=>o
 |some a,none=>some a
 |some a,some b=>some (if b<a then b else a)
def Tr.due(l:Tb):Tr->Option Int
 | .never=>none
 | .after k d=>(lk l k).map (· +d)
 | .later x y=>ZpC (x.due l) (y.due l)
 | .earlier x y=>Zlu (x.due l) (y.due l)
def oV:Option Int->V
 |some i=> .int i
 |none=> .non
def fA(k:Str)(d:Int):List (Str×V):=ZP "days" (.int d) (ZP "kind" (.str k) [])
def fP(p q:Addr):List (Str×V):=ZP "other" (.ref q) (ZP "one" (.ref p) [])
def Xf(cn ca cl ce:Addr)(H:Hp):Tr->Addr->Prop
 | .never,a=>∃dx,H a=some (.ins cn dx [])
 | .after k d,a=>∃dx,H a=some (.ins ca dx (fA k d))
 | .later x y,a=>∃dx p q,H a=some (.ins cl dx (fP p q))/\Xf cn ca cl ce H x p/\Xf cn ca cl ce H y q
 | .earlier x y,a=>∃dx p q,H a=some (.ins ce dx (fP p q))/\Xf cn ca cl ce H x p/\Xf cn ca cl ce H y q
def ZgU(cn ca cl ce:Addr):Tr->Addr
 | .never=>cn
 | .after _ _=>ca
 | .later _ _=>cl
 | .earlier _ _=>ce
def Zkl(H:Hp)(p:Addr)(ls:List (Str×Int)):Prop:=∃ys,H p=some (.lst ys)/\Paired (fun(kd:Str×Int) y=>∃q,y=V.ref q/\H q=some (.tup [.str kd.1,.int kd.2])) ls ys
def Zcm(C:Addr):Sp:=fun vs H Q _=>∃(x dx:Addr) (k:Str) (d:Int),vs=[.ref x,.str k,.int d]/\H x=some (.ins C dx [])/\Q .non (upd H x (.ins C dx (fA k d)))
def Zac(C:Addr):Sp:=fun vs H Q _=>∃(x dx p q:Addr),vs=[.ref x,.ref p,.ref q]/\H x=some (.ins C dx [])/\Q .non (upd H x (.ins C dx (fP p q)))
def ZhZ(cn ca cl ce:Addr):Sp:=fun vs H Q _=>vs=[]/\∀a H',Zy H H'->H a=none->Xf cn ca cl ce H' .never a->Q (.ref a) H'
def Zi0(cn ca cl ce:Addr):Sp:=fun vs H Q _=>∃(k:Str) (d:Int),vs=[.str k,.int d]/\∀a H',Zy H H'->H a=none->Xf cn ca cl ce H' (.after k d) a->Q (.ref a) H'
def Zi1(cn ca cl ce:Addr):Sp:=fun vs H Q _=>∃(p q:Addr) (x y:Tr),vs=[.ref p,.ref q]/\Xf cn ca cl ce H x p/\Xf cn ca cl ce H y q/\∀a H',Zy H H'->H a=none->Xf cn ca cl ce H' (.later x y) a->Q (.ref a) H'
def Zfd(cn ca cl ce:Addr):Sp:=fun vs H Q _=>∃(p q:Addr) (x y:Tr),vs=[.ref p,.ref q]/\Xf cn ca cl ce H x p/\Xf cn ca cl ce H y q/\∀a H',Zy H H'->H a=none->Xf cn ca cl ce H' (.earlier x y) a->Q (.ref a) H'
def Zcn(cn ca cl ce:Addr)(n:Nat)(C:Addr):Sp:=fun vs H Q _=>∃(a b:Addr) (t:Tr) (l:Tb),vs=[.ref a,.ref b]/\Xf cn ca cl ce H t a/\t.deep<n/\ZgU cn ca cl ce t=C/\Rd H b (.dK (kk l))/\∀H',Zy H H'->Q (oV (t.due l)) H'
def Za4(cn ca cl ce:Addr)(n:Nat)(C:Addr):Sp:=fun vs H Q _=>∃(a:Addr) (t:Tr),vs=[.ref a]/\Xf cn ca cl ce H t a/\t.deep<n/\t.cnt<=100/\ZgU cn ca cl ce t=C/\∀p H',Zy H H'->H p=none->Zkl H' p t.lvs->Q (.ref p) H'
theorem ZfV{cn ca cl ce C:Addr}:∀vs H Q E,¬Zcn cn ca cl ce 0 C vs H Q E:=fun _ _ _ _ ⟨_,_,t,_,_,_,z,_⟩=>Nat.not_lt_zero t.deep z
theorem Zc3{cn ca cl ce C:Addr}:∀vs H Q E,¬Za4 cn ca cl ce 0 C vs H Q E:=fun _ _ _ _ ⟨_,t,_,_,z,_⟩=>Nat.not_lt_zero t.deep z
def Tr.good:Tr->Prop
 | .never=>True
 | .after k d=>Nm k/\0<=d/\d<10^40
 | .later x y=>x.good/\y.good
 | .earlier x y=>x.good/\y.good
def Jp(H:Hp):Tr->Addr->Prop
 | .never,a=>H a=some (.tup [.str (Str.ofString "never")])
 | .after k d,a=>H a=some (.tup [.str (Str.ofString "after"),.str k,.int d])
 | .later x y,a=>∃p q,H a=some (.tup [.str (Str.ofString "later"),.ref p,.ref q])/\Jp H x p/\Jp H y q
 | .earlier x y,a=>∃p q,H a=some (.tup [.str (Str.ofString "earlier"),.ref p,.ref q])/\Jp H x p/\Jp H y q
def ZaQ(cn ca cl ce:Addr)(n:Nat):Sp:=fun vs H Q _=>∃(a:Addr) (t:Tr),vs=[.ref a]/\Jp H t a/\t.deep<n/\∀p H',Zy H H'->Xf cn ca cl ce H' t p->Q (.ref p) H'
theorem ZiS{cn ca cl ce:Addr}:∀vs H Q E,¬ZaQ cn ca cl ce 0 vs H Q E:=fun _ _ _ _ ⟨_,t,_,_,z,_⟩=>Nat.not_lt_zero t.deep z
def Zaw:Sp:=fun vs H Q _=>∃c:Int,vs=[.int c]/\∀(d:Int) H',0<=d->d<10^40->Zy H H'->Q (.int d) H'
def ZbH:Sp:=fun vs H Q _=>∃(a:Addr) (ns:List Int) (b:Int) (mo:Nat),vs=[.ref a,.int b,.int (mo:Int)]/\H a=some (.lst (ns.map V.int))/\ns.length<=1000/\1<=mo/\mo<=15/\∀p (t:Tr) H',Zy H H'->Jp H' t p->t.cnt<=mo->t.good->Q (.ref p) H'
structure Sr where
 nm:Str
 el:Option Str
 tm:Option Tr
def oS:Option Str->V
 |some z=> .str z
 |none=> .non
structure Sr.good (r:Sr):Prop where
 nm:Nm r.nm
 el:∀e,r.el=some e->Nm e
 tm:∀t,r.tm=some t->t.good/\t.cnt<=9
 some:r.el=none->r.tm≠none
def Zad:List Str->List Sr->Prop
 |_,[]=>True
 |ns,r::rs=>r.good/\r.nm∉ns/\(∀e,r.el=some e->e∈ns)/\Zad (ns++[r.nm]) rs
def Zt3(cn ca cl ce:Addr)(H:Hp):Option Tr->V->Prop
 |some t,v=>∃a,v=.ref a/\Xf cn ca cl ce H t a
 |none,v=>v=.non
def ZcK(cn ca cl ce:Addr)(H:Hp)(d:Addr)(r:Sr):Prop:=∃v,H d=some (.tup [.str r.nm,oS r.el,v])/\Zt3 cn ca cl ce H r.tm v
def ZeN(cn ca cl ce:Addr)(H:Hp)(p:Addr)(rs:List Sr):Prop:=∃ds:List Addr,H p=some (.lst (ds.map V.ref))/\Paired (ZcK cn ca cl ce H) ds rs
def Za5:List Sr->Option Str->List Str
 |[],_=>[]
 |r::rr,w=>if some r.nm=w then r.nm::Za5 rr r.el else Za5 rr w
def Zfe:List Sr->Option Str->Option Sr
 |[],_=>none
 |r::rr,w=>if some r.nm=w then(if r.tm.isSome=true then some r else Zfe rr r.el) else Zfe rr w
def BkR:List Sr->Prop
 |[]=>True
 |r::rr=>r.good/\r.nm∉rr.map Sr.nm/\(∀e,r.el=some e->e∈rr.map Sr.nm)/\BkR rr
def Zdg(cn ca cl ce:Addr):Sp:=fun vs H Q _=>∃(p:Addr) (n:Str) (rs:List Sr),vs=[.ref p,.str n]/\ZeN cn ca cl ce H p rs/\rs.length<=63/\∀L H',H L=none->Zy H H'->H' L=some (.lst ((Za5 rs.reverse (some n)).map V.str))->Q (.ref L) H'
def JH(cn ca cl ce:Addr):Sp:=fun vs H Q _=>∃(p:Addr) (n:Str) (rs:List Sr) (r:Sr),vs=[.ref p,.str n]/\ZeN cn ca cl ce H p rs/\rs.length<=63/\Zfe rs.reverse (some n)=some r/\∀d H',Zy H H'->ZcK cn ca cl ce H' d r->Q (.ref d) H'
def ZdZ(cn ca cl ce:Addr):Sp:=fun vs H Q _=>∃(p:Addr) (n:Str) (rs:List Sr) (r:Sr),vs=[.ref p,.str n]/\ZeN cn ca cl ce H p rs/\rs.length<=63/\Zfe rs.reverse (some n)=some r/\∀H',Zy H H'->Q (.str r.nm) H'
def Zdh(cn ca cl ce:Addr):Sp:=fun vs H Q _=>∃(p:Addr) (n:Str) (rs:List Sr) (r:Sr) (t:Tr),vs=[.ref p,.str n]/\ZeN cn ca cl ce H p rs/\rs.length<=63/\Zfe rs.reverse (some n)=some r/\r.tm=some t/\∀a H',Zy H H'->Xf cn ca cl ce H' t a->Q (.ref a) H'
inductive Rw where
 |put (r s:Str) (d:Int)|move (r s:Str) (d:Int)|deed (r k:Str) (d:Int)|lift (h:Str) (d:Int)|hold (h:Str) (rec:Bool) (n:Str) (d:Int)
def Rw.day:Rw->Int
 | .put _ _ d=>d
 | .move _ _ d=>d
 | .deed _ _ d=>d
 | .lift _ d=>d
 | .hold _ _ _ d=>d
def Rw.word:Rw->Str
 | .put _ _ _=>"put"
 | .move _ _ _=>"move"
 | .deed _ _ _=>"deed"
 | .lift _ _=>"lift"
 | .hold _ _ _ _=>"hold"
def Rw.one:Rw->Str
 | .put r _ _=>r
 | .move r _ _=>r
 | .deed r _ _=>r
 | .lift h _=>h
 | .hold h _ _ _=>h
def onW(rec:Bool):Str:=if rec=true then "record" else "series"
def Rw.vs:Rw->List V
 | .put r s d=>[.str "put",.str r,.str s,.int d]
 | .move r s d=>[.str "move",.str r,.str s,.int d]
 | .deed r k d=>[.str "deed",.str r,.str k,.int d]
 | .lift h d=>[.str "lift",.str h,.int d]
 | .hold h rec n d=>[.str "hold",.str h,.str (onW rec),.str n,.int d]
def ZcL(H:Hp)(a:Addr)(w:Rw):Prop:=H a=some (.tup w.vs)
def YF(H:Hp)(p:Addr)(ws:List Rw):Prop:=∃ds:List Addr,H p=some (.lst (ds.map V.ref))/\Paired (ZcL H) ds ws
def ZR(ws:List Rw)(day:Int):List Rw:=ws.filter fun w=>decide (w.day<=day)
def ZcM(r:Str):Rw->Bool
 | .put x _ _=>decide (x=r)
 |_=>false
def Xm(ws:List Rw)(r:Str):Bool:=ws.any (ZcM r)
def Ze0(r:Str):Rw->Option Xd
 | .put x s d=>if x=r then some (d,s) else none
 | .move x s d=>if x=r then some (d,s) else none
 |_=>none
def Yv(ws:List Rw)(r:Str):List Xd:=ws.filterMap (Ze0 r)
def Top(ys:List Xd)(y:Xd):Prop:=y∈ys/\∀z∈ys,ZeM y z=false
theorem Top.one{ys:List Xd}{y z:Xd}(h:Top ys y)(k:Top ys z):y=z:=by
 rcases ZaP.tri y z with a|a|a
 ·rw[h.2 z k.1] at a;cases a
 ·exact a
 ·rw[k.2 y h.1] at a;cases a
def XM(r:Str)(l:Tb):Rw->Tb
 | .put x _ d=>if x=r then ZeL l "put" (max d ((lk l "put").getD d)) else l
 | .deed x k d=>if x=r then ZeL l k (max d ((lk l k).getD d)) else l
 |_=>l
def Xr(ws:List Rw)(r:Str):Tb:=ws.foldl (XM r) []
def ZbI:Rw->Option Str
 | .lift h _=>some h
 |_=>none
def Xj(ws:List Rw):List Str:=ws.filterMap ZbI
def Zco(ls:List Str):Rw->Bool
 | .hold h _ _ _=>decide (h∉ls)
 |_=>false
def Ys(ws:List Rw):List Rw:=ws.filter (Zco (Xj ws))
def Zae(r:Str)(line:List Str):Rw->Bool
 | .hold _ true n _=>decide (n=r)
 | .hold _ false n _=>decide (n∈line)
 |_=>false
def Yz(ws:List Rw)(r:Str)(line:List Str):List Str:=((Ys ws).filter (Zae r line)).map Rw.one
def Jx(due:Option Int)(many:Nat)(day:Int):Str:=match due with
 |none=>"kept"
 |some d=>if day<d then "kept" else if 0<many then "held" else "due"
def Zax:Sp:=fun vs H Q _=>∃(p:Addr) (ws:List Rw) (day:Int),vs=[.ref p,.int day]/\YF H p ws/\ws.length<=1000/\∀q H',H q=none->Zy H H'->YF H' q (ZR ws day)->Q (.ref q) H'
def ZcN:Sp:=fun vs H Q _=>∃(p:Addr) (ws:List Rw) (r:Str),vs=[.ref p,.str r]/\YF H p ws/\ws.length<=1000/\∀H',Zy H H'->Q (.bl (Xm ws r)) H'
def Zbl:Sp:=fun vs H Q _=>∃(p:Addr) (ws:List Rw) (r:Str) (y:Xd),vs=[.ref p,.str r]/\YF H p ws/\ws.length<=1000/\Top (Yv ws r) y/\∀H',Zy H H'->Q (.str y.2) H'
def Zdi:Sp:=fun vs H Q _=>∃(p:Addr) (ws:List Rw) (r:Str),vs=[.ref p,.str r]/\YF H p ws/\ws.length<=1000/\∀q H',H q=none->Zy H H'->H' q=some (.dK (kk (Xr ws r)))->Q (.ref q) H'
def ZaR:Sp:=fun vs H Q _=>∃(p:Addr) (ws:List Rw),vs=[.ref p]/\YF H p ws/\ws.length<=1000/\∀q H',H q=none->Zy H H'->YF H' q (Ys ws)->Q (.ref q) H'
def Zoi:Sp:=fun vs H Q _=>∃(a o:Addr) (h n:Str) (rec:Bool) (d:Int) (r:Str) (line:List Str) (kvs:List (Key×V)),vs=[.ref a,.str r,.ref o]/\ZcL H a (.hold h rec n d)/\H o=some (.dK kvs)/\(∀z,Zd2 H o (.str z) (if z∈line then some (V.bl true) else none))/\∀H',Zy H H'->Q (.bl (Zae r line (.hold h rec n d))) H'
def Ze1:Sp:=fun vs H Q _=>∃(p l:Addr) (ws:List Rw) (r:Str) (line:List Str),vs=[.ref p,.str r,.ref l]/\YF H p ws/\ws.length<=1000/\H l=some (.lst (line.map V.str))/\line.length<=63/\(Yz ws r line).length<64/\
 ∀q zs H',H q=none->Zy H H'->zs.Perm (Yz ws r line)->sortedS zs=true->H' q=some (.lst (zs.map V.str))->Q (.ref q) H'
def Ze2:Sp:=fun vs H Q _=>∃(q:Addr) (zs:List Str) (due:Option Int) (day:Int),vs=[oV due,.ref q,.int day]/\H q=some (.lst (zs.map V.str))/\∀H',Zy H H'->Q (.str (Jx due zs.length day)) H'
structure Jd where
 word:Str
 ser:Option Str
 own:Option Str
 due:Option Int
 holds:List Str
def Zkm:Jd:=⟨"absent",none,none,none,[]⟩
def ZtG(H:Hp)(a:Addr)(j:Jd):Prop:=∃L,H a=some (.tup [.str j.word,oS j.ser,oS j.own,oV j.due,.ref L])/\H L=some (.lst (j.holds.map V.str))
structure IsJ (rs:List Sr) (ws:List Rw) (rec:Str) (day:Int) (j:Jd):Prop where
 no:Xm (ZR ws day) rec=false->j=Zkm
 yes:Xm (ZR ws day) rec=true->∃(y:Xd) (r0:Sr) (t:Tr),Top (Yv (ZR ws day) rec) y/\Zfe rs.reverse (some y.2)=some r0/\r0.tm=some t/\j.ser=some y.2/\j.own=some r0.nm/\j.due=t.due (Xr (ZR ws day) rec)/\
  j.holds.Perm (Yz (ZR ws day) rec (Za5 rs.reverse (some y.2)))/\sortedS j.holds=true/\j.word=Jx j.due j.holds.length day
def Jv:Rw->Bool
 | .hold _ _ _ _=>true
 |_=>false
structure Zdj (rs:List Sr) (ws:List Rw):Prop where
 len:ws.length<=1000
 held:(ws.filter Jv).length<64
 ser:∀r,∀y∈Yv ws r,y.2∈rs.map Sr.nm
def ZcO(cn ca cl ce:Addr):Sp:=fun vs H Q _=>∃(p q:Addr) (rs:List Sr) (ws:List Rw) (rec:Str) (day:Int),vs=[.ref p,.ref q,.str rec,.int day]/\ZeN cn ca cl ce H p rs/\Zad [] rs/\rs.length<=63/\YF H q ws/\Zdj rs ws/\
 ∀a j H',H a=none->Zy H H'->ZtG H' a j->(∀L,H' a=some (.tup [.str j.word,oS j.ser,oS j.own,oV j.due,.ref L])->H L=none)->IsJ rs ws rec day j->Q (.ref a) H'
def Zt4(H:Hp):Option Tr->V->Prop
 |some t,v=>∃a,v=.ref a/\Jp H t a
 |none,v=>v=.non
def Zlv(H:Hp)(d:Addr)(r:Sr):Prop:=∃v,H d=some (.tup [.str r.nm,oS r.el,v])/\Zt4 H r.tm v
def LBk(H:Hp)(p:Addr)(rs:List Sr):Prop:=∃ds:List Addr,H p=some (.lst (ds.map V.ref))/\Paired (Zlv H) ds rs
def Zaf(K:PySem.W.Frag):Sp:=fun vs H Q _=>∃(a:Addr) (ns:List Int) (k:Nat),vs=[.ref a,.int (k:Int)]/\SqL K H a (ns.map V.int)/\∀H',Zy H H'->Q (.int (ns[k]?.getD 0)) H'
def ZbJ(K:PySem.W.Frag):Sp:=fun vs H Q _=>∃(a:Addr) (ns:List Int) (b:Int),vs=[.ref a,.int b]/\SqL K H a (ns.map V.int)/\∀p rs H',H p=none->Zy H H'->LBk H' p rs->Zad [] rs->1<=rs.length->rs.length<=8->Q (.ref p) H'
def Zdk(cn ca cl ce:Addr):Sp:=fun vs H Q _=>∃(p:Addr) (rs:List Sr),vs=[.ref p]/\LBk H p rs/\rs.length<=8/\(∀r∈rs,r.good)/\∀q H',H q=none->Zy H H'->ZeN cn ca cl ce H' q rs->Q (.ref q) H'
def Zay:Sp:=fun vs H Q _=>∃n b:Int,vs=[.int n,.int b]/\∀(z:Str) H',Zy H H'->Q (.str z) H'
def Zaz:Sp:=fun vs H Q _=>∃c b:Int,vs=[.int c,.int b]/\∀(n:Int) H',0<=n->Zy H H'->Q (.int n) H'
def ZqS(H:Hp)(d:Addr)(r:Sr):Prop:=∃v,H d=some (.tup [.str r.nm,oS r.el,v])/\True
def NBk(H:Hp)(p:Addr)(rs:List Sr):Prop:=∃ds:List Addr,H p=some (.lst (ds.map V.ref))/\Paired (ZqS H) ds rs
def Zag(l:Tb)(D:Int)(kd:Lf):Bool:=decide ((lk l kd.1).map (· +kd.2)=some D)
def Zhm(l:Tb)(D:Int)(ls:List Lf):List Lf:=ls.filter (Zag l D)
structure Znu (rs:List Sr) (ws:List Rw) (rec:Str) (day:Int) (H:Hp) (v:V):Prop where
 no:Xm (ZR ws day) rec=false->v=.non
 yes:Xm (ZR ws day) rec=true->∃(y:Xd) (r0:Sr) (t:Tr),Top (Yv (ZR ws day) rec) y/\Zfe rs.reverse (some y.2)=some r0/\r0.tm=some t/\(t.due (Xr (ZR ws day) rec)=none->v=.non)/\
  ∀D,t.due (Xr (ZR ws day) rec)=some D->∃(a:Addr) (k:Str) (d n:Int),v=.ref a/\H a=some (.tup [.str k,.int d,.int n])/\lk (Xr (ZR ws day) rec) k=some d/\(k,n)∈Zhm (Xr (ZR ws day) rec) D t.lvs/\∀z∈Zhm (Xr (ZR ws day) rec) D t.lvs,Zk9 z (k,n)=false
def Zgq(cn ca cl ce:Addr):Sp:=fun vs H Q _=>∃(p q:Addr) (rs:List Sr) (ws:List Rw) (rec:Str) (day:Int),vs=[.ref p,.ref q,.str rec,.int day]/\ZeN cn ca cl ce H p rs/\Zad [] rs/\rs.length<=63/\YF H q ws/\Zdj rs ws/\
 ∀v H',Zy H H'->Znu rs ws rec day H' v->Q v H'
def ZaI:Sp:=fun vs H Q E=>Zoi vs H Q E\/∃(a l:Addr) (h n:Str) (rec:Bool) (d:Int) (r:Str) (line:List Str),vs=[.ref a,.str r,.ref l]/\ZcL H a (.hold h rec n d)/\H l=some (.lst (line.map V.str))/\∀H',Zy H H'->Q (.bl (Zae r line (.hold h rec n d))) H'
abbrev Ze3:=Int×Option Int
def Zc4(H:Hp)(x:Ze3)(v:V):Prop:=∃p,v=.ref p/\H p=some (.tup [.int x.1,oV x.2])
def Jh(l:Tb):Rw->Tb
 | .lift h d=>ZeL l h (min d ((lk l h).getD d))
 |_=>l
def JW(ws:List Rw):Tb:=ws.foldl Jh []
def Zgr(lf:Tb)(rec:Str)(line:List Str):Rw->Option Ze3
 | .hold h c n d=>if Zae rec line (.hold h c n d)=true then some (d,lk lf h) else none
 |_=>none
def Zc5(ws:List Rw)(rec:Str)(line:List Str):List Ze3:=ws.filterMap (Zgr (JW ws) rec line)
def Ze4(x:Int)(s:Ze3):Prop:=s.1<=x/\∀b,s.2=some b->x<b
def ZpD(spans:List Ze3)(d:Int):Option Int->Prop
 |none=>∀x,d<=x->∃s∈spans,Ze4 x s
 |some f=>d<=f/\(∀s∈spans,¬Ze4 f s)/\∀x,d<=x->x<f->∃s∈spans,Ze4 x s
def Zah(rs:List Sr)(ws:List Rw)(rec:Str)(x:Int):Prop:=∃j,IsJ rs ws rec x j/\j.word="due"
def XN(rs:List Sr)(ws:List Rw)(rec:Str)(day:Int):Option Int->Prop
 |none=>∀x,day<=x->¬Zah rs ws rec x
 |some f=>day<=f/\Zah rs ws rec f/\∀x,day<=x->x<f->¬Zah rs ws rec x
theorem XN.one{rs:List Sr}{ws:List Rw}{rec:Str}{day:Int}:∀{o p:Option Int},XN rs ws rec day o->XN rs ws rec day p->o=p
 |none,none,_,_=>rfl
 |none,some f,a,⟨b,c,_⟩=>absurd c (a f b)
 |some f,none,⟨b,c,_⟩,a=>absurd c (a f b)
 |some f,some g,⟨b,c,d⟩,⟨b',c',d'⟩=>by
  rcases Int.lt_trichotomy f g with h|h|h
  ·exact absurd c (d' f b h)
  ·rw[h]
  ·exact absurd c' (d g b' h)
open Classical in
noncomputable def Xx (rs:List Sr) (ws:List Rw) (rec:Str) (day:Int):Option Int:=if h:∃o,XN rs ws rec day o then Classical.choose h else none
theorem ZpE{rs:List Sr}{ws:List Rw}{rec:Str}{day:Int}{o:Option Int}(h:XN rs ws rec day o):Xx rs ws rec day=o:=by
 have ex:∃o,XN rs ws rec day o:=⟨o,h⟩
 unfold Xx;rw[dif_pos ex];exact(Classical.choose_spec ex).one h
def Zhn:Rw->Option Str
 | .put r _ _=>some r
 |_=>none
def YL(ws:List Rw):List Str:=ws.filterMap Zhn
noncomputable def Zcp (rs:List Sr) (ws:List Rw) (day:Int) (recs:List Str):List Xd:=recs.filterMap fun r=>(Xx rs ws r day).map fun f=>(f,r)
structure Zkn (rs:List Sr) (ws:List Rw):Prop where
 ok:Zdj rs ws
 few:ws.length<=60
def Zbm:Sp:=fun vs H Q _=>∃(p:Addr) (x:Ze3),vs=[.ref p]/\H p=some (.tup [.int x.1,oV x.2])/\∀H',Zy H H'->Q (.int x.1) H'
def Zdl:Sp:=fun vs H Q _=>∃(d:Int) (l:Addr) (us:List V) (spans:List Ze3),vs=[.int d,.ref l]/\H l=some (.lst us)/\Paired (Zc4 H) spans us/\spans.length<64/\∀o H',Zy H H'->ZpD spans d o->Q (oV o) H'
def Ze5:Sp:=fun vs H Q _=>∃(p l:Addr) (ws:List Rw) (rec:Str) (line:List Str),vs=[.ref p,.str rec,.ref l]/\YF H p ws/\ws.length<=1000/\H l=some (.lst (line.map V.str))/\∀q us H',H q=none->Zy H H'->H' q=some (.lst us)->Paired (Zc4 H') (Zc5 ws rec line) us->Q (.ref q) H'
def Zdm(cn ca cl ce:Addr):Sp:=fun vs H Q _=>∃(p q:Addr) (rs:List Sr) (ws:List Rw) (rec:Str) (day:Int),vs=[.ref p,.ref q,.str rec,.int day]/\ZeN cn ca cl ce H p rs/\Zad [] rs/\rs.length<=63/\YF H q ws/\Zkn rs ws/\∀H',Zy H H'->XN rs ws rec day (Xx rs ws rec day)->Q (oV (Xx rs ws rec day)) H'
def Zai(H:Hp)(y:Xd)(v:V):Prop:=∃p,v=.ref p/\H p=some (.tup [.int y.1,.str y.2])
def Ze6(cn ca cl ce:Addr):Sp:=fun vs H Q _=>∃(p q:Addr) (rs:List Sr) (ws:List Rw) (day:Int),vs=[.ref p,.ref q,.int day]/\ZeN cn ca cl ce H p rs/\Zad [] rs/\rs.length<=63/\YF H q ws/\Zkn rs ws/\∀L us zs H',H L=none->Zy H H'->H' L=some (.lst us)->Paired (Zai H') zs us->zs.Perm (Zcp rs ws day (YL ws))->zs.Pairwise (fun a b=>ZeM b a=false)->(∀r∈YL ws,XN rs ws r day (Xx rs ws r day))->Q (.ref L) H'
def Jy(r:Str):Rw->Bool
 | .put x _ _=>decide (x=r)
 | .move x _ _=>decide (x=r)
 | .deed x _ _=>decide (x=r)
 |_=>false
def ZQ(ws:List Rw)(r:Str):List Rw:=ws.filter (Jy r)
def fH(b t o h r k w:Addr):List (Str×V):=ZP "words" (.ref w) (ZP "taken" (.ref k) (ZP "run_days" (.ref r) (ZP "holdings" (.ref h) (ZP "own" (.ref o) (ZP "told" (.ref t) (ZP "book" (.ref b) []))))))
def JR:Rw->Bool
 | .hold _ _ _ _=>true
 | .lift _ _=>true
 |_=>false
structure ZpF (H:Hp) (os:List (Str×Addr)) (ws:List Rw):Prop where
 one:(os.map (·.1)).Nodup
 mem:∀r,r∈os.map (·.1)↔ZQ ws r≠[]
 at_:∀x∈os,YF H x.2 (ZQ ws x.1)
abbrev Gn:=Str×Int×Int
def okv(os:List (Str×Addr)):List (Key×V):=os.map fun x=>(Sum.inr x.1,V.ref x.2)
def ZmO(H:Hp)(g:Gn)(x:Key×V):Prop:=∃p,x=(Sum.inr g.1,.ref p)/\H p=some (.tup [.int g.2.1,.int g.2.2])
def wkv(wd:List (Str×Str)):List (Key×V):=wd.map fun x=>(Sum.inr x.1,V.str x.2)
structure Hs where
 rs:List Sr
 ws:List Rw
 runs:List Int
 gs:List Gn
 wd:List (Str×Str)
inductive ZL (cn ca cl ce C:Addr) (H:Hp) (a:Addr) (s:Hs) (F:List Addr):Prop
 |mk (dx b t o h r k w:Addr) (os:List (Str×Addr)) (kvs:List (Key×V)) (_:H a=some (.ins C dx (fH b t o h r k w))) (_:ZeN cn ca cl ce H b s.rs) (_:YF H t s.ws) (_:H o=some (.dK (okv os))) (_:ZpF H os s.ws) (_:YF H h (s.ws.filter JR)) (_:H r=some (.lst (s.runs.map V.int))) (_:H k=some (.dK kvs)) (_:Paired (ZmO H) s.gs kvs) (_:H w=some (.dK (wkv s.wd))) (_:F=t::o::h::r::k::w::os.map (·.2)) (_:F.Nodup) (_:b∉F):ZL cn ca cl ce C H a s F
def Zcq(C:Addr):Sp:=fun vs H Q _=>∃(x dx p:Addr) (ds:List V),vs=[.ref x,.ref p]/\H x=some (.ins C dx [])/\H p=some (.lst ds)/\
 ∀b t o h r k w H',[b,t,o,h,r,k,w].Nodup->(∀c∈[b,t,o,h,r,k,w],H c=none)->(∀c u,c≠x->H c=some u->H' c=some u)->H' x=some (.ins C dx (fH b t o h r k w))->
  H' b=some (.lst ds)->H' t=some (.lst [])->H' o=some (.dK [])->H' h=some (.lst [])->H' r=some (.lst [])->H' k=some (.dK [])->H' w=some (.dK [])->Q .non H'
def ZeO(F:List Addr)(H H':Hp):Prop:=∀b u,b∉F->H b=some u->H' b=some u
def Ji(h:Str):Rw->Bool
 | .hold x _ _ _=>decide (x=h)
 |_=>false
def Zff:Sp:=fun vs H Q _=>∃(p:Addr) (ws:List Rw) (h:Str),vs=[.ref p,.str h]/\YF H p ws/\ws.length<=1000/\∀H',Zy H H'->Q (.bl (ws.any (Ji h))) H'
def Zaj:Rw->List Str
 | .put _ s _=>[s]
 | .move _ s _=>[s]
 | .hold _ false n _=>[n]
 |_=>[]
def Zb6:Sp:=fun vs H Q _=>∃(a:Addr) (w:Rw),vs=[.ref a]/\ZcL H a w/\∀L H',H L=none->Zy H H'->H' L=some (.lst ((Zaj w).map V.str))->Q (.ref L) H'
def Zi2(a b:Rw):Prop:=(b.word=Str.ofString "put"\/b.word=Str.ofString "hold")/\a.word=b.word/\a.one=b.one
structure YM (rs:List Sr) (i:Nat) (ns:List Str) (ws:List Rw):Prop where
 len:ws.length<=100+i
 held:(ws.filter Jv).length<=i
 named:∀w∈ws,∀n∈Zaj w,n∈rs.map Sr.nm
 one:ws.Pairwise fun a b=>¬Zi2 a b
 nl:ns.length<=i
 few:∀w∈ws,JR w=false->w.one∈ns
def Zcr:Sp:=fun vs H Q _=>∃(c b far:Int) (p:Addr) (rs:List Sr),vs=[.int c,.int b,.int far,.ref p]/\NBk H p rs/\1<=rs.length/\rs.length<=8/\∀(w:Rw) d H',Zy H H'->ZcL H' d w->(∀n∈Zaj w,n∈rs.map Sr.nm)->Q (.ref d) H'
def ZbK:Sp:=fun vs H Q _=>∃(a:Addr) (ns:List Int) (b far:Int) (p:Addr) (rs:List Sr),vs=[.ref a,.int b,.int far,.ref p]/\H a=some (.lst (ns.map V.int))/\ns.length<=63/\NBk H p rs/\1<=rs.length/\rs.length<=8/\∀(ws:List Rw) (xs:List Str) q H',H q=none->Zy H H'->YF H' q ws->YM rs ns.length xs ws->ws.length<=ns.length->Q (.ref q) H'
structure Zlw (rs:List Sr) (ws:List Rw) (day:Int) (ds:Tb):Prop where
 one:(ds.map (·.1)).Nodup
 yes:∀x∈ds,XN rs ws x.1 day (some x.2)
 no:∀r,r∉ds.map (·.1)->∀x,day<=x->¬Zah rs ws r x
def akv(aw:List Str):List (Key×V):=aw.map fun r=>(Sum.inr r,V.bl true)
section
variable {P:Program} {w:World} {K:PySem.W.Frag} {mg:Str->Option Value} {base:Heap} {Zh:Addr} {Zf:Addr} {Zg:Addr} {Zb:Addr} {Zo:Addr}
theorem kd:¬(("kind":Str)="days"):=by decide+kernel
theorem oo:¬(("one":Str)="other"):=by decide+kernel
theorem Zko(k:Str)(d:Int):(fA k d).lookup ("kind":Str)=some (.str k):=by
 unfold fA;rw[Zr,if_neg kd,Zr,if_pos rfl]
theorem Znv(k:Str)(d:Int):(fA k d).lookup ("days":Str)=some (.int d):=by
 unfold fA;rw[Zr,if_pos rfl]
theorem Zkp(p q:Addr):(fP p q).lookup ("one":Str)=some (.ref p):=by
 unfold fP;rw[Zr,if_neg oo,Zr,if_pos rfl]
theorem ZfW(p q:Addr):(fP p q).lookup ("other":Str)=some (.ref q):=by
 unfold fP;rw[Zr,if_pos rfl]
theorem Zt5(k:Str)(d:Int){m:Str}(h1:¬m="days")(h2:¬m="kind"):(fA k d).lookup m=none:=by
 unfold fA;rw[Zr,if_neg h1,Zr,if_neg h2]
 rfl
theorem Zrm(p q:Addr){m:Str}(h1:¬m="other")(h2:¬m="one"):(fP p q).lookup m=none:=by
 unfold fP;rw[Zr,if_neg h1,Zr,if_neg h2]
 rfl
theorem Xf.same{cn ca cl ce:Addr}{H H':Hp}(s:Zy H H'):∀{t:Tr} {a:Addr},Xf cn ca cl ce H t a->Xf cn ca cl ce H' t a
 | .never,a,⟨dx,h⟩=>⟨dx,s _ _ h⟩
 | .after k d,a,⟨dx,h⟩=>⟨dx,s _ _ h⟩
 | .later x y,a,⟨dx,p,q,h,h1,h2⟩=>⟨dx,p,q,s _ _ h,h1.same s,h2.same s⟩
 | .earlier x y,a,⟨dx,p,q,h,h1,h2⟩=>⟨dx,p,q,s _ _ h,h1.same s,h2.same s⟩
theorem Tr.deep_cnt:∀t:Tr,t.deep<t.cnt
 | .never=>Nat.zero_lt_one
 | .after _ _=>Nat.zero_lt_one
 | .later x y=>by
  have h1:=x.deep_cnt;have h2:=y.deep_cnt;simp only [Tr.deep,Tr.cnt];omega
 | .earlier x y=>by
  have h1:=x.deep_cnt;have h2:=y.deep_cnt;simp only [Tr.deep,Tr.cnt];omega
theorem Tr.lvs_cnt:∀t:Tr,t.lvs.length<=t.cnt
 | .never=>Nat.zero_le _
 | .after _ _=>Nat.le_refl _
 | .later x y=>by
  have h1:=x.lvs_cnt;have h2:=y.lvs_cnt;simp only [Tr.lvs,Tr.cnt,List.length_append];omega
 | .earlier x y=>by
  have h1:=x.lvs_cnt;have h2:=y.lvs_cnt;simp only [Tr.lvs,Tr.cnt,List.length_append];omega
theorem ZcP{cn ca cl ce:Addr}{H:Hp}{a:Addr}:∀{t:Tr},Xf cn ca cl ce H t a->∃dx fs,H a=some (.ins (ZgU cn ca cl ce t) dx fs)/\∀m:Str,¬m="days"->¬m="kind"->¬m="other"->¬m="one"->fs.lookup m=none
 | .never,⟨dx,h⟩=>⟨dx,_,h,fun _ _ _ _ _=>rfl⟩
 | .after k d,⟨dx,h⟩=>⟨dx,_,h,fun _ h1 h2 _ _=>Zt5 k d h1 h2⟩
 | .later x y,⟨dx,p,q,h,_⟩=>⟨dx,_,h,fun _ _ _ h1 h2=>Zrm p q h1 h2⟩
 | .earlier x y,⟨dx,p,q,h,_⟩=>⟨dx,_,h,fun _ _ _ h1 h2=>Zrm p q h1 h2⟩
theorem Zfg{cn ca cl ce:Addr}:∀t:Tr,(ZgU cn ca cl ce t=cn\/ZgU cn ca cl ce t=ca\/ZgU cn ca cl ce t=cl\/ZgU cn ca cl ce t=ce)
 | .never=> .inl rfl
 | .after _ _=> .inr (.inl rfl)
 | .later _ _=> .inr (.inr (.inl rfl))
 | .earlier _ _=> .inr (.inr (.inr rfl))
theorem Znw{H H2:Hp}{b:Addr}{l:Tb}(s:Zy H H2)(h:Rd H b (.dK (kk l))):Rd H2 b (.dK (kk l)):=by
 rcases h with h|⟨o,h⟩
 ·exact .inl (s _ _ h)
 ·exact .inr ⟨o,s _ _ h⟩
theorem Zfh{H:Hp}{b:Addr}{l:Tb}(h:Rd H b (.dK (kk l)))(k:Str):Zd2 H b (.str k) ((lk l k).map V.int):=by
 rw[<-Zhk];exact .inl ⟨_,Sum.inr k,h,rfl,rfl⟩
theorem Zi3{o:Option Int}:(o.map V.int).isSome=o.isSome:=by cases o<;>rfl
theorem ZiT:ZC ["self","kind","days"] ["self","kind","days"] (Zt Zdd):=⟨rfl,rfl,rfl,by decide+kernel,rfl,by decide+kernel,by decide+kernel⟩
theorem ZiU{f:Addr}{fd:FuncData}(F:Fun K "__init__" "After.__init__" Zdd f fd)(T:Txt K mg Zh Zf Zg Zb Zo){C:Addr}(cl:Cls K C)(n_kind:YG K C "kind")(n_days:YG K C "days"):Yl P w K mg base CX0 1 f fd ["self","kind","days"] (Zcm C):=by
 refine F.ok ZiT (fun vs H Q E h=> ?_) (fun cdv A outer s H vs Q E hr h=> ?_)
 ·obtain⟨x,dx,k,d,rfl,_⟩:=h
  rfl
 ·obtain⟨x,dx,k,d,rfl,hx,q⟩:=h;refine⟨_,(Ze (Zby (pv 0) (pv 1) rfl) (Zn (Zby (pv 0) (pv 2) rfl))), ?_⟩;refine⟨_,rfl,_,rfl,x,C,dx,_,rfl,hx,cl,n_kind,(by show 0<1000;decide),_,rfl,_,rfl,x,C,dx,_,rfl,Zc,cl,n_days,(by show 1<1000;decide), ?_⟩
  rw[ZfD];exact q
theorem Zkq:ZC ["self","one","other"] ["self","one","other"] (Zt Zc2):=⟨rfl,rfl,rfl,by decide+kernel,rfl,by decide+kernel,by decide+kernel⟩
theorem ZfX{f:Addr}{fd:FuncData}(F:Fun K "__init__" "Pair.__init__" Zc2 f fd)(T:Txt K mg Zh Zf Zg Zb Zo){C:Addr}(cl:Cls K C)(n_one:YG K C "one")(n_other:YG K C "other"):Yl P w K mg base CX0 1 f fd ["self","one","other"] (Zac C):=by
 refine F.ok Zkq (fun vs H Q E h=> ?_) (fun cdv A outer s H vs Q E hr h=> ?_)
 ·obtain⟨x,dx,p,q,rfl,_⟩:=h
  rfl
 ·obtain⟨x,dx,p,q,rfl,hx,k⟩:=h;refine⟨_,(Ze (Zby (pv 0) (pv 1) rfl) (Zn (Zby (pv 0) (pv 2) rfl))), ?_⟩;refine⟨_,rfl,_,rfl,x,C,dx,_,rfl,hx,cl,n_one,(by show 0<1000;decide),_,rfl,_,rfl,x,C,dx,_,rfl,Zc,cl,n_other,(by show 1<1000;decide), ?_⟩
  rw[ZfD];exact k
theorem ZaS{H:Hp}{x dx:Addr}{o:HO}(h1:H x=none)(h2:H dx=none):Zy H (upd (upd H dx (.own x)) x o):=fun b u e=>by
 rw[Zm (Zd e h1),Zm (Zd e h2)];exact e
theorem ZpG:ZC [] [] (Zt Zkh):=⟨rfl,rfl,rfl,by decide+kernel,rfl,by decide+kernel,by decide+kernel⟩
theorem ZpH{f:Addr}{fd:FuncData}(F:Fun K "never" "never" Zkh f fd)(T:Txt K mg Zh Zf Zg Zb Zo)(Zkr:ZrW K mg "Never" Zh):Yl P w K mg base CX0 1 f fd [] (ZhZ Zh Zf Zg Zb):=by
 refine F.ok ZpG (fun vs H Q E h=> ?_) (fun cdv A outer s H vs Q E hr h=> ?_)
 ·obtain⟨rfl,_⟩:=h
  rfl
 ·obtain⟨rfl,q⟩:=h;refine⟨_,(Zn (Zz (ZqF Zkr rfl))), ?_⟩;exact fun x dx h1 h2 _=>q x _ (ZaS h1 h2) h1 ⟨dx,Zc⟩
theorem ZpI:ZC ["kind","days"] ["kind","days"] (Zt Zki):=⟨rfl,rfl,rfl,by decide+kernel,rfl,by decide+kernel,by decide+kernel⟩
theorem ZpJ{f:Addr}{fd:FuncData}(F:Fun K "after" "after" Zki f fd)(T:Txt K mg Zh Zf Zg Zb Zo)(Zks:Zk7 P w K mg base CX0 1 "After" Zf ["self","kind","days"] (Zcm Zf)):Yl P w K mg base CX0 3 f fd ["kind","days"] (Zi0 Zh Zf Zg Zb):=by
 refine F.ok ZpI (fun vs H Q E h=> ?_) (fun cdv A outer s H vs Q E hr h=> ?_)
 ·obtain⟨k,d,rfl,_⟩:=h
  rfl
 ·obtain⟨k,d,rfl,q⟩:=h;refine⟨_,(Zn (Zz (ZhI Zks (hr.mono (by omega)) rfl ZJ (Za (pv 0) (Za (pv 1) Zj))))), ?_⟩;refine⟨_,rfl,_,rfl,fun x dx h1 h2 _=>⟨x,dx,k,d,rfl,Zc,rfl, ?_⟩⟩;rw[ZfD];exact q x _ (ZaS h1 h2) h1 ⟨dx,Zc⟩
theorem ZpK:ZC ["one","other"] ["one","other"] (Zt Zkj):=⟨rfl,rfl,rfl,by decide+kernel,rfl,by decide+kernel,by decide+kernel⟩
theorem ZpL{f:Addr}{fd:FuncData}(F:Fun K "later" "later" Zkj f fd)(T:Txt K mg Zh Zf Zg Zb Zo)(Zkt:Zk7 P w K mg base CX0 1 "Later" Zg ["self","one","other"] (Zac Zg)):Yl P w K mg base CX0 3 f fd ["one","other"] (Zi1 Zh Zf Zg Zb):=by
 refine F.ok ZpK (fun vs H Q E h=> ?_) (fun cdv A outer s H vs Q E hr h=> ?_)
 ·obtain⟨p,q,x,y,rfl,_⟩:=h
  rfl
 ·obtain⟨p,q,x,y,rfl,t1,t2,k⟩:=h;refine⟨_,(Zn (Zz (ZhI Zkt (hr.mono (by omega)) rfl ZJ (Za (pv 0) (Za (pv 1) Zj))))), ?_⟩;refine⟨_,rfl,_,rfl,fun a dx h1 h2 _=>⟨a,dx,p,q,rfl,Zc,rfl, ?_⟩⟩;rw[ZfD];exact k a _ (ZaS h1 h2) h1 ⟨dx,p,q,Zc,t1.same (ZaS h1 h2),t2.same (ZaS h1 h2)⟩
theorem ZmP:ZC ["one","other"] ["one","other"] (Zt Zgk):=⟨rfl,rfl,rfl,by decide+kernel,rfl,by decide+kernel,by decide+kernel⟩
theorem ZmQ{f:Addr}{fd:FuncData}(F:Fun K "earlier" "earlier" Zgk f fd)(T:Txt K mg Zh Zf Zg Zb Zo)(Zgs:Zk7 P w K mg base CX0 1 "Earlier" Zb ["self","one","other"] (Zac Zb)):Yl P w K mg base CX0 3 f fd ["one","other"] (Zfd Zh Zf Zg Zb):=by
 refine F.ok ZmP (fun vs H Q E h=> ?_) (fun cdv A outer s H vs Q E hr h=> ?_)
 ·obtain⟨p,q,x,y,rfl,_⟩:=h
  rfl
 ·obtain⟨p,q,x,y,rfl,t1,t2,k⟩:=h;refine⟨_,(Zn (Zz (ZhI Zgs (hr.mono (by omega)) rfl ZJ (Za (pv 0) (Za (pv 1) Zj))))), ?_⟩;refine⟨_,rfl,_,rfl,fun a dx h1 h2 _=>⟨a,dx,p,q,rfl,Zc,rfl, ?_⟩⟩;rw[ZfD];exact k a _ (ZaS h1 h2) h1 ⟨dx,p,q,Zc,t1.same (ZaS h1 h2),t2.same (ZaS h1 h2)⟩
theorem Znx(m:Str)(h:m="due"\/m="leaves"\/m="shown"):¬m="days"/\¬m="kind"/\¬m="other"/\¬m="one":=by
 rcases h with rfl|rfl|rfl<;>decide+kernel
theorem Xf.keep{cn ca cl ce:Addr}{H H':Hp}(s:∀b C dx fs,H b=some (.ins C dx fs)->H' b=some (.ins C dx fs)):∀{t:Tr} {a:Addr},Xf cn ca cl ce H t a->Xf cn ca cl ce H' t a
 | .never,a,⟨dx,h⟩=>⟨dx,s _ _ _ _ h⟩
 | .after k d,a,⟨dx,h⟩=>⟨dx,s _ _ _ _ h⟩
 | .later x y,a,⟨dx,p,q,h,h1,h2⟩=>⟨dx,p,q,s _ _ _ _ h,h1.keep s,h2.keep s⟩
 | .earlier x y,a,⟨dx,p,q,h,h1,h2⟩=>⟨dx,p,q,s _ _ _ _ h,h1.keep s,h2.keep s⟩
theorem Ye{α β:Type}{R:α->β->Prop}:∀{as:List α} {bs:List β},Paired R as bs->∀(i:Nat) (a:α),as[i]? =some a->∃b,bs[i]? =some b/\R a b
 |_,_,.nil,i,a,h=>by simp at h
 |_,_,.cons (a:=x) r t,0,a,h=>by
  have h:x=a:=by simpa using h
  subst h;exact⟨_,rfl,r⟩
 |_,_,.cons r t,i+1,a,h=>by
  obtain⟨b,e,z⟩:=Ye t i a (by simpa using h);exact⟨b,by simpa using e,z⟩
theorem Xb{ds:List Addr}{i:Nat}{y:V}(h:(ds.map V.ref)[i]? =some y):∃d,y=.ref d/\ds[i]? =some d:=by
 rw[List.getElem?_map] at h
 cases e:ds[i]? with
 |none=>rw[e] at h;cases h
 |some d=>rw[e] at h;exact⟨d,(Option.some.inj h).symm,rfl⟩
theorem Zny{c A B:Prop} [Decidable c](hc:¬c)(h:A):if(!decide c)=true then A else B:=by
 rw[decide_eq_false hc];exact JZ h
theorem ZfY:∀{ns:List Str} {rs:List Sr},Zad ns rs->∀r∈rs,r.good
 |_,[],_,r,h=>nomatch h
 |_,x::rs,⟨g,_,_,k⟩,r,h=>by
  obtain rfl|h:=List.mem_cons.mp h
  ·exact g
  ·exact ZfY k r h
theorem ZcK.keep{cn ca cl ce:Addr}{H H':Hp}(s1:∀b xs,H b=some (.tup xs)->H' b=some (.tup xs))(s2:∀b C dx fs,H b=some (.ins C dx fs)->H' b=some (.ins C dx fs)){d:Addr}{r:Sr}:ZcK cn ca cl ce H d r->ZcK cn ca cl ce H' d r
 |⟨v,h,t⟩=>by
  refine⟨v,s1 _ _ h, ?_⟩
  revert t
  cases r.tm with
  |none=>exact fun t=>t
  |some x=>exact fun⟨a,e,t⟩=>⟨a,e,t.keep s2⟩
theorem ZeF{cn ca cl ce:Addr}{H H':Hp}(s1:∀b xs,H b=some (.tup xs)->H' b=some (.tup xs))(s2:∀b C dx fs,H b=some (.ins C dx fs)->H' b=some (.ins C dx fs)):∀{ds:List Addr} {rs:List Sr},Paired (ZcK cn ca cl ce H) ds rs->Paired (ZcK cn ca cl ce H') ds rs
 |_,_,.nil=> .nil
 |_,_,.cons h t=> .cons (h.keep s1 s2) (ZeF s1 s2 t)
theorem Zbt{cn ca cl ce:Addr}{H H':Hp}(s:Zy H H'):∀{ds:List Addr} {rs:List Sr},Paired (ZcK cn ca cl ce H) ds rs->Paired (ZcK cn ca cl ce H') ds rs:=ZeF (fun b xs h=>s b _ h) fun b C dx fs h=>s b _ h
theorem Zi4:∀(rr:List Sr) (w:Option Str),(Za5 rr w).length<=rr.length
 |[],_=>Nat.le_refl _
 |r::rr,w=>by
  show(if some r.nm=w then _ else _:List Str).length<=_;have h1:=Zi4 rr r.el;have h2:=Zi4 rr w
  split
  ·rw[List.length_cons,List.length_cons];omega
  ·rw[List.length_cons];omega
def ZqT(rs:List Sr)(n:Str):Bool:=rs.any fun r=>decide (r.nm=n)&&r.tm.isSome
theorem Zku(P:Str->Bool):∀(rr:List Sr) (w:Option Str),BkR rr->(∀r∈rr,P r.nm=r.tm.isSome)->(∀n,w=some n->n∈rr.map Sr.nm)->w≠none->∃r∈rr,Zfe rr w=some r/\r.tm.isSome=true/\((Za5 rr w).filter P)[0]? =some r.nm
 |[],some n,_,_,h,_=>nomatch h n rfl
 |[],none,_,_,_,h=>absurd rfl h
 |r::rr,w,⟨g,nn,ne,b⟩,hP,h,hw=>by
  have hP2:∀x∈rr,P x.nm=x.tm.isSome:=fun x hx=>hP x (List.mem_cons_of_mem _ hx);have hr:=hP r (List.mem_cons_self ..);show∃x∈r::rr,(if some r.nm=w then(if r.tm.isSome=true then some r else Zfe rr r.el) else Zfe rr w)=some x/\_/\(List.filter P (if some r.nm=w then r.nm::Za5 rr r.el else Za5 rr w))[0]? =_
  by_cases e:some r.nm=w
  ·rw[if_pos e,if_pos e]
   by_cases t:r.tm.isSome=true
   ·rw[if_pos t,List.filter_cons_of_pos (by rw[hr];exact t)]
    exact⟨r,List.mem_cons_self ..,rfl,t,rfl⟩
   ·rw[if_neg t,List.filter_cons_of_neg (by rw[hr];exact t)]
    have el:r.el≠none:=fun z=>by
     have:=g.some z;cases q:r.tm with
     |none=>exact this q
     |some x=>rw[q] at t;exact t rfl
    obtain⟨x,hx,q⟩:=Zku P rr r.el b hP2 ne el;exact⟨x,List.mem_cons_of_mem _ hx,q⟩
  ·rw[if_neg e,if_neg e];obtain⟨x,hx,q⟩:=Zku P rr w b hP2 (fun n hn=>by
    rcases List.mem_cons.mp (h n hn) with z|z
    ·exact absurd (by rw[hn,z]) e
    ·exact z) hw
   exact⟨x,List.mem_cons_of_mem _ hx,q⟩
theorem ZpM:∀(rs acc:List Sr),BkR acc->Zad (acc.reverse.map Sr.nm) rs->BkR (rs.reverse++acc)
 |[],acc,h,_=>h
 |r::rs,acc,h,⟨g,n,e,k⟩=>by
  rw[List.reverse_cons,List.append_assoc];refine ZpM rs (r::acc) ⟨g,fun z=>n ?_,fun x hx=> ?_,h⟩ (by rw[List.reverse_cons,List.map_append];exact k)
  ·rw[List.map_reverse,List.mem_reverse];exact z
  ·have:=e x hx;rw[List.map_reverse,List.mem_reverse] at this
   exact this
theorem Zkv{rs:List Sr}(h:Zad [] rs):BkR rs.reverse:=by
 have:=ZpM rs [] trivial h
 rwa [List.append_nil] at this
theorem Zjq:∀{rr:List Sr},BkR rr->(rr.map Sr.nm).Nodup
 |[],_=>List.nodup_nil
 |r::rr,⟨_,n,_,b⟩=>by rw[List.map_cons];exact List.nodup_cons.mpr ⟨n,Zjq b⟩
theorem Zlx{rs:List Sr}(h:Zad [] rs):(rs.map Sr.nm).Nodup:=by
 have:=Zjq (Zkv h);rw[List.map_reverse] at this
 exact(List.reverse_perm _).nodup_iff.mp this
theorem Znz:∀{rs:List Sr} {r s:Sr},(rs.map Sr.nm).Nodup->r∈rs->s∈rs->r.nm=s.nm->r=s
 |x::rs,r,s,nd,hr,hs,e=>by
  rw[List.map_cons] at nd
  obtain⟨off,rest⟩:=List.nodup_cons.mp nd;rcases List.mem_cons.mp hr with h1|h1<;>rcases List.mem_cons.mp hs with h2|h2
  ·rw[h1,h2]
  ·exact absurd (List.mem_map.mpr ⟨s,h2,by rw[<-e,h1]⟩) off
  ·exact absurd (List.mem_map.mpr ⟨r,h1,by rw[e,h2]⟩) off
  ·exact Znz rest h1 h2 e
theorem ZnA{rs:List Sr}(nd:(rs.map Sr.nm).Nodup){r:Sr}(hr:r∈rs):ZqT rs r.nm=r.tm.isSome:=by
 unfold ZqT
 apply Bool.eq_iff_iff.mpr
 rw[List.any_eq_true]
 constructor
 ·rintro⟨x,hx,e⟩;rw[Bool.and_eq_true] at e
  rw[<-Znz nd hx hr (of_decide_eq_true e.1)];exact e.2
 ·exact fun h=>⟨r,hr,by rw[h,decide_eq_true rfl];rfl⟩
theorem ZpN{α:Type}{xs:List α}{i:Nat}{x:α}(h:xs[xs.length-1-i]? =some x)(hi:i<xs.length):xs.reverse.drop i=x::xs.reverse.drop (i+1):=by
 have e:xs.reverse[i]? =some x:=by rw[List.getElem?_reverse hi];exact h
 obtain⟨lt,e⟩:=List.getElem?_eq_some_iff.mp e;rw[List.drop_eq_getElem_cons lt,e]
theorem Zho(z:Str)(w:Option Str):Zqn (.str z) (oS w)=true:=by cases w<;>rfl
theorem Zjr{z:Str}{w:Option Str}:V.str z=oS w↔some z=w:=by
 cases w with
 |none=>exact⟨(fun h=>nomatch h),(fun h=>nomatch h)⟩
 |some y=>exact⟨fun h=>by injection h with h;rw[h],fun h=>by injection h with h;rw[h];rfl⟩
theorem ZbL:ZC ["book","name","line","wanted","series"] ["book","name"] (Zt Zgl):=⟨rfl,rfl,rfl,by decide+kernel,rfl,by decide+kernel,by decide+kernel⟩
theorem ZmR{f:Addr}{fd:FuncData}(F:Fun K "line_of" "line_of" Zgl f fd)(T:Txt K mg Zh Zf Zg Zb Zo):Yl P w K mg base CX0 1 f fd ["book","name"] (Zdg Zh Zf Zg Zb):=by
 refine F.ok ZbL (fun vs H Q E h=> ?_) (fun cdv A outer s H vs Q E hr h=> ?_)
 ·obtain⟨p,n,rs,rfl,_⟩:=h
  rfl
 ·obtain⟨p,n,rs,rfl,⟨ds,hp,pr⟩,lr,q⟩:=h;have l5:=Xe;have le:=Paired.length pr;refine⟨_,(Ze (Zu (i:=2) ZbL.nd rfl (Or.inl rfl) (Yk Zj)) (Ze (Zu (i:=3) ZbL.nd rfl (Or.inl rfl) (pv 1)) (Ze (Xi PassesOwn.never rfl (Zpv (K:=K) rfl (by rfl) T.z_reversed (pv 0)) (ZF (i:=4) ZbL.nd rfl (Or.inl rfl)) (Zn (ZZ (Zq Ym (Zx ZG (pv 4) Zi (fun _ _=>rfl)) (pv 3) (Zv _)) (Ze (Xh (ZaL PySem.F.plainAttrs_list PySem.F.slot_list_append PySem.F.type_list_append YC (pv 2) (Za (pv 3) Zj))) (Zn (Zu (i:=3) ZbL.nd rfl (Or.inl rfl) (Zx ZG (pv 4) Zi (fun _ _=>rfl))))) ZD))) (Zn (Zz (pv 2)))))), ?_⟩
  refine⟨Nat.zero_le _,fun L hL=> ?_⟩;have nLp:p≠L:=Zd hp hL;have s1:Zy H (upd H L (.lst [])):=Zk hL;refine⟨_,rfl,_,rfl,p,_,rfl,SqL.of (s1 _ _ hp),Zk4 (J:=Itv K p (ds.map V.ref)) (n:=ds.length) (fun i σ H'=>∃(v4:Option V) (l:List Str) (w:Option Str),σ=[some (.ref p),some (.str n),some (.ref L),some (oS w),v4]/\H' L=some (.lst (l.map V.str))/\(∀b u,b≠L->H b=some u->H' b=some u)/\l++Za5 (rs.reverse.drop i) w=Za5 rs.reverse (some n)/\l.length<=i) ?_ ?_ ?_ ?_⟩
  ·exact⟨none,[],some n,rfl,Zc,fun b u nb e=>by rw[Zm nb];exact e,rfl,Nat.le_refl _⟩
  ·rintro i σ H1 hi ⟨v4,l,w,rfl,hl,fr,eq,ll⟩;exact⟨SqL.of (fr p _ nLp hp),by rw[List.length_map];exact hi⟩
  ·rintro σ H1 ⟨v4,l,w,rfl,hl,fr,eq,ll⟩;rw[List.drop_of_length_le (by rw[List.length_reverse];omega)] at eq
   have eq:l=Za5 rs.reverse (some n):=by simpa [Za5] using eq
   refine⟨⟨SqL.of (fr p _ nLp hp),by rw[List.length_map]⟩, ?_⟩;exact⟨_,rfl,q L H1 hL (fun b u e=>fr b u (Zd e hL) e) (by rw[<-eq];exact hl)⟩
  ·rintro i x σ H2 H1 hi ⟨v4,l,w,rfl,hl,fr,eq,ll⟩ ⟨rfl,hx⟩;rw[List.length_map] at hx
   obtain⟨d,rfl,ed⟩:=Xb hx;have s1:Zy H H1:=fun b u e=>fr b u (Zd e hL) e;obtain⟨r,er,⟨v,sd,st⟩⟩:=Ye (Zbt s1 pr) _ d ed;rw[le] at er
   rw[ZpN er (by omega)] at eq
   have eq2:l++(if some r.nm=w then r.nm::Za5 (rs.reverse.drop (i+1)) r.el else Za5 (rs.reverse.drop (i+1)) w)=_:=eq;clear eq;refine(ixT rfl (SqT.of sd) rfl ⟨_,rfl,Zho _ _,_,rfl,YQ (fun e=> ?_) (fun e=> ?_)⟩)
   ·have e:=Zjr.mp (of_decide_eq_true e);rw[if_pos e] at eq2
    subst e;have l6:(l.map V.str).length<sizeLine:=by rw[List.length_map];omega
    refine⟨_,rfl,.inl ⟨rfl,_,SqL.of hl⟩,_,rfl,L,_,_,rfl,rfl,hl,l6, ?_⟩;have ndL:d≠L:=Yj sd hl (fun z=>nomatch z);refine(ixT rfl (SqT.of (by rw[Zm ndL];exact sd)) rfl ?_)
    exact⟨_,l++[r.nm],r.el,rfl,by rw[Zc,List.map_append];rfl,fun b u nb z=>by rw[Zm nb];exact fr b u nb z,by rw[List.append_assoc];exact eq2,by rw[List.length_append];exact Nat.add_le_add_right ll 1⟩
   ·have e:¬some r.nm=w:=fun z=>e (decide_eq_true (Zjr.mpr z));rw[if_neg e] at eq2
    exact⟨_,l,w,rfl,hl,fr,eq2,Nat.le_succ_of_le ll⟩
theorem JK:ZC ["book","name","wanted","series"] ["book","name"] (Zt Zb2):=⟨rfl,rfl,rfl,by decide+kernel,rfl,by decide+kernel,by decide+kernel⟩
theorem Zgt{f:Addr}{fd:FuncData}(F:Fun K "owning_series" "owning_series" Zb2 f fd)(T:Txt K mg Zh Zf Zg Zb Zo):Yl P w K mg base CX0 1 f fd ["book","name"] (JH Zh Zf Zg Zb):=by
 refine F.ok JK (fun vs H Q E h=> ?_) (fun cdv A outer s H vs Q E hr h=> ?_)
 ·obtain⟨p,n,rs,r0,rfl,_⟩:=h
  rfl
 ·obtain⟨p,n,rs,r0,rfl,⟨ds,hp,pr⟩,lr,ow,q⟩:=h;have le:=Paired.length pr;refine⟨_,(Ze (Zu (i:=2) JK.nd rfl (Or.inl rfl) (pv 1)) (Zn (Xi PassesOwn.never rfl (Zpv (K:=K) rfl (by rfl) T.z_reversed (pv 0)) (ZF (i:=3) JK.nd rfl (Or.inl rfl)) (Ze (ZZ (PW.pt (Xz (Zq Ym (Zx ZG (pv 3) Zi (fun _ _=>rfl)) (pv 2) (Zv _)) (YX (Zq ZfH (Zx ZG (pv 3) Zi (fun _ _=>rfl)) YB (Zv _))))) (Zn (Zz (pv 3))) ZD) (Zn (ZZ (Zq Ym (Zx ZG (pv 3) Zi (fun _ _=>rfl)) (pv 2) (Zv _)) (Zn (Zu (i:=2) JK.nd rfl (Or.inl rfl) (Zx ZG (pv 3) Zi (fun _ _=>rfl)))) ZD)))))), ?_⟩
  refine⟨_,rfl,_,rfl,p,_,rfl,SqL.of hp,Zk4 (J:=Itv K p (ds.map V.ref)) (n:=ds.length) (fun i σ H'=>∃(v3:Option V) (w:Option Str),σ=[some (.ref p),some (.str n),some (oS w),v3]/\H'=H/\Zfe (rs.reverse.drop i) w=some r0) ?_ ?_ ?_ ?_⟩
  ·exact⟨none,some n,rfl,rfl,ow⟩
  ·rintro i σ H1 hi ⟨v3,w,rfl,rfl,eq⟩;exact⟨SqL.of hp,by rw[List.length_map];exact hi⟩
  ·rintro σ H1 ⟨v3,w,rfl,rfl,eq⟩;rw[List.drop_of_length_le (by rw[List.length_reverse];omega)] at eq
   cases eq
  ·rintro i x σ H1 H2 hi ⟨v3,w,rfl,rfl,eq⟩ ⟨rfl,hx⟩;rw[List.length_map] at hx
   obtain⟨d,rfl,ed⟩:=Xb hx;obtain⟨r,er,ser⟩:=Ye pr _ d ed;obtain⟨v,sd,st⟩:=id ser;rw[le] at er
   rw[ZpN er (by omega)] at eq
   have eq:(if some r.nm=w then(if r.tm.isSome=true then some r else Zfe (rs.reverse.drop (i+1)) r.el) else Zfe (rs.reverse.drop (i+1)) w)=some r0:=eq;refine(ixT rfl (SqT.of sd) rfl ⟨_,rfl,Zho _ _,_,rfl,YQ (fun e=> ?_) (fun e=> ?_)⟩)
   ·have e':=Zjr.mp (of_decide_eq_true e);rw[if_pos e'] at eq
    cases ht:r.tm with
    |none=>
     rw[ht] at eq st
     obtain rfl:v=.non:=st;refine(ixT rfl (SqT.of sd) rfl ⟨rfl,_,rfl,ZsK rfl ?_⟩);exact(ixT rfl (SqT.of sd) rfl ⟨_,rfl,Zho _ _,_,rfl,Zcl (Zjr.mpr e') (ixT rfl (SqT.of sd) rfl ⟨_,r.el,rfl,rfl,eq⟩)⟩)
    |some t=>
     rw[ht,if_pos (show(some t).isSome=true from rfl)] at eq
     rw[ht] at st
     obtain⟨a,rfl,tm⟩:=st;obtain rfl:r=r0:=Option.some.inj eq;exact(ixT rfl (SqT.of sd) rfl ⟨rfl,_,rfl,Zny (fun z=>nomatch z) ⟨_,rfl,q d _ (Zy.refl _) ser⟩⟩)
   ·have e':¬some r.nm=w:=fun z=>e (decide_eq_true (Zjr.mpr z));rw[if_neg e'] at eq
    exact Yt (ixT rfl (SqT.of sd) rfl ⟨_,rfl,Zho _ _,_,rfl,YJ (fun z=>e' (Zjr.mp z)) ⟨_,w,rfl,rfl,eq⟩⟩)
theorem Zly:ZC ["book","name"] ["book","name"] (Zt Zf5):=⟨rfl,rfl,rfl,by decide+kernel,rfl,by decide+kernel,by decide+kernel⟩
theorem Zlz{f:Addr}{fd:FuncData}(F:Fun K "owner_of" "owner_of" Zf5 f fd)(T:Txt K mg Zh Zf Zg Zb Zo)(XC:Cal P w K mg base CX0 1 "owning_series" ["book","name"] (JH Zh Zf Zg Zb)):Yl P w K mg base CX0 2 f fd ["book","name"] (ZdZ Zh Zf Zg Zb):=by
 refine F.ok Zly (fun vs H Q E h=> ?_) (fun cdv A outer s H vs Q E hr h=> ?_)
 ·obtain⟨p,n,rs,r,rfl,_⟩:=h
  rfl
 ·obtain⟨p,n,rs,r,rfl,bat,lr,ow,q⟩:=h;refine⟨_,(Zn (Zz (Zx ZG (ZV XC (hr.mono (by omega)) rfl ZJ (Za (pv 0) (Za (pv 1) Zj))) Zi (fun _ _=>rfl)))), ?_⟩;exact⟨_,rfl,_,rfl,p,n,rs,r,rfl,bat,lr,ow,fun d H1 s1 ⟨v,sd,st⟩=>⟨d,_,_,_,rfl,rfl,SqT.of sd,rfl,q H1 s1⟩⟩
theorem ZmS:ZC ["book","name"] ["book","name"] (Zt Zgm):=⟨rfl,rfl,rfl,by decide+kernel,rfl,by decide+kernel,by decide+kernel⟩
theorem ZmT{f:Addr}{fd:FuncData}(F:Fun K "term_of" "term_of" Zgm f fd)(T:Txt K mg Zh Zf Zg Zb Zo)(XC:Cal P w K mg base CX0 1 "owning_series" ["book","name"] (JH Zh Zf Zg Zb)):Yl P w K mg base CX0 2 f fd ["book","name"] (Zdh Zh Zf Zg Zb):=by
 refine F.ok ZmS (fun vs H Q E h=> ?_) (fun cdv A outer s H vs Q E hr h=> ?_)
 ·obtain⟨p,n,rs,r,t,rfl,_⟩:=h
  rfl
 ·obtain⟨p,n,rs,r,t,rfl,bat,lr,ow,ht,q⟩:=h;refine⟨_,(Zn (Zz (Zx ZG (ZV XC (hr.mono (by omega)) rfl ZJ (Za (pv 0) (Za (pv 1) Zj))) Zi (fun _ _=>rfl)))), ?_⟩;refine⟨_,rfl,_,rfl,p,n,rs,r,rfl,bat,lr,ow,fun d H1 s1 ⟨v,sd,st⟩=> ?_⟩;rw[ht] at st
  obtain⟨a,rfl,tm⟩:=st;exact⟨d,_,_,_,rfl,rfl,SqT.of sd,rfl,q a H1 s1 tm⟩
theorem ZM{H H':Hp}(s:Zy H H'):∀{ds:List Addr} {ws:List Rw},Paired (ZcL H) ds ws->Paired (ZcL H') ds ws
 |_,_,.nil=> .nil
 |_,_,.cons h t=> .cons (s _ _ h) (ZM s t)
theorem Zdn{H:Hp}(P:Rw->Bool):∀{ds:List Addr} {ws:List Rw},Paired (ZcL H) ds ws->∃es:List Addr,((ds.zip ws).flatMap fun z=>if P z.2=true then[V.ref z.1] else[])=es.map V.ref/\Paired (ZcL H) es (ws.filter P)
 |_,_,.nil=>⟨[],rfl,.nil⟩
 |_,_,.cons (a:=a) (b:=w) h t=>by
  obtain⟨es,e,c⟩:=Zdn P t;cases hp:P w with
  |true=>
   refine⟨a::es, ?_,by rw[List.filter_cons_of_pos hp];exact .cons h c⟩
   rw[List.zip_cons_cons,List.flatMap_cons,e,if_pos hp]
   rfl
  |false=>
   refine⟨es, ?_,by rw[List.filter_cons_of_neg (by rw[hp];exact Bool.false_ne_true)];exact c⟩
   rw[List.zip_cons_cons,List.flatMap_cons,e,if_neg (by rw[hp];exact Bool.false_ne_true)]
   rfl
theorem ZqU(w:Rw):atI w.vs (-1)=some (.int w.day):=by cases w<;>rfl
theorem JX(w:Rw):atI w.vs 0=some (.str w.word):=by cases w<;>rfl
theorem Zfi(w:Rw):atI w.vs 1=some (.str w.one):=by cases w<;>rfl
theorem ZmU{ds:List Addr}{ws:List Rw}{j:Nat}{d:Addr}{w:Rw}(h1:ds[j]? =some d)(h2:ws[j]? =some w):(ds.zip ws)[j]? =some (d,w):=List.getElem?_zip_eq_some.mpr ⟨h1,h2⟩
theorem Zi5{P:Rw->Bool}{o:Option (Addr×Rw)}:((o.map fun z=>if P z.2=true then[V.ref z.1] else[]).getD []).length<=1:=by
 cases o with
 |none=>exact Nat.zero_le 1
 |some z=>
  show(if _ then[V.ref z.1] else[]).length<=1
  split
  ·exact Nat.le_refl 1
  ·exact Nat.zero_le 1
theorem ZmV:ZC ["rows","day"] ["rows","day"] (Zt Zgn):=⟨rfl,rfl,rfl,by decide+kernel,rfl,by decide+kernel,by decide+kernel⟩
theorem ZmW{f:Addr}{fd:FuncData}(F:Fun K "counted" "counted" Zgn f fd)(T:Txt K mg Zh Zf Zg Zb Zo):Yl P w K mg base CX0 1 f fd ["rows","day"] Zax:=by
 refine F.ok ZmV (fun vs H Q E h=> ?_) (fun cdv A outer s H vs Q E hr h=> ?_)
 ·obtain⟨p,ws,day,rfl,_⟩:=h
  rfl
 ·obtain⟨p,ws,day,rfl,⟨ds,hp,pr⟩,lw,q⟩:=h;have l5:=Xe;have le:=Paired.length pr;have lz:(ds.zip ws).length=ds.length:=by rw[List.length_zip];omega
  refine⟨_,(Zn (Zz (Jc ["row"] [("day",1)] rfl (Yb (pv 0)) (by rfl) (by exact⟨rfl,trivial⟩) (by rfl) (by exact⟨⟨rfl,rfl,rfl⟩,trivial⟩) (fun _ _ _ _=>(ZF (i:=0) (show(nmY ["row"] [("day",1)]).Nodup by decide+kernel) rfl (Or.inl rfl))) (fun _ _ _ _=>(Jw (Zq ZoT (Zx (Yu (K:=K) rfl) (pv 0) (Zrg ZoQ Zi) (fun _ _=>rfl)) (pv 1) (Zv _)))) (fun _ _ _ _=>(pv 0))))), ?_⟩;refine⟨_,rfl,p,rfl,⟨_,SqL.of hp⟩,Xa (ds.zip ws).length (fun j=>(((ds.zip ws)[j]?).map fun z=>if decide (z.2.day<=day)=true then[V.ref z.1] else[]).getD []) (by omega) (fun j=>Zi5 (P:=fun w=>decide (w.day<=day))) (fun j H2 s2 lt=>⟨_,_,SqL.of (s2 _ _ hp),List.getElem?_eq_getElem (by rw[List.length_map];omega)⟩) (fun H2 s2=>⟨_,SqL.of (s2 _ _ hp),by rw[List.length_map];omega⟩) (fun j y H2 H3 s2 lt yl RT RF rt rf=> ?_) fun D H2 hD s2 d2=> ?_⟩
  ·obtain⟨rfl,yl⟩:=yl;obtain⟨d,rfl,ed⟩:=Xb (yl _ (SqL.of (s2 _ _ hp)));obtain⟨w,ew,row⟩:=Ye (ZM s2 pr) j d ed;have row:H3 d=some (.tup w.vs):=row;rw[ZmU ed ew] at rt rf
   refine⟨⟨rfl,trivial⟩,_,rfl,_,rfl,d,_,_,.int w.day,rfl,rfl,SqT.of row,ZqU w,_,rfl,_,_,rfl,rfl,_,rfl, ?_⟩;exact YQ (fun z=>⟨_,rfl,rt _ _ (if_pos z) (Zy.refl _)⟩) (fun z=>rf _ (if_neg z) (Zy.refl _))
  ·rw[Xq (fun z:Addr×Rw=>if decide (z.2.day<=day)=true then[V.ref z.1] else[]) (ds.zip ws)] at d2
   obtain⟨es,e,c⟩:=Zdn (fun w=>decide (w.day<=day)) (ZM s2 pr);rw[e] at d2
   exact q D H2 hD s2 ⟨es,d2,c⟩
theorem vne{a b:Str}(h:¬a=b):¬V.str a=V.str b:=fun z=>h (by injection z)
theorem Zt6:¬Str.ofString "put"=Str.ofString "move":=by decide+kernel
theorem Zrn:¬Str.ofString "put"=Str.ofString "deed":=by decide+kernel
theorem Zi6:¬Str.ofString "put"=Str.ofString "lift":=by decide+kernel
theorem ZgV:¬Str.ofString "put"=Str.ofString "hold":=by decide+kernel
theorem Zro:¬Str.ofString "move"=Str.ofString "put":=by decide+kernel
theorem Zrp:¬Str.ofString "move"=Str.ofString "deed":=by decide+kernel
theorem Zjs:¬Str.ofString "move"=Str.ofString "lift":=by decide+kernel
theorem Zi7:¬Str.ofString "move"=Str.ofString "hold":=by decide+kernel
theorem ZpO:¬Str.ofString "deed"=Str.ofString "put":=by decide+kernel
theorem Zt7:¬Str.ofString "deed"=Str.ofString "move":=by decide+kernel
theorem ZlA:¬Str.ofString "deed"=Str.ofString "lift":=by decide+kernel
theorem Zi8:¬Str.ofString "deed"=Str.ofString "hold":=by decide+kernel
theorem ZpP:¬Str.ofString "lift"=Str.ofString "put":=by decide+kernel
theorem Zt8:¬Str.ofString "lift"=Str.ofString "move":=by decide+kernel
theorem Zt9:¬Str.ofString "lift"=Str.ofString "deed":=by decide+kernel
theorem ZlB:¬Str.ofString "lift"=Str.ofString "hold":=by decide+kernel
theorem ZpQ:¬Str.ofString "hold"=Str.ofString "put":=by decide+kernel
theorem Zta:¬Str.ofString "hold"=Str.ofString "move":=by decide+kernel
theorem Ztb:¬Str.ofString "hold"=Str.ofString "deed":=by decide+kernel
theorem Zrq:¬Str.ofString "hold"=Str.ofString "lift":=by decide+kernel
theorem ZqV(w:Rw)(r:Str):(decide (V.str w.word=V.str "put")&&decide (V.str w.one=V.str r))=ZcM r w:=by
 cases w with
 |put x s d=>
  show(decide (V.str "put"=V.str "put")&&decide (V.str x=V.str r))=decide (x=r);rw[decide_eq_true rfl,Bool.true_and]
  by_cases h:x=r
  ·rw[h,decide_eq_true rfl,decide_eq_true rfl]
  ·rw[decide_eq_false h,decide_eq_false (vne h)]
 |move x s d=>exact(congrArg (fun b=>b&&_) (decide_eq_false (vne Zro))).trans (Bool.false_and _)
 |deed x k d=>exact(congrArg (fun b=>b&&_) (decide_eq_false (vne ZpO))).trans (Bool.false_and _)
 |lift h d=>exact(congrArg (fun b=>b&&_) (decide_eq_false (vne ZpP))).trans (Bool.false_and _)
 |hold h c n d=>exact(congrArg (fun b=>b&&_) (decide_eq_false (vne ZpQ))).trans (Bool.false_and _)
theorem Zoj:ZC ["rows","record"] ["rows","record"] (Zt ZhX):=⟨rfl,rfl,rfl,by decide+kernel,rfl,by decide+kernel,by decide+kernel⟩
theorem Zok{f:Addr}{fd:FuncData}(F:Fun K "is_put" "is_put" ZhX f fd)(T:Txt K mg Zh Zf Zg Zb Zo):Yl P w K mg base CX0 1 f fd ["rows","record"] ZcN:=by
 refine F.ok Zoj (fun vs H Q E h=> ?_) (fun cdv A outer s H vs Q E hr h=> ?_)
 ·obtain⟨p,ws,r,rfl,_⟩:=h
  rfl
 ·obtain⟨p,ws,r,rfl,⟨ds,hp,pr⟩,lw,q⟩:=h;have l5:=Xe;have le:=Paired.length pr;refine⟨_,(Zn (Zz (ZS (ZhG rfl) (by rfl) T.z_any Zpb (Za (Jc ["row"] [("record",1)] rfl (Yb (pv 0)) (by rfl) (by exact⟨rfl,trivial⟩) (by rfl) (by exact⟨⟨rfl,rfl,rfl⟩,trivial⟩) (fun _ _ _ _=>(ZF (i:=0) (show(nmY ["row"] [("record",1)]).Nodup by decide+kernel) rfl (Or.inl rfl))) (fun _ _ _ _=>Zc1) (fun _ _ _ _=>(ZoL (Za7 Ym (Zx (Yu (K:=K) rfl) (pv 0) Zi (fun _ _=>rfl)) ZK (Zv _)) (Zmd (Za7 Ym (Zx (Yu (K:=K) rfl) (pv 0) Zi (fun _ _=>rfl)) (pv 1) (Zv _)))))) Zj)))), ?_⟩
  refine⟨_,rfl,p,rfl,⟨_,SqL.of hp⟩,Xa ds.length (fun j=>[((ws[j]?).map fun w=>V.bl (ZcM r w)).getD .non]) (by omega) (fun j=>Nat.le_refl 1) (fun j H4 s4 lt=>⟨_,_,SqL.of (s4 _ _ hp),List.getElem?_eq_getElem (by rw[List.length_map];exact lt)⟩) (fun H4 s4=>⟨_,SqL.of (s4 _ _ hp),by rw[List.length_map];exact Nat.le_refl _⟩) (fun j y H4 H5 s4 lt yl RT RF rt rf=> ?_) fun D4 H4 hD4 s4 d4=> ?_⟩
  ·obtain⟨rfl,yl⟩:=yl;obtain⟨d,rfl,ed⟩:=Xb (yl _ (SqL.of (s4 _ _ hp)));obtain⟨w,ew,row⟩:=Ye (ZM s4 pr) j d ed;have row:H5 d=some (.tup w.vs):=row;have out:[((ws[j]?).map fun w=>V.bl (ZcM r w)).getD .non]=[V.bl (ZcM r w)]:=by rw[ew];rfl
   rw[out,<-ZqV] at rt
   refine⟨⟨rfl,trivial⟩, ?_⟩;unfold Zlc;refine JZ (ixT rfl (SqT.of row) (JX w) ⟨rfl,_,rfl,YQ (fun e=> ?_) (fun e=> ?_)⟩)
   ·refine(ixT rfl (SqT.of row) (Zfi w) ⟨_,rfl,rfl,rt _ _ ?_ (Zy.refl _)⟩);rw[e,Bool.true_and]
   ·refine rt _ _ ?_ (Zy.refl _);rw[Bool.eq_false_iff.mpr e,Bool.false_and]
  ·have e6:(List.range ds.length).flatMap (fun j=>[((ws[j]?).map fun w=>V.bl (ZcM r w)).getD .non])=(ws.map (ZcM r)).map V.bl:=by
    rw[Jm,le,ZcF ws (fun w=>V.bl (ZcM r w)) .non,List.map_map]
    rfl
   rw[e6] at d4
   refine⟨D4,ws.map (ZcM r),rfl,SqL.of d4, ?_⟩;rw[List.any_map];exact q H4 s4
theorem ZlC:ZC ["due","holds","day"] ["due","holds","day"] (Zt Zf8):=⟨rfl,rfl,rfl,by decide+kernel,rfl,by decide+kernel,by decide+kernel⟩
theorem ZlD{f:Addr}{fd:FuncData}(F:Fun K "word_for" "word_for" Zf8 f fd)(T:Txt K mg Zh Zf Zg Zb Zo):Yl P w K mg base CX0 1 f fd ["due","holds","day"] Ze2:=by
 refine F.ok ZlC (fun vs H Q E h=> ?_) (fun cdv A outer s H vs Q E hr h=> ?_)
 ·obtain⟨a,zs,due,day,rfl,_⟩:=h
  rfl
 ·obtain⟨a,zs,due,day,rfl,ha,q⟩:=h;have q:=q H (Zy.refl H);refine⟨_,(Ze (ZZ (PW.pt (ZgO (Zq Zcd (pv 0) YB (Zv _)) (ZeX (Zq ZeS (pv 0) (pv 2) (Zv _))))) (Zn (Zz ZK)) ZD) (Ze (ZZ (Zq ZeS (ZS JP (by rfl) T.z_len Zce (Za (pv 1) Zj)) Zi (Zv _)) (Zn (Zz ZK)) ZD) (Zn (Zz ZK)))), ?_⟩;unfold Jx at q
  cases due with
  |none=>exact⟨_,rfl,rfl,_,rfl,Zcl rfl q⟩
  |some d=>
   refine⟨_,rfl,rfl,_,rfl,YJ (fun z=>nomatch z) ⟨_,rfl,_,rfl,_,_,rfl,rfl,_,rfl,YQ (fun e=> ?_) (fun e=> ?_)⟩⟩
   ·have e:day<d:=of_decide_eq_true e;have q:Q (.str (if day<d then Str.ofString "kept" else if 0<zs.length then Str.ofString "held" else Str.ofString "due")) H:=q;rw[if_pos e] at q
    exact q
   ·have e:¬day<d:=fun z=>e (decide_eq_true z);have q:Q (.str (if day<d then Str.ofString "kept" else if 0<zs.length then Str.ofString "held" else Str.ofString "due")) H:=q;rw[if_neg e] at q
    refine⟨_,rfl,_,_,rfl,.inl ⟨_,SqL.of ha,rfl⟩,_,_,rfl,rfl,_,rfl,YQ (fun e=> ?_) (fun e=> ?_)⟩
    ·have e:=of_decide_eq_true e;rw[List.length_map] at e
     rw[if_pos (by omega)] at q
     exact q
    ·have e:¬(0:Int)<((zs.map V.str).length:Nat):=fun z=>e (decide_eq_true z);rw[List.length_map] at e
     rw[if_neg (by omega)] at q
     exact q
theorem YS{H H':Hp}{r:Addr}(s:Zy H H')(h:H' r=none):H r=none:=by
 cases z:H r with
 |none=>rfl
 |some u=>rw[s r u z] at h;cases h
def Zi9(H:Hp)(a:Addr)(ns:List Str):Prop:=∃kvs,H a=some (.dK kvs)/\kvs.length<=1000/\∀z:Str,Yp kvs (Sum.inr z)=if z∈ns then some (V.bl true) else none
theorem Zi9.get{H:Hp}{a:Addr}{ns:List Str}(h:Zi9 H a ns)(z:Str):Zd2 H a (.str z) (if z∈ns then some (V.bl true) else none):=by
 obtain⟨kvs,e,_,v⟩:=h;exact .inl ⟨kvs,Sum.inr z,.inl e,rfl,(v z).symm⟩
theorem ZlE{kvs:List (Key×V)}{ns:List Str}{y:Str}(h:∀z:Str,Yp kvs (Sum.inr z)=if z∈ns then some (V.bl true) else none)(z:Str):Yp (Js kvs (Sum.inr y) (V.bl true)) (Sum.inr z)=if z∈ns++[y] then some (V.bl true) else none:=by
 rw[ZfK]
 by_cases e:z=y
 ·rw[if_pos (by rw[e]),if_pos (List.mem_append_right _ (by rw[e];exact List.mem_singleton_self _))]
 ·rw[if_neg (fun w=>e (by injection w)),h z]
  by_cases m:z∈ns
  ·rw[if_pos m,if_pos (List.mem_append_left _ m)]
  ·rw[if_neg m,if_neg fun w=>(List.mem_append.mp w).elim m fun k=>e (by simpa using k)]
theorem Zol(w:Rw)(ls:List Str):(decide (V.str w.word=V.str "hold")&& !(if w.one∈ls then some (V.bl true) else none).isSome)=Zco ls w:=by
 cases w with
 |hold h c n d=>
  show(decide (V.str "hold"=V.str "hold")&& !(if h∈ls then some (V.bl true) else none).isSome)=decide (h∉ls);rw[decide_eq_true rfl,Bool.true_and]
  by_cases m:h∈ls
  ·rw[if_pos m,decide_eq_false (fun z=>z m)]
   rfl
  ·rw[if_neg m,decide_eq_true m]
   rfl
 |put x s d=>exact(congrArg (fun b=>b&&_) (decide_eq_false (vne ZgV))).trans (Bool.false_and _)
 |move x s d=>exact(congrArg (fun b=>b&&_) (decide_eq_false (vne Zi7))).trans (Bool.false_and _)
 |deed x k d=>exact(congrArg (fun b=>b&&_) (decide_eq_false (vne Zi8))).trans (Bool.false_and _)
 |lift h d=>exact(congrArg (fun b=>b&&_) (decide_eq_false (vne ZlB))).trans (Bool.false_and _)
theorem ZnB(w:Rw):(V.str w.word=V.str "lift"->ZbI w=some w.one)/\(¬V.str w.word=V.str "lift"->ZbI w=none):=by
 cases w with
 |lift h d=>exact⟨fun _=>rfl,fun z=>absurd rfl z⟩
 |put x s d=>exact⟨fun z=>absurd z (vne Zi6),fun _=>rfl⟩
 |move x s d=>exact⟨fun z=>absurd z (vne Zjs),fun _=>rfl⟩
 |deed x k d=>exact⟨fun z=>absurd z (vne ZlA),fun _=>rfl⟩
 |hold h c n d=>exact⟨fun z=>absurd z (vne Zrq),fun _=>rfl⟩
theorem ZgW{ws:List Rw}{w:Rw}:Xj (ws++[w])=Xj ws++(match ZbI w with|some h=>[h]|none=>[]):=by
 unfold Xj;rw[List.filterMap_append,List.filterMap_cons,List.filterMap_nil];cases ZbI w<;>rfl
theorem Zrr:¬Str.ofString "series"=Str.ofString "record":=by decide+kernel
theorem Ze7:ZC ["rows","lifted","row"] ["rows"] (Zt Zf7):=⟨rfl,rfl,rfl,by decide+kernel,rfl,by decide+kernel,by decide+kernel⟩
theorem ZlF{f:Addr}{fd:FuncData}(F:Fun K "standing" "standing" Zf7 f fd)(T:Txt K mg Zh Zf Zg Zb Zo):Yl P w K mg base CX0 1 f fd ["rows"] ZaR:=by
 refine F.ok Ze7 (fun vs H Q E h=> ?_) (fun cdv A outer s H vs Q E hr h=> ?_)
 ·obtain⟨p,ws,rfl,_⟩:=h
  rfl
 ·obtain⟨p,ws,rfl,⟨ds,hp,pr⟩,lw,q⟩:=h;have l5:=Xe;have hu:=Zbg hr;have le:=Paired.length pr;have lz:(ds.zip ws).length=ds.length:=by rw[List.length_zip];omega
  refine⟨_,(Ze (Zu (i:=1) Ze7.nd rfl (Or.inr rfl) JQ) (Ze (Xi PassesOwn.never rfl (Yb (pv 0)) (ZF (i:=2) Ze7.nd rfl (Or.inl rfl)) (Zn (ZZ (Zq Ym (Zx ZG (pv 2) Zi (fun _ _=>rfl)) ZK (Zv _)) (Zn (ZaE hu (pv 1) (Zx ZG (pv 2) Zi (fun _ _=>rfl)) ZgN rfl)) ZD))) (Zn (Zz (Jc ["row"] [("lifted",1)] rfl (Yb (pv 0)) (by rfl) (by exact⟨rfl,trivial⟩) (by rfl) (by exact⟨⟨rfl,rfl,rfl⟩,trivial⟩) (fun _ _ _ _=>(ZF (i:=0) (show(nmY ["row"] [("lifted",1)]).Nodup by decide+kernel) rfl (Or.inl rfl))) (fun _ _ _ _=>(Jw (PW.pt (Xz (Zq Ym (Zx (Yu (K:=K) rfl) (pv 0) Zi (fun _ _=>rfl)) ZK (Zv _)) (YX (ZcY (Zbr hu (Zx (Yu (K:=K) rfl) (pv 0) Zi (fun _ _=>rfl)) (pv 1)))))))) (fun _ _ _ _=>(pv 0))))))), ?_⟩
  intro A hA;have nAp:p≠A:=Zd hp hA;refine⟨_,rfl,p,rfl,⟨_,SqL.of (Zk hA _ _ hp)⟩,YH (xs:=ds.map V.ref) (fun i σ H'=>∃v2:Option V,σ=[some (.ref p),some (.ref A),v2]/\(∃kvs,H' A=some (.dK kvs)/\kvs.length<=i/\∀z:Str,Yp kvs (Sum.inr z)=if z∈Xj (ws.take i) then some (V.bl true) else none)/\∀b u,b≠A->H b=some u->H' b=some u) ?_ ?_ ?_ ?_⟩
  ·exact⟨none,rfl,⟨[],Zc,Nat.le_refl _,fun z=>rfl⟩,fun b u nb e=>by rw[Zm nb];exact e⟩
  ·rintro i σ H1 _ ⟨v2,rfl,_,fr⟩;exact SqL.of (fr _ _ nAp hp)
  ·rintro i x σ H1 hx ⟨v2,rfl,⟨kvs,hk,lk,vk⟩,fr⟩;obtain⟨d,rfl,ed⟩:=Xb hx;have s1:Zy H H1:=fun b u z=>fr b u (Zd z hA) z;obtain⟨w,ew,row⟩:=Ye (ZM s1 pr) i d ed;have row:H1 d=some (.tup w.vs):=row;have tk:ws.take (i+1)=ws.take i++[w]:=by rw[List.take_add_one,ew];rfl
   have hi:i<ws.length:=(List.getElem?_eq_some_iff.mp ew).1;rw[tk,ZgW];refine(ixT rfl (SqT.of row) (JX w) ⟨rfl,_,rfl,YQ (fun e=> ?_) (fun e=> ?_)⟩)
   ·rw[(ZnB w).1 (of_decide_eq_true e)];refine⟨_,rfl,ixT rfl (SqT.of row) (Zfi w) ⟨A,_,rfl,.inl ⟨kvs,Sum.inr w.one,hk,rfl,by omega,rfl⟩, ?_⟩⟩;exact⟨_,rfl,⟨_,Zc,Nat.le_trans (ZaM _ _ _) (by omega),ZlE vk⟩,fun b u nb z=>by rw[Zm nb];exact fr b u nb z⟩
   ·rw[(ZnB w).2 (fun z=>e (decide_eq_true z)),List.append_nil];exact⟨_,rfl,⟨kvs,hk,Nat.le_succ_of_le lk,vk⟩,fr⟩
  ·rintro σ H1 ⟨v2,rfl,⟨kvs,hk,lk,vk⟩,fr⟩;rw[List.length_map,le,List.take_of_length_le (Nat.le_refl _)] at vk
   rw[List.length_map] at lk
   have s1:Zy H H1:=fun b u z=>fr b u (Zd z hA) z;have hp1:=s1 _ _ hp;have pr1:=ZM s1 pr;have ov:Zi9 H1 A (Xj ws):=⟨kvs,hk,by omega,vk⟩
   refine⟨_,rfl,p,rfl,⟨_,SqL.of hp1⟩,Xa (ds.zip ws).length (fun j=>(((ds.zip ws)[j]?).map fun z=>if Zco (Xj ws) z.2=true then[V.ref z.1] else[]).getD []) (by omega) (fun j=>Zi5 (P:=Zco (Xj ws))) (fun j H2 s2 lt=>⟨_,_,SqL.of (s2 _ _ hp1),List.getElem?_eq_getElem (by rw[List.length_map];omega)⟩) (fun H2 s2=>⟨_,SqL.of (s2 _ _ hp1),by rw[List.length_map];omega⟩) (fun j y H2 H3 s2 lt yl RT RF rt rf=> ?_) fun D H2 hD s2 d2=> ?_⟩
   ·obtain⟨rfl,yl⟩:=yl;obtain⟨d,rfl,ed⟩:=Xb (yl _ (SqL.of (s2 _ _ hp1)));obtain⟨w,ew,row⟩:=Ye (ZM s2 pr1) j d ed;have row:H3 d=some (.tup w.vs):=row;have ov3:Zi9 H3 A (Xj ws):=⟨kvs,s2 _ _ hk,by omega,vk⟩
    rw[ZmU ed ew] at rt rf
    have sa:=Zol w (Xj ws);refine⟨⟨rfl,trivial⟩,ixT rfl (SqT.of row) (JX w) ⟨rfl,_,rfl,YQ (fun e=> ?_) (fun e=> ?_)⟩⟩
    ·refine(ixT rfl (SqT.of row) (Zfi w) ⟨_,rfl,A,_,rfl,ov3.get w.one,_,rfl, ?_⟩);rw[e,Bool.true_and] at sa
     rw[sa];exact YQ (fun z=>⟨_,rfl,rt _ _ (if_pos z) (Zy.refl _)⟩) (fun z=>rf _ (if_neg z) (Zy.refl _))
    ·rw[Bool.eq_false_iff.mpr e,Bool.false_and] at sa
     exact Yt (rf _ (if_neg (by rw[<-sa];exact Bool.false_ne_true)) (Zy.refl _))
   ·rw[Xq (fun z:Addr×Rw=>if Zco (Xj ws) z.2=true then[V.ref z.1] else[]) (ds.zip ws)] at d2
    obtain⟨es,e,c⟩:=Zdn (Zco (Xj ws)) (ZM s2 pr1);rw[e] at d2
    exact q D H2 (YS s1 hD) (s1.trans s2) ⟨es,d2,c⟩
theorem ZeG:∀ws:List Str,(ws.map V.str).all Jl=true
 |[]=>rfl
 |w::ws=>by rw[List.map_cons,List.all_cons,ZeG ws];rfl
theorem Zia{K:PySem.W.Frag}{H:Hp}:∀ws:List Str,Paired (Rep K H) (ws.map fun w=>Dt.v (.str w)) (ws.map V.str)
 |[]=> .nil
 |w::ws=> .cons (.flat rfl) (Zia ws)
theorem Zhp(z:Str)(ws:List Str):inV (.str z) (ws.map V.str)=decide (z∈ws):=by
 unfold inV
 apply Bool.eq_iff_iff.mpr
 rw[List.any_eq_true,decide_eq_true_iff]
 constructor
 ·rintro⟨y,hy,e⟩;obtain⟨w,hw,rfl⟩:=List.mem_map.mp hy;have e:(w==z)=true:=e;exact eq_of_beq e▸hw
 ·exact fun h=>⟨.str z,List.mem_map.mpr ⟨z,h,rfl⟩,Jz rfl⟩
theorem ZiV:ZC ["row","record","over"] ["row","record","over"] (Zt Zda):=⟨rfl,rfl,rfl,by decide+kernel,rfl,by decide+kernel,by decide+kernel⟩
theorem ZiW{f:Addr}{fd:FuncData}(F:Fun K "is_laid_on" "is_laid_on" Zda f fd)(T:Txt K mg Zh Zf Zg Zb Zo):Yl P w K mg base CX0 1 f fd ["row","record","over"] ZaI:=by
 refine F.ok ZiV (fun vs H Q E h=> ?_) (fun cdv A outer s H vs Q E hr h=> ?_)
 ·rcases h with ⟨a,o,h,n,rec,d,r,line,kvs,rfl,_⟩|⟨a,l,h,n,rec,d,r,line,rfl,_⟩<;>rfl
 ·have hu:=Zbg hr;refine⟨_,(Ze (ZZ (Zq Ym (Zx ZG (pv 0) Zi (fun _ _=>rfl)) ZK (Zv _)) (Zn (Zz (Za7 Ym (Zx ZG (pv 0) Zi (fun _ _=>rfl)) (pv 1) (Zv _)))) ZD) (Zn (Zz (Zs7 (Zry (ZjZ hu (Zx ZG (pv 0) Zi (fun _ _=>rfl)) (pv 2))) (Za7 ZcD (Zx ZG (pv 0) Zi (fun _ _=>rfl)) (pv 2) rfl))))), ?_⟩;have self:∀(n r:Str),V.bl (decide (n=r))=V.bl (decide (V.str n=V.str r)):=fun n r=>by
   by_cases e:n=r
   ·rw[e,decide_eq_true rfl,decide_eq_true rfl]
   ·rw[decide_eq_false e,decide_eq_false (vne e)]
  rcases h with ⟨a,o,h,n,rec,d,r,line,kvs,rfl,ha,ho,hg,q⟩|⟨a,l,h,n,rec,d,r,line,rfl,ha,hl,q⟩
  ·have ha:H a=some (.tup [.str "hold",.str h,.str (onW rec),.str n,.int d]):=ha;have q:=q H (Zy.refl H);cases rec with
   |true=>exact ixT rfl (SqT.of ha) rfl ⟨rfl,_,rfl,Zcl rfl (ixT rfl (SqT.of ha) rfl ⟨_,rfl,rfl,ZqQ q (self n r)⟩)⟩
   |false=>
    refine(ixT rfl (SqT.of ha) rfl ⟨rfl,_,rfl,YJ (vne Zrr) (.inl (ixT rfl (SqT.of ha) rfl ⟨_,rfl,o,_,rfl,hg n,ZqQ q ?_⟩))⟩);show V.bl (decide (n∈line))=V.bl (if n∈line then some (V.bl true) else none).isSome
    by_cases e:n∈line
    ·rw[if_pos e,decide_eq_true e];rfl
    ·rw[if_neg e,decide_eq_false e];rfl
  ·have ha:H a=some (.tup [.str "hold",.str h,.str (onW rec),.str n,.int d]):=ha;have q:=q H (Zy.refl H);cases rec with
   |true=>exact ixT rfl (SqT.of ha) rfl ⟨rfl,_,rfl,Zcl rfl (ixT rfl (SqT.of ha) rfl ⟨_,rfl,rfl,ZqQ q (self n r)⟩)⟩
   |false=>
    refine(ixT rfl (SqT.of ha) rfl ⟨rfl,_,rfl,YJ (vne Zrr) (.inr (ixT rfl (SqT.of ha) rfl ⟨_,rfl,l,_,rfl,.inl (SqL.of hl),rfl,ZeG _,ZqQ q ?_⟩))⟩);show V.bl (decide (n∈line))=V.bl (inV (.str n) (line.map V.str));rw[Zhp]
theorem Zhq(a b:Str):inV (.str a) [.str a,.str b]=true:=by
 show(eqV (.str a) (.str a)||_)=true;rw[Jz rfl,Bool.true_or]
theorem ZpR{a b:Str}(h:¬a=b):eqV (.str a) (.str b)=false:=beq_false_of_ne h
theorem ZfZ(a b:Str):inV (.str b) [.str a,.str b]=true:=by
 show(eqV (.str a) (.str b)||(eqV (.str b) (.str b)||false))=true;rw[Jz rfl,Bool.true_or,Bool.or_true]
theorem Zb7{a b c:Str}(h1:¬a=c)(h2:¬b=c):inV (.str c) [.str a,.str b]=false:=by
 show(eqV (.str a) (.str c)||(eqV (.str b) (.str c)||false))=false;rw[ZpR h1,ZpR h2]
 rfl
theorem ZlG(r:Str):∀(ws:List Rw) (l:Tb),(ws.foldl (XM r) l).length<=l.length+ws.length
 |[],l=>Nat.le_refl _
 |w::ws,l=>by
  have h:=ZlG r ws (XM r l w);have k:(XM r l w).length<=l.length+1:=by
   unfold XM
   split
   ·split
    ·exact Zf1 ..
    ·exact Nat.le_succ _
   ·split
    ·exact Zf1 ..
    ·exact Nat.le_succ _
   ·exact Nat.le_succ _
  rw[List.length_cons,List.foldl_cons];omega
theorem ZpS(i j:Int):(if j>i then j else i)=max i j:=by split<;>omega
theorem Zdo:ZC ["rows","record","life","row","kind"] ["rows","record"] (Zt Zgo):=⟨rfl,rfl,rfl,by decide+kernel,rfl,by decide+kernel,by decide+kernel⟩
theorem ZmX{f:Addr}{fd:FuncData}(F:Fun K "life_of" "life_of" Zgo f fd)(T:Txt K mg Zh Zf Zg Zb Zo):Yl P w K mg base CX0 1 f fd ["rows","record"] Zdi:=by
 refine F.ok Zdo (fun vs H Q E h=> ?_) (fun cdv A outer s H vs Q E hr h=> ?_)
 ·obtain⟨p,ws,r,rfl,_⟩:=h
  rfl
 ·obtain⟨p,ws,r,rfl,⟨ds,hp,pr⟩,lw,q⟩:=h;have l5:=Xe;have hu:=Zbg hr;have le:=Paired.length pr;refine⟨_,(Ze (Zu (i:=2) Zdo.nd rfl (Or.inl rfl) JQ) (Ze (Xi PassesOwn.never rfl (Yb (pv 0)) (ZF (i:=3) Zdo.nd rfl (Or.inl rfl)) (Zn (ZZ (PW.pt (Xz (Zq ZcD (Zx ZG (pv 3) Zi (fun _ _=>rfl)) (YK (Za ZK (Za ZK Zj))) rfl) (YX (Zq Ym (Zx ZG (pv 3) Zi (fun _ _=>rfl)) (pv 1) (Zv _))))) (Ze (Zu (i:=4) Zdo.nd rfl (Or.inl rfl) (Zl8 (Zq Ym (Zx ZG (pv 3) Zi (fun _ _=>rfl)) ZK (Zv _)) ZK (Zx ZG (pv 3) Zi (fun _ _=>rfl)))) (Zn (ZaE hu (pv 2) (pv 4) (ZS (Zgg rfl) (by rfl) T.z_max Zk2 (Za (Zx ZG (pv 3) Zi (fun _ _=>rfl)) (Za (ZhD hu (pv 2) (pv 4) (Zx ZG (pv 3) Zi (fun _ _=>rfl)) ⟨rfl,rfl,rfl,rfl⟩) Zj))) rfl))) ZD))) (Zn (Zz (pv 2))))), ?_⟩
  intro L hL;have nLp:p≠L:=Zd hp hL;refine⟨_,rfl,p,rfl,⟨_,SqL.of (Zk hL _ _ hp)⟩,YH (xs:=ds.map V.ref) (fun i σ H'=>∃v3 v4:Option V,σ=[some (.ref p),some (.str r),some (.ref L),v3,v4]/\H' L=some (.dK (kk (Xr (ws.take i) r)))/\∀b u,b≠L->H b=some u->H' b=some u) ?_ ?_ ?_ ?_⟩
  ·exact⟨none,none,rfl,Zc,fun b u nb e=>by rw[Zm nb];exact e⟩
  ·rintro i σ H1 _ ⟨v3,v4,rfl,_,fr⟩;exact SqL.of (fr _ _ nLp hp)
  ·rintro i x σ H1 hx ⟨v3,v4,rfl,hl,fr⟩;obtain⟨d,rfl,ed⟩:=Xb hx;have s1:Zy H H1:=fun b u z=>fr b u (Zd z hL) z;obtain⟨w,ew,row⟩:=Ye (ZM s1 pr) i d ed;have row:H1 d=some (.tup w.vs):=row;have hi:i<ws.length:=(List.getElem?_eq_some_iff.mp ew).1;have tk:Xr (ws.take (i+1)) r=XM r (Xr (ws.take i) r) w:=by
    unfold Xr;rw[List.take_add_one,ew,List.foldl_append]
    rfl
   have len:=ZlG r (ws.take i) [];have l0:(Xr (ws.take i) r).length<=1000:=by
    have:=List.length_take_le i ws;rw[List.length_nil] at len
    exact Nat.le_trans len (by omega)
   rw[tk];generalize Xr (ws.take i) r=l at hl l0
   have lk1:(kk l).length<sizeLine:=by rw[ZcG];omega
   refine(ixT rfl (SqT.of row) (JX w) ⟨show 2<=sizeLine from sl,fun t ht=>⟨t,_,rfl,.inr (SqT.of Zc),rfl,rfl,_,rfl, ?_⟩⟩);have s2:=Zk (o:=.tup [.str "put",.str "deed"]) ht;have hl2:=s2 _ _ hl;have row2:=s2 _ _ row;have fr2:∀b u,b≠L->H b=some u->upd H1 t (.tup [.str "put",.str "deed"]) b=some u:=fun b u nb e=>s2 _ _ (fr b u nb e);generalize upd H1 t (.tup [.str "put",.str "deed"])=H2 at hl2 row2 fr2
   have keep:∀{v:Option V},∃v3 v4:Option V,[some (V.ref p),some (.str r),some (.ref L),some (.ref d),v]=[some (.ref p),some (.str r),some (.ref L),v3,v4]/\H2 L=some (.dK (kk l))/\∀b u,b≠L->H b=some u->H2 b=some u:=fun{v}=>⟨_,_,rfl,hl2,fr2⟩
   have done:∀(kind:Str) (dd:Int) {v:Option V},∃v3 v4:Option V,[some (V.ref p),some (.str r),some (.ref L),some (.ref d),v]=[some (.ref p),some (.str r),some (.ref L),v3,v4]/\upd H2 L (.dK (Js (kk l) (Sum.inr kind) (.int (if(lk l kind).getD dd>dd then(lk l kind).getD dd else dd)))) L=some (.dK (kk (ZeL l kind (max dd ((lk l kind).getD dd)))))/\∀b u,b≠L->H b=some u->upd H2 L (.dK (Js (kk l) (Sum.inr kind) (.int (if(lk l kind).getD dd>dd then(lk l kind).getD dd else dd)))) b=some u:=fun kind dd {v}=>⟨_,_,rfl,by rw[Zc,ZmC,ZpS],fun b u nb e=>by rw[Zm nb];exact fr2 b u nb e⟩
   have ej:∀(kind:Str) (dd:Int),((lk l kind).map V.int).getD (V.int dd)=V.int ((lk l kind).getD dd):=fun kind dd=>by cases lk l kind<;>rfl
   have rd2:Rd H2 L (.dK (kk l)):=.inl hl2;cases w with
   |put x s dd=>
    have row2:H2 d=some (.tup [.str "put",.str x,.str s,.int dd]):=row2;show if inV (.str "put") [.str "put",.str "deed"]=true then _ else _;rw[Zhq];refine JZ (ixT rfl (SqT.of row2) rfl ⟨_,rfl,rfl,_,rfl,YQ (fun e=> ?_) (fun e=> ?_)⟩)
    ·have e:V.str x=V.str r:=of_decide_eq_true e;have e:x=r:=by injection e
     rw[show XM r l (.put x s dd)=ZeL l "put" (max dd ((lk l "put").getD dd)) from if_pos e];exact(ixT rfl (SqT.of row2) rfl ⟨rfl,_,rfl,Zcl rfl (ixT rfl (SqT.of row2) rfl ⟨_,rfl,L,rfl,.inl ⟨_,rd2⟩,_,rfl,ixT rfl (SqT.of row2) rfl ⟨_,Zfh rd2 "put",dd,(lk l "put").getD dd,by rw[ej],_,rfl,_,rfl,L,_,rfl,ZfL.k (k:=Sum.inr "put") hl2 lk1,done "put" dd⟩⟩)⟩)
    ·have e:¬x=r:=fun z=>e (decide_eq_true (by rw[z]));rw[show XM r l (.put x s dd)=l from if_neg e];exact keep
   |deed x k dd=>
    have row2:H2 d=some (.tup [.str "deed",.str x,.str k,.int dd]):=row2;show if inV (.str "deed") [.str "put",.str "deed"]=true then _ else _;rw[ZfZ];refine JZ (ixT rfl (SqT.of row2) rfl ⟨_,rfl,rfl,_,rfl,YQ (fun e=> ?_) (fun e=> ?_)⟩)
    ·have e:V.str x=V.str r:=of_decide_eq_true e;have e:x=r:=by injection e
     rw[show XM r l (.deed x k dd)=ZeL l k (max dd ((lk l k).getD dd)) from if_pos e];exact(ixT rfl (SqT.of row2) rfl ⟨rfl,_,rfl,YJ (vne ZpO) (ixT rfl (SqT.of row2) rfl (ixT rfl (SqT.of row2) rfl ⟨_,rfl,L,rfl,.inl ⟨_,rd2⟩,_,rfl,ixT rfl (SqT.of row2) rfl ⟨_,Zfh rd2 k,dd,(lk l k).getD dd,by rw[ej],_,rfl,_,rfl,L,_,rfl,ZfL.k (k:=Sum.inr k) hl2 lk1,done k dd⟩⟩))⟩)
    ·have e:¬x=r:=fun z=>e (decide_eq_true (by rw[z]));rw[show XM r l (.deed x k dd)=l from if_neg e];exact keep
   |move x s dd=>
    show if inV (.str "move") [.str "put",.str "deed"]=true then _ else _;rw[Zb7 Zt6 Zt7];exact Yt (Yt keep)
   |lift h dd=>
    show if inV (.str "lift") [.str "put",.str "deed"]=true then _ else _;rw[Zb7 Zi6 ZlA];exact Yt (Yt keep)
   |hold h c n dd=>
    show if inV (.str "hold") [.str "put",.str "deed"]=true then _ else _;rw[Zb7 ZgV Zi8];exact Yt (Yt keep)
  ·rintro σ H1 ⟨v3,v4,rfl,hl,fr⟩;rw[List.length_map,le,List.take_of_length_le (Nat.le_refl _)] at hl
   exact⟨_,rfl,q L H1 hL (fun b u z=>fr b u (Zd z hL) z) hl⟩
def ZnC(H:Hp)(y:Xd)(v:V):Prop:=∃p,v=.ref p/\H p=some (.tup [.int y.1,.str y.2])
theorem ZlH{K:PySem.W.Frag}{H:Hp}:∀{ys:List Xd} {us:List V},Paired (ZnC H) ys us->Paired (Zau K H) ys us
 |_,_,.nil=> .nil
 |_,_,.cons ⟨p,e,h⟩ t=> .cons ⟨p,e,SqT.of h⟩ (ZlH t)
theorem Zdp{H H':Hp}(s:∀b xs,H b=some (.tup xs)->H' b=some (.tup xs)):∀{ys:List Xd} {us:List V},Paired (ZnC H) ys us->Paired (ZnC H') ys us
 |_,_,.nil=> .nil
 |_,_,.cons ⟨p,e,h⟩ t=> .cons ⟨p,e,s _ _ h⟩ (Zdp s t)
theorem ZmY{ws:List Rw}{w:Rw}{r:Str}:Yv (ws++[w]) r=Yv ws r++(match Ze0 r w with|some y=>[y]|none=>[]):=by
 unfold Yv;rw[List.filterMap_append,List.filterMap_cons,List.filterMap_nil];cases Ze0 r w<;>rfl
theorem Zom(ws:List Rw)(r:Str):(Yv ws r).length<=ws.length:=List.length_filterMap_le ..
theorem Zg0:ZC ["rows","record","places"] ["rows","record"] (Zt ZdP):=⟨rfl,rfl,rfl,by decide+kernel,rfl,by decide+kernel,by decide+kernel⟩
theorem Zkw{f:Addr}{fd:FuncData}(F:Fun K "series_of" "series_of" ZdP f fd)(T:Txt K mg Zh Zf Zg Zb Zo):Yl P w K mg base CX0 1 f fd ["rows","record"] Zbl:=by
 refine F.ok Zg0 (fun vs H Q E h=> ?_) (fun cdv A outer s H vs Q E hr h=> ?_)
 ·obtain⟨p,ws,r,y,rfl,_⟩:=h
  rfl
 ·obtain⟨p,ws,r,y,rfl,⟨ds,hp,pr⟩,lw,top,q⟩:=h;have l5:=Xe;have hu3:=Zk5 hr;have le:=Paired.length pr;refine⟨_,(Ze (ZeC (i:=2) ["row"] [("record",1)] Zg0.nd rfl (Or.inl rfl) rfl (Yb (pv 0)) (by rfl) (by exact⟨rfl,trivial⟩) (by rfl) (by exact⟨⟨rfl,rfl,rfl⟩,trivial⟩) (fun _ _ _ _=>(ZF (i:=0) (show(nmY ["row"] [("record",1)]).Nodup by decide+kernel) rfl (Or.inl rfl))) (fun _ _ _ _=>(Jw (PW.pt (Xz (Zq (ZhQ (K:=K) rfl) (Zx (Yu (K:=K) rfl) (pv 0) Zi (fun _ _=>rfl)) (YK (Za ZK (Za ZK Zj))) rfl) (YX (Zq Ym (Zx (Yu (K:=K) rfl) (pv 0) Zi (fun _ _=>rfl)) (pv 1) (Zv _))))))) (fun _ _ _ _=>(YK (Za (Zx (Yu (K:=K) rfl) (pv 0) Zi (fun _ _=>rfl)) (Za (Zx (Yu (K:=K) rfl) (pv 0) Zi (fun _ _=>rfl)) Zj))))) (Zn (Zz (Zx ZG (ZS (Zoc rfl hu3) (by rfl) T.z_max Zk2 (Za (pv 2) Zj)) Zi (fun _ _=>rfl))))), ?_⟩
  refine⟨_,rfl,p,rfl,⟨_,SqL.of hp⟩,ZfN fun D hD=>⟨ds.length,fun i ys H2=>Zy H H2/\Paired (ZnC H2) (Yv (ws.take i) r) ys,by omega,⟨Zk hD,.nil⟩,fun i ys H2 ⟨_,k⟩=> ?_,fun i ys zs H2 H3 e kp ⟨s2,k⟩=>⟨fun b u z=>kp b u (Zd z hD) (s2 b u z),Zdp (fun b xs z=>kp b _ (Yj z e (fun w=>nomatch w)) z) k⟩,fun i ys H2 ⟨s2,_⟩ lt=>⟨_,_,SqL.of (s2 _ _ hp),List.getElem?_eq_getElem (by rw[List.length_map];exact lt)⟩,fun ys H2 ⟨s2,k⟩ d=>⟨⟨_,SqL.of (s2 _ _ hp),by rw[List.length_map];exact Nat.le_refl _⟩, ?_⟩,fun i x ys H2 H3 ⟨s2,k⟩ d lt yl RT RF rt rf=> ?_⟩⟩
  ·rw[<-Paired.length k];exact Nat.le_trans (Zom _ _) (List.length_take_le _ _)
  ·rw[le,List.take_of_length_le (Nat.le_refl _)] at k
   obtain⟨v0,us,eus⟩:∃v0 us,ys=v0::us:=by
    cases ys with
    |nil=>
     have z:Yv ws r=[]:=List.eq_nil_of_length_eq_zero (Paired.length k);have m:=top.1;rw[z] at m
     cases m
    |cons v0 us=>exact⟨v0,us,rfl⟩
   subst eus;refine⟨_,rfl,D,v0,us,_,rfl,SqL.of d,ZlH k,fun v y' mem sp best=> ?_⟩;obtain rfl:=top.one ⟨mem,best⟩;obtain⟨pv,rfl,hv⟩:=sp;exact⟨pv,_,_,_,rfl,rfl,hv,rfl,q H2 s2⟩
  ·obtain⟨rfl,yl⟩:=yl;obtain⟨d0,rfl,ed⟩:=Xb (yl _ (SqL.of (s2 _ _ hp)));obtain⟨w,ew,row⟩:=Ye (ZM s2 pr) i d0 ed;have row:H3 d0=some (.tup w.vs):=row;have tk:ws.take (i+1)=ws.take i++[w]:=by rw[List.take_add_one,ew];rfl
   rw[tk,ZmY] at rt rf
   refine⟨⟨rfl,trivial⟩,ixT rfl (SqT.of row) (JX w) ⟨show 2<=sizeLine from sl,fun t ht=>⟨t,_,rfl,.inr (SqT.of Zc),rfl,rfl,_,rfl, ?_⟩⟩⟩;have s3:=Zk (o:=.tup [.str "put",.str "move"]) ht;have row2:=s3 _ _ row;have d2:=s3 _ _ d;have k2:=Zdp (fun b xs z=>s3 b _ z) k;have s23:=s2.trans s3;generalize upd H3 t (.tup [.str "put",.str "move"])=H4 at row2 d2 k2 s23
   have none_:Ze0 r w=none->RF H4:=fun e=>rf _ d2 ⟨s23,by rw[e,List.append_nil];exact k2⟩
   have some_:∀(dd:Int) (sr:Str),Ze0 r w=some (dd,sr)->∀t2,H4 t2=none->RT (.ref t2) (upd H4 t2 (.tup [.int dd,.str sr])):=fun dd sr e t2 ht2=>by
    have s5:=Zk (o:=.tup [.int dd,.str sr]) ht2;refine rt _ _ (s5 _ _ d2) ⟨s23.trans s5, ?_⟩;rw[e];exact Paired.snoc (Zdp (fun b xs z=>s5 b _ z) k2) ⟨t2,rfl,Zc⟩
   cases w with
   |put x s dd=>
    have row2:H4 d0=some (.tup [.str "put",.str x,.str s,.int dd]):=row2;show if inV (.str "put") [.str "put",.str "move"]=true then _ else _;rw[Zhq];refine JZ (ixT rfl (SqT.of row2) rfl ⟨_,rfl,rfl,_,rfl,YQ (fun e=> ?_) (fun e=> ?_)⟩)
    ·have e:V.str x=V.str r:=of_decide_eq_true e;have e:x=r:=by injection e
     exact(ixT rfl (SqT.of row2) rfl (ixT rfl (SqT.of row2) rfl ⟨show 2<=sizeLine from sl,fun t2 ht2=>some_ dd s (if_pos e) t2 ht2⟩))
    ·have e:¬x=r:=fun z=>e (decide_eq_true (by rw[z]));exact none_ (if_neg e)
   |move x s dd=>
    have row2:H4 d0=some (.tup [.str "move",.str x,.str s,.int dd]):=row2;show if inV (.str "move") [.str "put",.str "move"]=true then _ else _;rw[ZfZ];refine JZ (ixT rfl (SqT.of row2) rfl ⟨_,rfl,rfl,_,rfl,YQ (fun e=> ?_) (fun e=> ?_)⟩)
    ·have e:V.str x=V.str r:=of_decide_eq_true e;have e:x=r:=by injection e
     exact(ixT rfl (SqT.of row2) rfl (ixT rfl (SqT.of row2) rfl ⟨show 2<=sizeLine from sl,fun t2 ht2=>some_ dd s (if_pos e) t2 ht2⟩))
    ·have e:¬x=r:=fun z=>e (decide_eq_true (by rw[z]));exact none_ (if_neg e)
   |deed x k dd=>
    show if inV (.str "deed") [.str "put",.str "move"]=true then _ else _;rw[Zb7 Zrn Zrp];exact Yt (Yt (none_ rfl))
   |lift h dd=>
    show if inV (.str "lift") [.str "put",.str "move"]=true then _ else _;rw[Zb7 Zi6 Zjs];exact Yt (Yt (none_ rfl))
   |hold h c n dd=>
    show if inV (.str "hold") [.str "put",.str "move"]=true then _ else _;rw[Zb7 ZgV Zi7];exact Yt (Yt (none_ rfl))
theorem ZaA{ls:List Str}{w:Rw}(h:Zco ls w=true):∃hh c n d,w=.hold hh c n d:=by
 cases w with
 |hold hh c n d=>exact⟨hh,c,n,d,rfl⟩
 |_=>cases h
theorem Ze8:ZC ["rows","record","line","over","name"] ["rows","record","line"] (Zt Zf6):=⟨rfl,rfl,rfl,by decide+kernel,rfl,by decide+kernel,by decide+kernel⟩
theorem ZlI{f:Addr}{fd:FuncData}(F:Fun K "holds_on" "holds_on" Zf6 f fd)(T:Txt K mg Zh Zf Zg Zb Zo)(JL:Cal P w K mg base CX0 1 "is_laid_on" ["row","record","over"] ZaI)(Jq:Cal P w K mg base CX0 1 "standing" ["rows"] ZaR):Yl P w K mg base CX0 2 f fd ["rows","record","line"] Ze1:=by
 refine F.ok Ze8 (fun vs H Q E h=> ?_) (fun cdv A outer s H vs Q E hr h=> ?_)
 ·obtain⟨p,l,ws,r,line,rfl,_⟩:=h
  rfl
 ·obtain⟨p,l,ws,r,line,rfl,rw_,lw,hl,ll,lh,q⟩:=h;have l5:=Xe;have hu:=Zbg hr;refine⟨_,(Ze (Zu (i:=3) Ze8.nd rfl (Or.inr rfl) JQ) (Ze (Xi PassesOwn.never rfl (Yb (pv 2)) (ZF (i:=4) Ze8.nd rfl (Or.inl rfl)) (Zn (ZaE hu (pv 3) (pv 4) ZgN rfl))) (Zn (Zz (ZS Zd8 (by rfl) T.z_sorted Jt (Za (Jc ["row"] [("record",1),("over",3)] rfl (Yb (ZV Jq (hr.mono (by omega)) rfl ZJ (Za (pv 0) Zj))) (by rfl) (by exact⟨rfl,⟨rfl,trivial⟩⟩) (by rfl) (by exact⟨⟨rfl,rfl,rfl⟩,⟨⟨rfl,rfl,rfl⟩,trivial⟩⟩) (fun _ _ _ _=>(ZF (i:=0) (show(nmY ["row"] [("record",1),("over",3)]).Nodup by decide+kernel) rfl (Or.inl rfl))) (fun _ _ _ _=>(Jw (ZdE (ZV JL (hr.mono (by omega)) rfl ZJ (Za (pv 0) (Za (pv 1) (Za (pv 2) Zj))))))) (fun _ _ _ _=>(Zx (Yu (K:=K) rfl) (pv 0) Zi (fun _ _=>rfl)))) Zj)))))), ?_⟩
  intro A hA;have nAl:l≠A:=Zd hl hA;refine⟨_,rfl,l,rfl,⟨_,SqL.of (Zk hA _ _ hl)⟩,YH (xs:=line.map V.str) (fun i σ H'=>∃v4:Option V,σ=[some (.ref p),some (.str r),some (.ref l),some (.ref A),v4]/\(∃kvs,H' A=some (.dK kvs)/\kvs.length<=i/\∀z:Str,Yp kvs (Sum.inr z)=if z∈line.take i then some (V.bl true) else none)/\∀b u,b≠A->H b=some u->H' b=some u) ?_ ?_ ?_ ?_⟩
  ·exact⟨none,rfl,⟨[],Zc,Nat.le_refl _,fun z=>rfl⟩,fun b u nb e=>by rw[Zm nb];exact e⟩
  ·rintro i σ H1 _ ⟨v4,rfl,_,fr⟩;exact SqL.of (fr _ _ nAl hl)
  ·rintro i x σ H1 hx ⟨v4,rfl,⟨kvs,hk,lk,vk⟩,fr⟩;have en:line[i]? =some ((line[i]?).getD Str.empty):=by
    rw[List.getElem?_map] at hx
    cases e:line[i]? with
    |none=>rw[e] at hx;cases hx
    |some n=>rfl
   generalize (line[i]?).getD Str.empty=n at en
   obtain rfl:V.str n=x:=by
    rw[List.getElem?_map,en] at hx
    exact Option.some.inj hx
   have hi:i<line.length:=(List.getElem?_eq_some_iff.mp en).1;have tk:line.take (i+1)=line.take i++[n]:=by rw[List.take_add_one,en];rfl
   rw[tk];refine⟨_,rfl,_,rfl,A,_,rfl,.inl ⟨kvs,Sum.inr n,hk,rfl,by omega,rfl⟩, ?_⟩;exact⟨_,rfl,⟨_,Zc,Nat.le_trans (ZaM _ _ _) (by omega),ZlE vk⟩,fun b u nb z=>by rw[Zm nb];exact fr b u nb z⟩
  ·rintro σ H1 ⟨v4,rfl,⟨kvs,hk,lk,vk⟩,fr⟩;rw[List.length_map] at lk
   rw[List.length_map,List.take_of_length_le (Nat.le_refl _)] at vk
   have s1:Zy H H1:=fun b u z=>fr b u (Zd z hA) z;obtain⟨ds0,hp,pr⟩:=rw_;refine⟨_,rfl,p,ws,rfl,⟨ds0,s1 _ _ hp,ZM s1 pr⟩,lw,fun S H2 hS s2 ⟨es,hs,prs⟩=>⟨S,rfl,⟨_,SqL.of hs⟩, ?_⟩⟩;have le:=Paired.length prs;have lst:(Ys ws).length<=1000:=Nat.le_trans (List.length_filter_le _ _) lw;have hk2:=s2 _ _ hk;refine Xa es.length (fun j=>(((Ys ws)[j]?).map fun w=>if Zae r line w=true then[V.str w.one] else[]).getD []) (by omega) (fun j=> ?_) (fun j H4 s4 lt=>⟨_,_,SqL.of (s4 _ _ hs),List.getElem?_eq_getElem (by rw[List.length_map];exact lt)⟩) (fun H4 s4=>⟨_,SqL.of (s4 _ _ hs),by rw[List.length_map];exact Nat.le_refl _⟩) (fun j y H4 H5 s4 lt yl RT RF rt rf=> ?_) fun D H3 hD s3 d3=> ?_
   ·cases(Ys ws)[j]? with
    |none=>exact Nat.zero_le 1
    |some w=>
     show(if _ then[V.str w.one] else[]).length<=1
     split
     ·exact Nat.le_refl 1
     ·exact Nat.zero_le 1
   ·obtain⟨rfl,yl⟩:=yl;obtain⟨d,rfl,ed⟩:=Xb (yl _ (SqL.of (s4 _ _ hs)));obtain⟨w,ew,row⟩:=Ye (ZM s4 prs) j d ed;obtain⟨hh,c,n,dd,rfl⟩:=ZaA (List.mem_filter.mp (List.mem_of_getElem? ew)).2;have ov:Zi9 H5 A line:=⟨kvs,s4 _ _ hk2,by omega,vk⟩
    rw[ew] at rt rf
    refine⟨⟨rfl,rfl,trivial⟩,_,rfl,_,rfl,_,rfl,.inl ⟨d,A,hh,n,c,dd,r,line,kvs,rfl,row,s4 _ _ hk2,ov.get,fun H6 s6=>⟨_,rfl, ?_⟩⟩⟩;have row6:H6 d=some (.tup [.str "hold",.str hh,.str (onW c),.str n,.int dd]):=s6 _ _ row;exact YQ (fun z=>ixT rfl (SqT.of row6) rfl (rt _ _ (if_pos z) s6)) (fun z=>rf _ (if_neg z) s6)
   ·have e6:(List.range es.length).flatMap (fun j=>(((Ys ws)[j]?).map fun w=>if Zae r line w=true then[V.str w.one] else[]).getD [])=(Yz ws r line).map V.str:=by
     rw[le,Xq (fun w=>if Zae r line w=true then[V.str w.one] else[]) (Ys ws)];unfold Yz;generalize Ys ws=us
     induction us with
     |nil=>rfl
     |cons w us ih=>
      rw[List.flatMap_cons,ih];cases h:Zae r line w with
      |true=>rw[if_pos rfl,List.filter_cons_of_pos h];rfl
      |false=>rw[if_neg Bool.false_ne_true,List.filter_cons_of_neg (by rw[h];exact Bool.false_ne_true)];rfl
    rw[e6] at d3
    refine⟨D,Yz ws r line,rfl,SqL.of d3,lh,fun zs pz sz D2 hD2=> ?_⟩;have s13:=s1.trans (s2.trans s3);exact q D2 zs _ (YS s13 hD2) (s13.trans (Zk hD2)) pz sz Zc
theorem ZmZ:∀ys:List Xd,ys≠[]->∃y,Top ys y
 |[],h=>absurd rfl h
 |[y],_=>⟨y,List.mem_singleton_self _,fun z hz=>by
   have:z=y:=by simpa using hz
   rw[this];exact ZaP.irr _⟩
 |x::x2::ys,_=>by
  obtain⟨y,m,b⟩:=ZmZ (x2::ys) (by simp);cases h:ZeM y x with
  |true=>
   refine⟨x,List.mem_cons_self ..,fun z hz=> ?_⟩;obtain rfl|hz:=List.mem_cons.mp hz
   ·exact ZaP.irr _
   ·cases k:ZeM x z with
    |false=>rfl
    |true=>exact absurd (ZaP.tr _ _ _ h k) (by rw[b z hz];exact Bool.false_ne_true)
  |false=>
   refine⟨y,List.mem_cons_of_mem _ m,fun z hz=> ?_⟩;obtain rfl|hz:=List.mem_cons.mp hz
   ·exact h
   ·exact b z hz
theorem ZlJ{ws:List Rw}{r:Str}(h:Xm ws r=true):Yv ws r≠[]:=fun z=>by
 obtain⟨w,hw,e⟩:=List.any_eq_true.mp h;cases w with
 |put x s d=>
  have e:x=r:=of_decide_eq_true e;have m:((d,s):Xd)∈Yv ws r:=List.mem_filterMap.mpr ⟨_,hw,if_pos e⟩;rw[z] at m
  cases m
 |_=>cases e
theorem Zgu{ws:List Rw}{r:Str}{day:Int}{y:Xd}(h:y∈Yv (ZR ws day) r):y∈Yv ws r:=by
 obtain⟨w,hw,e⟩:=List.mem_filterMap.mp h;exact List.mem_filterMap.mpr ⟨w,(List.mem_filter.mp hw).1,e⟩
theorem Zon{ws:List Rw}{r:Str}{day:Int}{line:List Str}:(Yz (ZR ws day) r line).length<=(ws.filter Jv).length:=by
 have sub:((Ys (ZR ws day)).filter (Zae r line)).length<=((ZR ws day).filter Jv).length:=by
  refine Nat.le_trans (List.length_filter_le _ _) ?_;unfold Ys;generalize Xj (ZR ws day)=ls
  induction ZR ws day with
  |nil=>exact Nat.le_refl _
  |cons w us ih=>
   cases hs:Zco ls w with
   |true=>
    obtain⟨hh,c,n,d,rfl⟩:=ZaA hs;rw[List.filter_cons_of_pos hs,List.filter_cons_of_pos (show Jv (.hold hh c n d)=true from rfl),List.length_cons,List.length_cons];omega
   |false=>
    rw[List.filter_cons_of_neg (by rw[hs];exact Bool.false_ne_true)]
    refine Nat.le_trans ih ?_
    by_cases h2:Jv w=true
    ·rw[List.filter_cons_of_pos h2,List.length_cons];omega
    ·rw[List.filter_cons_of_neg h2];exact Nat.le_refl _
 unfold Yz;rw[List.length_map];refine Nat.le_trans sub ?_;unfold ZR;rw[List.filter_filter];have:(ws.filter fun a=>Jv a&&decide (a.day<=day))=((ws.filter Jv).filter fun a=>decide (a.day<=day)):=by rw[List.filter_filter];congr 1;funext a;rw[Bool.and_comm]
 rw[this];exact List.length_filter_le _ _
theorem ZnD{cn ca cl ce:Addr}{H:Hp}{m:Addr}{t:Tr}(tm:Xf cn ca cl ce H t m):∃dx fs,H m=some (.ins (ZgU cn ca cl ce t) dx fs)/\fs.lookup (Str.ofString "due")=none:=by
 obtain⟨dx,fs,ii,lk⟩:=ZcP tm;obtain⟨n1,n2,n3,n4⟩:=Znx "due" (.inl rfl);exact⟨dx,fs,ii,lk _ n1 n2 n3 n4⟩
theorem Jf{cn ca cl ce:Addr}{H H':Hp}{p:Addr}{rs:List Sr}(s:Zy H H'):ZeN cn ca cl ce H p rs->ZeN cn ca cl ce H' p rs
 |⟨ds,h1,h2⟩=>⟨ds,s _ _ h1,Zbt s h2⟩
theorem Yh{H H':Hp}{p:Addr}{ws:List Rw}(s:Zy H H'):YF H p ws->YF H' p ws
 |⟨ds,h1,h2⟩=>⟨ds,s _ _ h1,ZM s h2⟩
theorem ZcQ:ZC ["book","rows","record","day","counting","series","due","holds"] ["book","rows","record","day"] (Zt ZhV):=⟨rfl,rfl,rfl,by decide+kernel,rfl,by decide+kernel,by decide+kernel⟩
theorem Zoo{f:Addr}{fd:FuncData}(F:Fun K "judged" "judged" ZhV f fd)(T:Txt K mg Zh Zf Zg Zb Zo)(XD:Cal P w K mg base CX0 1 "counted" ["rows","day"] Zax)(ZdC:Zbj P w K mg base CX0 13 "due" ["self","life"] (Zcn Zh Zf Zg Zb 12) (fun C=>C=Zh\/C=Zf\/C=Zg\/C=Zb))(Zfj:Cal P w K mg base CX0 2 "holds_on" ["rows","record","line"] Ze1)(Zak:Cal P w K mg base CX0 1 "is_put" ["rows","record"] ZcN)(Zbu:Cal P w K mg base CX0 1 "life_of" ["rows","record"] Zdi)(Zbv:Cal P w K mg base CX0 1 "line_of" ["book","name"] (Zdg Zh Zf Zg Zb))(Zfk:Cal P w K mg base CX0 2 "owner_of" ["book","name"] (ZdZ Zh Zf Zg Zb))(Za6:Cal P w K mg base CX0 1 "series_of" ["rows","record"] Zbl)(Zbw:Cal P w K mg base CX0 2 "term_of" ["book","name"] (Zdh Zh Zf Zg Zb))(Zfl:Cal P w K mg base CX0 1 "word_for" ["due","holds","day"] Ze2):Yl P w K mg base CX0 14 f fd ["book","rows","record","day"] (ZcO Zh Zf Zg Zb):=by
 refine F.ok ZcQ (fun vs H Q E h=> ?_) (fun cdv A outer s H vs Q E hr h=> ?_)
 ·obtain⟨p,q',rs,ws,rec,day,rfl,_⟩:=h
  rfl
 ·obtain⟨p,q',rs,ws,rec,day,rfl,bat,bk,lr,rws,ok,q⟩:=h;have l5:=Xe;have nd:=Zlx bk;have br:=Zkv bk;refine⟨_,(Ze (Zu (i:=4) ZcQ.nd rfl (Or.inl rfl) (ZV XD (hr.mono (by omega)) rfl ZJ (Za (pv 1) (Za (pv 3) Zj)))) (Ze (ZZ (Zmc (ZdE (ZV Zak (hr.mono (by omega)) rfl ZJ (Za (pv 4) (Za (pv 2) Zj))))) (Zn (Zz (YK (Za ZK (Za YB (Za YB (Za YB (Za (Yk Zj) Zj)))))))) ZD) (Ze (Zu (i:=5) ZcQ.nd rfl (Or.inl rfl) (ZV Za6 (hr.mono (by omega)) rfl ZJ (Za (pv 4) (Za (pv 2) Zj)))) (Ze (Zu (i:=6) ZcQ.nd rfl (Or.inl rfl) (Zaa (ZV Zbw (hr.mono (by omega)) rfl ZJ (Za (pv 0) (Za (pv 5) Zj))) ZdC (hr.mono (by omega)) ZJ (Za (ZV Zbu (hr.mono (by omega)) rfl ZJ (Za (pv 4) (Za (pv 2) Zj))) Zj))) (Ze (Zu (i:=7) ZcQ.nd rfl (Or.inl rfl) (ZV Zfj (hr.mono (by omega)) rfl ZJ (Za (pv 4) (Za (pv 2) (Za (ZV Zbv (hr.mono (by omega)) rfl ZJ (Za (pv 0) (Za (pv 5) Zj))) Zj))))) (Zn (Zz (YK (Za (ZV Zfl (hr.mono (by omega)) rfl ZJ (Za (pv 6) (Za (pv 7) (Za (pv 3) Zj)))) (Za (pv 5) (Za (ZV Zfk (hr.mono (by omega)) rfl ZJ (Za (pv 0) (Za (pv 5) Zj))) (Za (pv 6) (Za (pv 7) Zj))))))))))))), ?_⟩
  refine⟨_,rfl,_,rfl,q',ws,day,rfl,rws,ok.len,fun C H1 hC s1 rc=> ?_⟩;have lc:(ZR ws day).length<=1000:=Nat.le_trans (List.length_filter_le _ _) ok.len;refine⟨_,rfl,_,rfl,C,_,rec,rfl,rc,lc,fun H2 s2=>⟨_,rfl, ?_⟩⟩;have s02:=s1.trans s2;cases ip:Xm (ZR ws day) rec with
  |false=>
   refine JZ ⟨Nat.zero_le _,fun L hL=>⟨show 5<=sizeLine from sl,fun a ha=> ?_⟩⟩;have s3:=Zk (o:=.lst []) hL;refine q a Zkm _ (YS (s02.trans s3) ha) (s02.trans (s3.trans (Zk ha))) ⟨L,Zc,Zk ha _ _ Zc⟩ (fun L' e=> ?_) ⟨fun _=>rfl,fun z=>by rw[ip] at z;cases z⟩
   rw[Zc] at e
   have e:HO.tup _=HO.tup _:=Option.some.inj e
   injection e with e
   have e:V.ref L=V.ref L':=by simpa [Zkm,oS,oV] using e
   injection e with e
   exact e▸YS s02 hL
  |true=>
   obtain⟨y,top⟩:=ZmZ _ (ZlJ ip);have hy:=ok.ser rec y (Zgu top.1);have hy':∀m,some y.2=some m->m∈rs.reverse.map Sr.nm:=fun m hm=>by
    injection hm with hm
    rw[<-hm,List.map_reverse,List.mem_reverse];exact hy
   obtain⟨r0,hr0,ow,t0,_⟩:=Zku (ZqT rs) rs.reverse (some y.2) br (fun r hr=>ZnA nd (List.mem_reverse.mp hr)) hy' (fun z=>nomatch z);obtain⟨t,ht⟩:=Option.isSome_iff_exists.mp t0;have ct:=((ZfY bk r0 (List.mem_reverse.mp hr0)).tm t ht).2;have dp:=t.deep_cnt;have ll:=Zi4 rs.reverse (some y.2);rw[List.length_reverse] at ll
   refine Yt ⟨_,rfl,_,rfl,C,_,rec,y,rfl,Yh s2 rc,lc,top,fun H3 s3=> ?_⟩;have s03:=s02.trans s3;refine⟨_,rfl,_,rfl,p,y.2,rs,r0,t,rfl,Jf s03 bat,lr,ow,ht,fun m H4 s4 tm=> ?_⟩;obtain⟨dx,fs,ii,lk⟩:=ZnD tm;have s04:=s03.trans s4;refine⟨m,_,dx,fs,rfl,ii,Zfg t,lk,_,rfl,_,rfl,C,_,rec,rfl,Yh (s2.trans (s3.trans s4)) rc,lc,fun L H5 hL s5 hl=> ?_⟩;refine⟨m,L,t,_,rfl,tm.same s5,by omega,rfl,.inl hl,fun H6 s6=> ?_⟩
   have s06:=s04.trans (s5.trans s6);have sC6:=s2.trans (s3.trans (s4.trans (s5.trans s6)));refine⟨_,rfl,_,rfl,_,rfl,_,rfl,p,y.2,rs,rfl,Jf s06 bat,lr,fun L2 H7 hL2 s7 hl2=> ?_⟩;refine⟨C,L2,_,rec,_,rfl,Yh (sC6.trans s7) rc,lc,hl2,by omega,Nat.lt_of_le_of_lt Zon ok.held,fun Qh zs H8 hQ s8 pz sz hz=> ?_⟩;have s08:=s06.trans (s7.trans s8);refine⟨_,rfl,_,rfl,_,rfl,Qh,zs,_,day,rfl,hz,fun H9 s9=> ?_⟩;have s09:=s08.trans s9
   refine⟨_,rfl,_,rfl,_,rfl,p,y.2,rs,r0,rfl,Jf s09 bat,lr,ow,fun H10 s10=> ?_⟩;refine⟨_,rfl,_,rfl,show 5<=sizeLine from sl,fun a ha=> ?_⟩;have s010:=s09.trans s10;have hz10:=s10 _ _ (s9 _ _ hz);refine q a ⟨Jx (t.due (Xr (ZR ws day) rec)) zs.length day,some y.2,some r0.nm,t.due (Xr (ZR ws day) rec),zs⟩ _ (YS s010 ha) (s010.trans (Zk ha)) ⟨Qh,Zc,Zk ha _ _ hz10⟩ (fun L' e=> ?_) ⟨fun z=>(by rw[ip] at z;cases z),fun _=>⟨y,r0,t,top,ow,ht,rfl,rfl,rfl,pz,sz,rfl⟩⟩
   rw[Zc] at e
   have e:HO.tup _=HO.tup _:=Option.some.inj e
   injection e with e
   have e:V.ref Qh=V.ref L':=by simpa [oS,oV] using e
   injection e with e
   exact e▸YS (s06.trans s7) hQ
theorem lvR{cn ca cl ce m:Addr}{n:Nat}{t:Tr}{σ:L2.St}{H:Hp}{Q:VK}{E:XK}(tm:Xf cn ca cl ce H t m)(o1:t.deep<n)(o2:t.cnt<=100)(k:∀p H',Zy H H'->H p=none->Zkl H' p t.lvs->Q (.ref p) H'):
  ∃a C dx fs,V.ref m=.ref a/\H a=some (.ins C dx fs)/\(C=cn\/C=ca\/C=cl\/C=ce)/\fs.lookup (Str.ofString "leaves")=none/\ZoW σ H fun vs H2=>Za4 cn ca cl ce n C (V.ref m::vs) H2 Q E:=by
 obtain⟨dx,fs,ii,lk⟩:=ZcP tm;obtain⟨n1,n2,n3,n4⟩:=Znx "leaves" (.inr (.inl rfl));exact⟨m,_,dx,fs,rfl,ii,Zfg t,lk _ n1 n2 n3 n4,m,t,rfl,tm,o1,o2,rfl,k⟩
theorem Zg1{α β:Type}{F:α->β->Prop}:∀{a c:List α} {b d:List β},Paired F a b->Paired F c d->Paired F (a++c) (b++d)
 |_,_,_,_,.nil,s=>s
 |_,_,_,_,.cons r t,s=> .cons r (Zg1 t s)
theorem Zkl.same{H H':Hp}{p:Addr}{ls:List (Str×Int)}(s:Zy H H')(h:Zkl H p ls):Zkl H' p ls:=by
 obtain⟨ys,h1,h2⟩:=h;exact⟨ys,s _ _ h1,Paired.mapP h2 fun kd y ⟨q,e1,e2⟩=>⟨q,e1,s _ _ e2⟩⟩
theorem Zkl.app{H:Hp}{p:Addr}{ls ms:List (Str×Int)}{xs ys:List V}(hp:H p=none)(h1:Paired (fun(kd:Str×Int) y=>∃q,y=V.ref q/\H q=some (.tup [.str kd.1,.int kd.2])) ls xs)
  (h2:Paired (fun(kd:Str×Int) y=>∃q,y=V.ref q/\H q=some (.tup [.str kd.1,.int kd.2])) ms ys):Zkl (upd H p (.lst (xs++ys))) p (ls++ms):=
 ⟨_,Zc,Paired.mapP (Zg1 h1 h2) fun kd y ⟨q,e1,e2⟩=>⟨q,e1,Zk hp _ _ e2⟩⟩
theorem Zh6:ZC ["self"] ["self"] (Zt ZbE):=⟨rfl,rfl,rfl,by decide+kernel,rfl,by decide+kernel,by decide+kernel⟩
theorem Zh7{f:Addr}{fd:FuncData}(F:Fun K "leaves" "Never.leaves" ZbE f fd)(T:Txt K mg Zh Zf Zg Zb Zo)(n:Nat):Yl P w K mg base CX0 (0+n+1+1) f fd ["self"] (Za4 Zh Zf Zg Zb (n+1) Zh):=by
 refine F.ok Zh6 (fun vs H Q E h=> ?_) (fun cdv A outer s H vs Q E hr h=> ?_)
 ·obtain⟨a,t,rfl,_⟩:=h
  rfl
 ·obtain⟨a,t,rfl,ht,hd,hc,hC,q⟩:=h;refine⟨_,(Zn (Zz (Yk Zj))), ?_⟩;cases t with
  |never=>exact⟨Nat.zero_le _,fun p hp=>q p _ (Zk hp) hp ⟨[],Zc,.nil⟩⟩
  |after k d=>exact absurd hC.symm T.ne_Never_After
  |later x y=>exact absurd hC.symm T.ne_Never_Later
  |earlier x y=>exact absurd hC.symm T.ne_Never_Earlier
theorem Zh8:ZC ["self"] ["self"] (Zt ZbF):=⟨rfl,rfl,rfl,by decide+kernel,rfl,by decide+kernel,by decide+kernel⟩
theorem Zh9{f:Addr}{fd:FuncData}(F:Fun K "leaves" "After.leaves" ZbF f fd)(T:Txt K mg Zh Zf Zg Zb Zo)(n:Nat):Yl P w K mg base CX0 (0+n+1+1) f fd ["self"] (Za4 Zh Zf Zg Zb (n+1) Zf):=by
 refine F.ok Zh8 (fun vs H Q E h=> ?_) (fun cdv A outer s H vs Q E hr h=> ?_)
 ·obtain⟨a,t,rfl,_⟩:=h
  rfl
 ·obtain⟨a,t,rfl,ht,hd,hc,hC,q⟩:=h;have l5:=Xe;cases t with
  |never=>exact absurd hC T.ne_Never_After
  |later x y=>exact absurd hC.symm T.ne_After_Later
  |earlier x y=>exact absurd hC.symm T.ne_After_Earlier
  |after k d=>
   obtain⟨dx,ha⟩:=ht;refine⟨_,(Zn (Zz (Yk (Za (YK (Za (Yg (pv 0) rfl) (Za (Yg (pv 0) rfl) Zj))) Zj)))), ?_⟩;refine⟨_,rfl,a,_,dx,_,_,rfl,ha,T.cl_After,T.n_After_kind,Zko k d,_,rfl,a,_,dx,_,_,rfl,ha,T.cl_After,T.n_After_days,Znv k d,(show 2<=sizeLine from sl),fun t ht=>⟨show 1<=sizeLine from sl,fun p hp=> ?_⟩⟩;have hp0:H p=none:=(Zk ht).free hp;exact q p _ ((Zk ht).trans (Zk hp)) hp0 ⟨_,Zc,.cons ⟨t,rfl,Zk hp _ _ Zc⟩ .nil⟩
theorem Zib:ZC ["self"] ["self"] (Zt ZaH):=⟨rfl,rfl,rfl,by decide+kernel,rfl,by decide+kernel,by decide+kernel⟩
theorem Ze9{f:Addr}{fd:FuncData}(F:Fun K "leaves" "Pair.leaves" ZaH f fd)(T:Txt K mg Zh Zf Zg Zb Zo)(n:Nat){C:Addr}(hC:C=Zg\/C=Zb)(ZaT:Zbj P w K mg base CX0 (0+n+1) "leaves" ["self"] (Za4 Zh Zf Zg Zb n) (fun C=>C=Zh\/C=Zf\/C=Zg\/C=Zb)):Yl P w K mg base CX0 (0+n+1+1) f fd ["self"] (Za4 Zh Zf Zg Zb (n+1) C):=by
 refine F.ok Zib (fun vs H Q E h=> ?_) (fun cdv A outer s H vs Q E hr h=> ?_)
 ·obtain⟨a,t,rfl,_⟩:=h
  rfl
 ·obtain⟨a,t,rfl,ht,hd,hc,hcls,q⟩:=h;have l5:=Xe;cases t with
  |never=>
   rcases hC with h|h
   ·exact absurd (hcls.trans h) T.ne_Never_Later
   ·exact absurd (hcls.trans h) T.ne_Never_Earlier
  |after k d=>
   rcases hC with h|h
   ·exact absurd (hcls.trans h) T.ne_After_Later
   ·exact absurd (hcls.trans h) T.ne_After_Earlier
  |later x y=>
   obtain⟨dx,p1,p2,ha,t1,t2⟩:=ht;have hdeep:max x.deep y.deep+1<n+1:=hd;have hcnt:x.cnt+y.cnt<=100:=hc;have lx:=x.lvs_cnt;have ly:=y.lvs_cnt;refine⟨_,(Zn (Zz (Zw Zd4 (ZfP (Yg (pv 0) rfl) ZaT (hr.mono (by omega)) ZJ) (ZfP (Yg (pv 0) rfl) ZaT (hr.mono (by omega)) ZJ)))), ?_⟩;refine⟨_,rfl,a,_,dx,_,_,rfl,ha,T.cl_Later,T.n_Later_one,Zkp p1 p2,lvR t1 (by omega) (by omega) fun L1 H1 s1 hL1 lv1=> ?_⟩;refine⟨_,rfl,a,_,dx,_,_,rfl,s1 _ _ ha,T.cl_Later,T.n_Later_other,ZfW p1 p2,lvR (t2.same s1) (by omega) (by omega) fun L2 H2 s2 hL2 lv2=> ?_⟩
   obtain⟨xs,e1,e2⟩:=lv1.same s2;obtain⟨ys,g1,g2⟩:=lv2;have z1:=Paired.length e2;have z2:=Paired.length g2;refine⟨L1,L2,xs,ys,rfl,rfl,SqL.of e1,SqL.of g1,by omega,fun p hp=> ?_⟩;exact q p _ (s1.trans (s2.trans (Zk hp))) ((s1.trans s2).free hp) (Zkl.app hp e2 g2)
  |earlier x y=>
   obtain⟨dx,p1,p2,ha,t1,t2⟩:=ht;have hdeep:max x.deep y.deep+1<n+1:=hd;have hcnt:x.cnt+y.cnt<=100:=hc;have lx:=x.lvs_cnt;have ly:=y.lvs_cnt;refine⟨_,(Zn (Zz (Zw Zd4 (ZfP (Yg (pv 0) rfl) ZaT (hr.mono (by omega)) ZJ) (ZfP (Yg (pv 0) rfl) ZaT (hr.mono (by omega)) ZJ)))), ?_⟩;refine⟨_,rfl,a,_,dx,_,_,rfl,ha,T.cl_Earlier,T.n_Earlier_one,Zkp p1 p2,lvR t1 (by omega) (by omega) fun L1 H1 s1 hL1 lv1=> ?_⟩;refine⟨_,rfl,a,_,dx,_,_,rfl,s1 _ _ ha,T.cl_Earlier,T.n_Earlier_other,ZfW p1 p2,lvR (t2.same s1) (by omega) (by omega) fun L2 H2 s2 hL2 lv2=> ?_⟩
   obtain⟨xs,e1,e2⟩:=lv1.same s2;obtain⟨ys,g1,g2⟩:=lv2;have z1:=Paired.length e2;have z2:=Paired.length g2;refine⟨L1,L2,xs,ys,rfl,rfl,SqL.of e1,SqL.of g1,by omega,fun p hp=> ?_⟩;exact q p _ (s1.trans (s2.trans (Zk hp))) ((s1.trans s2).free hp) (Zkl.app hp e2 g2)
theorem ZbM{l:Tb}:∀{t:Tr} {D:Int},t.due l=some D->∃kd∈t.lvs,(lk l kd.1).map (· +kd.2)=some D
 | .never,_,h=>nomatch h
 | .after k d,_,h=>⟨(k,d),List.mem_singleton_self _,h⟩
 | .later x y,D,h=>by
  have h:ZpC (x.due l) (y.due l)=some D:=h;cases ex:x.due l with
  |none=>rw[ex] at h;cases h
  |some a=>
   cases ey:y.due l with
   |none=>rw[ex,ey] at h;cases h
   |some b=>
    rw[ex,ey] at h
    have h:(if b>a then b else a)=D:=Option.some.inj h
    split at h
    ·obtain⟨kd,m,e⟩:=ZbM ey;exact⟨kd,List.mem_append_right _ m,h▸e⟩
    ·obtain⟨kd,m,e⟩:=ZbM ex;exact⟨kd,List.mem_append_left _ m,h▸e⟩
 | .earlier x y,D,h=>by
  have h:Zlu (x.due l) (y.due l)=some D:=h;cases ex:x.due l with
  |none=>
   rw[ex] at h
   obtain⟨kd,m,e⟩:=ZbM (show y.due l=some D from h);exact⟨kd,List.mem_append_right _ m,e⟩
  |some a=>
   cases ey:y.due l with
   |none=>
    rw[ex,ey] at h
    obtain⟨kd,m,e⟩:=ZbM ex;exact⟨kd,List.mem_append_left _ m,e.trans h⟩
   |some b=>
    rw[ex,ey] at h
    have h:(if b<a then b else a)=D:=Option.some.inj h
    split at h
    ·obtain⟨kd,m,e⟩:=ZbM ey;exact⟨kd,List.mem_append_right _ m,h▸e⟩
    ·obtain⟨kd,m,e⟩:=ZbM ex;exact⟨kd,List.mem_append_left _ m,h▸e⟩
theorem Zkx{l:Tb}{t:Tr}{D:Int}(h:t.due l=some D):Zhm l D t.lvs≠[]:=fun z=>by
 obtain⟨kd,m,e⟩:=ZbM h;have:kd∈Zhm l D t.lvs:=List.mem_filter.mpr ⟨m,decide_eq_true e⟩;rw[z] at this
 cases this
def LfH(H:Hp)(kd:Lf)(y:V):Prop:=∃q,y=V.ref q/\H q=some (.tup [.str kd.1,.int kd.2])
theorem Zic{H H':Hp}(s:Zy H H'):∀{ls:List Lf} {ys:List V},Paired (LfH H) ls ys->Paired (LfH H') ls ys
 |_,_,.nil=> .nil
 |_,_,.cons ⟨q,e,h⟩ t=> .cons ⟨q,e,s _ _ h⟩ (Zic s t)
theorem ZpT{K:PySem.W.Frag}{H:Hp}:∀{ls:List Lf} {ys:List V},Paired (LfH H) ls ys->Paired (ZiQ K H) ls ys
 |_,_,.nil=> .nil
 |_,_,.cons ⟨q,e,h⟩ t=> .cons ⟨q,e,SqT.of h⟩ (ZpT t)
theorem Zjt{H:Hp}(P:Lf->Bool):∀{ls:List Lf} {ys:List V},Paired (LfH H) ls ys->Paired (LfH H) (ls.filter P) ((ls.zip ys).flatMap fun z=>if P z.1=true then[z.2] else[])
 |_,_,.nil=> .nil
 |_,_,.cons (a:=a) (b:=w) h t=>by
  have c:=Zjt P t;rw[List.zip_cons_cons,List.flatMap_cons]
  by_cases hp:P a=true
  ·rw[List.filter_cons_of_pos hp,if_pos hp];exact .cons h c
  ·rw[List.filter_cons_of_neg hp,if_neg hp];exact c
theorem Zs8{P:Lf->Bool}{o:Option (Lf×V)}:((o.map fun z=>if P z.1=true then[z.2] else[]).getD []).length<=1:=by
 cases o with
 |none=>exact Nat.zero_le 1
 |some z=>
  show(if _ then[z.2] else[]).length<=1
  by_cases h:P z.1=true
  ·rw[if_pos h];exact Nat.le_refl 1
  ·rw[if_neg h];exact Nat.zero_le 1
theorem Zlp{H:Hp}:∀{ls:List Lf} {ys:List V},Paired (LfH H) ls ys->∀(j:Nat) (y:V),ys[j]? =some y->∃kd q,(ls.zip ys)[j]? =some (kd,y)/\y=.ref q/\H q=some (.tup [.str kd.1,.int kd.2])
 |_,_,.nil,j,y,h=>by simp at h
 |_,_,.cons (a:=kd) (b:=v) ⟨q,e,r⟩ t,0,y,h=>by
  have h:v=y:=by simpa using h
  subst h;exact⟨kd,q,rfl,e,r⟩
 |_,_,.cons _ t,j+1,y,h=>by
  obtain⟨kd,q,e,z⟩:=Zlp t j y (by simpa using h);exact⟨kd,q,by simpa using e,z⟩
theorem ZlK{l:Tb}{D d:Int}{kd:Lf}(h:lk l kd.1=some d):Zag l D kd=decide (V.int (d+kd.2)=V.int D):=by
 unfold Zag;rw[h];refine decide_eq_decide.mpr ⟨fun z=>congrArg V.int (Option.some.inj z),fun z=> ?_⟩
 injection z with z
 exact congrArg some z
theorem ZpU{l:Tb}{D:Int}{kd:Lf}(h:lk l kd.1=none):Zag l D kd=false:=by
 unfold Zag;rw[h]
 rfl
theorem ZaB:ZC ["book","rows","record","day","counting","life","term","due","reached","first"] ["book","rows","record","day"] (Zt ZhW):=⟨rfl,rfl,rfl,by decide+kernel,rfl,by decide+kernel,by decide+kernel⟩
theorem Zop{f:Addr}{fd:FuncData}(F:Fun K "reason" "reason" ZhW f fd)(T:Txt K mg Zh Zf Zg Zb Zo)(XD:Cal P w K mg base CX0 1 "counted" ["rows","day"] Zax)(ZdC:Zbj P w K mg base CX0 13 "due" ["self","life"] (Zcn Zh Zf Zg Zb 12) (fun C=>C=Zh\/C=Zf\/C=Zg\/C=Zb))(ZaT:Zbj P w K mg base CX0 13 "leaves" ["self"] (Za4 Zh Zf Zg Zb 12) (fun C=>C=Zh\/C=Zf\/C=Zg\/C=Zb))(Zak:Cal P w K mg base CX0 1 "is_put" ["rows","record"] ZcN)(Zbu:Cal P w K mg base CX0 1 "life_of" ["rows","record"] Zdi)(Za6:Cal P w K mg base CX0 1 "series_of" ["rows","record"] Zbl)(Zbw:Cal P w K mg base CX0 2 "term_of" ["book","name"] (Zdh Zh Zf Zg Zb)):Yl P w K mg base CX0 14 f fd ["book","rows","record","day"] (Zgq Zh Zf Zg Zb):=by
 refine F.ok ZaB (fun vs H Q E h=> ?_) (fun cdv A outer s H vs Q E hr h=> ?_)
 ·obtain⟨p,q',rs,ws,rec,day,rfl,_⟩:=h
  rfl
 ·obtain⟨p,q',rs,ws,rec,day,rfl,bat,bk,lr,rws,ok,q⟩:=h;have l5:=Xe;have hu:=Zbg hr;have hu3:=Zk5 hr;have nd:=Zlx bk;have br:=Zkv bk;refine⟨_,(Ze (Zu (i:=4) ZaB.nd rfl (Or.inl rfl) (ZV XD (hr.mono (by omega)) rfl ZJ (Za (pv 1) (Za (pv 3) Zj)))) (Ze (ZZ (Zmc (ZdE (ZV Zak (hr.mono (by omega)) rfl ZJ (Za (pv 4) (Za (pv 2) Zj))))) (Zn (Zz YB)) ZD) (Ze (Zu (i:=5) ZaB.nd rfl (Or.inr rfl) (ZV Zbu (hr.mono (by omega)) rfl ZJ (Za (pv 4) (Za (pv 2) Zj)))) (Ze (Zu (i:=6) ZaB.nd rfl (Or.inl rfl) (ZV Zbw (hr.mono (by omega)) rfl ZJ (Za (pv 0) (Za (ZV Za6 (hr.mono (by omega)) rfl ZJ (Za (pv 4) (Za (pv 2) Zj))) Zj)))) (Ze (Zu (i:=7) ZaB.nd rfl (Or.inr rfl) (Zaa (pv 6) ZdC (hr.mono (by omega)) ZJ (Za (pv 5) Zj))) (Ze (ZZ (Zq Zcd (pv 7) YB (Zv _)) (Zn (Zz YB)) ZD) (Ze (ZeC (i:=8) ["leaf"] [("life",5),("due",7)] ZaB.nd rfl (Or.inl rfl) rfl (Yb (ZfP (pv 6) ZaT (hr.mono (by omega)) ZJ)) (by rfl) (by exact⟨rfl,⟨rfl,trivial⟩⟩) (by rfl) (by exact⟨⟨rfl,rfl,rfl⟩,⟨⟨rfl,rfl,rfl⟩,trivial⟩⟩) (fun _ _ _ _=>(ZF (i:=0) (show(nmY ["leaf"] [("life",5),("due",7)]).Nodup by decide+kernel) rfl (Or.inl rfl))) (fun _ _ _ _=>(Jw (PW.pt (Xz (ZcY (ZjZ hu (Zx (Yu (K:=K) rfl) (pv 0) Zi (fun _ _=>rfl)) (pv 1))) (YX (Zq Ym (Zw XX (Za9 hu (pv 1) (Zx (Yu (K:=K) rfl) (pv 0) Zi (fun _ _=>rfl)) (fun _ _=>rfl)) (Zx (Yu (K:=K) rfl) (pv 0) Zi (fun _ _=>rfl))) (pv 2) (Zv _))))))) (fun _ _ _ _=>(pv 0))) (Ze (Zu (i:=9) ZaB.nd rfl (Or.inl rfl) (ZS (Zof rfl hu3) (by rfl) T.z_min Zmv (Za (pv 8) Zj))) (Zn (Zz (YK (Za (Zx ZG (pv 9) Zi (fun _ _=>rfl)) (Za (Za9 hu (pv 5) (Zx ZG (pv 9) Zi (fun _ _=>rfl)) (fun _ _=>rfl)) (Za (Zx ZG (pv 9) Zi (fun _ _=>rfl)) Zj)))))))))))))), ?_⟩
  refine⟨_,rfl,_,rfl,q',ws,day,rfl,rws,ok.len,fun C H1 hC s1 rc=> ?_⟩;have lc:(ZR ws day).length<=1000:=Nat.le_trans (List.length_filter_le _ _) ok.len;refine⟨_,rfl,_,rfl,C,_,rec,rfl,rc,lc,fun H2 s2=>⟨_,rfl, ?_⟩⟩;have s02:=s1.trans s2;cases ip:Xm (ZR ws day) rec with
  |false=>exact JZ (q _ _ s02 ⟨fun _=>rfl,fun z=>by rw[ip] at z;cases z⟩)
  |true=>
   obtain⟨y,top⟩:=ZmZ _ (ZlJ ip);have hy:=ok.ser rec y (Zgu top.1);have hy':∀m,some y.2=some m->m∈rs.reverse.map Sr.nm:=fun m hm=>by
    injection hm with hm
    rw[<-hm,List.map_reverse,List.mem_reverse];exact hy
   obtain⟨r0,hr0,ow,t0,_⟩:=Zku (ZqT rs) rs.reverse (some y.2) br (fun r hr=>ZnA nd (List.mem_reverse.mp hr)) hy' (fun z=>nomatch z);obtain⟨t,ht⟩:=Option.isSome_iff_exists.mp t0;have ct:=((ZfY bk r0 (List.mem_reverse.mp hr0)).tm t ht).2;have dp:=t.deep_cnt;refine Yt ⟨_,rfl,_,rfl,C,_,rec,rfl,Yh s2 rc,lc,fun L H3 hL s3 hl=> ?_⟩;refine⟨_,rfl,_,rfl,_,rfl,C,_,rec,y,rfl,Yh (s2.trans s3) rc,lc,top,fun H4 s4=> ?_⟩
   have s04:=s02.trans (s3.trans s4);refine⟨p,y.2,rs,r0,t,rfl,Jf s04 bat,lr,ow,ht,fun m H5 s5 tm=> ?_⟩;obtain⟨dx,fs,ii,lk0⟩:=ZnD tm;have hl5:=s5 _ _ (s4 _ _ hl);refine⟨_,rfl,m,_,dx,fs,rfl,ii,Zfg t,lk0,_,rfl,m,L,t,_,rfl,tm,by omega,rfl,.inl hl5,fun H6 s6=> ?_⟩;have s06:=s04.trans (s5.trans s6);have hl6:=s6 _ _ hl5;generalize hlf:Xr (ZR ws day) rec=l at hl6⊢
   cases hd:t.due l with
   |none=>
    refine⟨_,rfl,rfl,_,rfl,Zcl rfl (q _ _ s06 ⟨fun _=>rfl,fun _=>⟨y,r0,t,top,ow,ht,fun _=>rfl,fun D e=> ?_⟩⟩)⟩;rw[hlf,hd] at e
    cases e
   |some D=>
    refine⟨_,rfl,rfl,_,rfl,YJ (fun z=>nomatch z) ?_⟩;refine⟨_,rfl,lvR (tm.same s6) (by omega) (by omega) fun Lv H7 s7 hLv lv=> ?_⟩;obtain⟨ys,hv,pv⟩:=lv;have pv:Paired (LfH H7) t.lvs ys:=pv;have lvc:=t.lvs_cnt;have le:=Paired.length pv;have lz:(t.lvs.zip ys).length=ys.length:=by rw[List.length_zip];omega
    refine⟨Lv,rfl,⟨_,SqL.of hv⟩,Xa (t.lvs.zip ys).length (fun j=>(((t.lvs.zip ys)[j]?).map fun z=>if Zag l D z.1=true then[z.2] else[]).getD []) (by omega) (fun j=>Zs8) (fun j H2 s2 lt=>⟨_,_,SqL.of (s2 _ _ hv),List.getElem?_eq_getElem (by omega)⟩) (fun H2 s2=>⟨_,SqL.of (s2 _ _ hv),by omega⟩) (fun j x H8 H9 s8 lt yl RT RF rt rf=> ?_) fun B H8 hB s8 d8=> ?_⟩
    ·obtain⟨rfl,yl⟩:=yl;obtain⟨kd,qa,ez,rfl,row⟩:=Zlp (Zic s8 pv) j x (yl _ (SqL.of (s8 _ _ hv)));rw[ez] at rt rf
     have rt:∀v H6,(if Zag l D kd=true then[V.ref qa] else[])=[v]->_:=rt;have rf:∀H5,(if Zag l D kd=true then[V.ref qa] else[])=[]->_:=rf;have hl9:=s8 _ _ (s7 _ _ hl6);have dg:=Zfh (.inl hl9) kd.1;refine⟨⟨rfl,rfl,trivial⟩,ixT rfl (SqT.of row) rfl ⟨_,rfl,L,_,rfl,dg,_,rfl, ?_⟩⟩;rw[Zi3];cases ev:lk l kd.1 with
     |none=>exact Yt (rf _ (if_neg (by rw[ZpU ev];exact Bool.false_ne_true)) (Zy.refl _))
     |some d=>
      rw[ev] at dg
      refine JZ ⟨_,rfl,ixT rfl (SqT.of row) rfl ⟨L,_,rfl,dg,ixT rfl (SqT.of row) rfl ⟨_,_,rfl,rfl,_,rfl,rfl,_,rfl, ?_⟩⟩⟩;refine YQ (fun z=>⟨_,rfl,rt _ _ (if_pos (by rw[ZlK ev];exact z)) (Zy.refl _)⟩) (fun z=>rf _ (if_neg (by rw[ZlK ev];exact z)) (Zy.refl _))
    ·rw[Xq (fun z:Lf×V=>if Zag l D z.1=true then[z.2] else[]) (t.lvs.zip ys)] at d8
     have pf:=Zjt (Zag l D) (Zic s8 pv);generalize hzs:((t.lvs.zip ys).flatMap fun z=>if Zag l D z.1=true then[z.2] else[])=zs at d8 pf
     obtain⟨v0,zs',rfl⟩:∃v0 zs',zs=v0::zs':=by
      cases zs with
      |nil=>exact absurd (List.eq_nil_of_length_eq_zero (Paired.length pf)) (Zkx hd)
      |cons v0 us=>exact⟨v0,us,rfl⟩
     refine⟨_,rfl,B,v0,zs',_,rfl,SqL.of d8,ZpT pf,fun v kd mem sp best=> ?_⟩;obtain⟨pv2,rfl,hv2⟩:=sp;have hl8:=s8 _ _ (s7 _ _ hl6);have cm:=of_decide_eq_true (List.mem_filter.mp mem).2;obtain⟨d,ev⟩:∃d,lk l kd.1=some d:=by
      cases e:lk l kd.1 with
      |none=>rw[e] at cm;cases cm
      |some d=>exact⟨d,rfl⟩
     have dg:=Zfh (.inl hl8) kd.1;rw[ev] at dg
     refine(ixT rfl hv2 rfl ⟨_,rfl,ixT rfl hv2 rfl ⟨L,_,rfl,dg,ixT rfl hv2 rfl ⟨show 3<=sizeLine from sl,fun a ha=> ?_⟩⟩⟩);refine q _ _ (s06.trans (s7.trans (s8.trans (Zk ha)))) ⟨fun z=>(by rw[ip] at z;cases z),fun _=>⟨y,r0,t,top,ow,ht,fun e=> ?_,fun D' e=> ?_⟩⟩
     ·rw[hlf,hd] at e
      cases e
     ·rw[hlf] at e⊢
      obtain rfl:D=D':=by rw[hd] at e;injection e
      exact⟨a,kd.1,d,kd.2,rfl,Zc,ev,mem,best⟩
theorem ZlL:∀(ws:List Rw) (l:Tb),(ws.foldl Jh l).length<=l.length+ws.length
 |[],l=>Nat.le_refl _
 |w::ws,l=>by
  have h:=ZlL ws (Jh l w);have g:(Jh l w).length<=l.length+1:=by
   cases w with
   |lift h d=>exact Zf1 ..
   |_=>exact Nat.le_succ _
  rw[List.length_cons];show(ws.foldl Jh (Jh l w)).length<=_;omega
theorem Zs9(i j:Int):(if j<i then j else i)=min i j:=by split<;>omega
theorem ZnE{H:Hp}:∀{xs:List Ze3} {us:List V},Paired (Zc4 H) xs us->∀(i:Nat) (u:V),us[i]? =some u->∃x p,xs[i]? =some x/\u=.ref p/\H p=some (.tup [.int x.1,oV x.2])
 |_,_,.nil,i,u,h=>by simp at h
 |_,_,.cons (a:=x) (b:=v) ⟨p,e,r⟩ t,0,u,h=>by
  have h:v=u:=by simpa using h
  subst h;exact⟨x,p,rfl,e,r⟩
 |_,_,.cons _ t,i+1,u,h=>by
  obtain⟨x,p,e,z⟩:=ZnE t i u (by simpa using h);exact⟨x,p,by simpa using e,z⟩
theorem Za2{H H':Hp}(s:∀b xs,H b=some (.tup xs)->H' b=some (.tup xs)):∀{xs:List Ze3} {us:List V},Paired (Zc4 H) xs us->Paired (Zc4 H') xs us
 |_,_,.nil=> .nil
 |_,_,.cons ⟨p,e,h⟩ t=> .cons ⟨p,e,s _ _ h⟩ (Za2 s t)
def ZdD(lf:Tb)(rec:Str)(line:List Str)(w:Rw):List Ze3:=match Zgr lf rec line w with|some x=>[x]|none=>[]
theorem Zfm(lf:Tb)(rec:Str)(line:List Str):∀ws:List Rw,ws.filterMap (Zgr lf rec line)=ws.flatMap (ZdD lf rec line)
 |[]=>rfl
 |w::ws=>by
  rw[List.flatMap_cons,<-Zfm lf rec line ws];unfold ZdD;cases e:Zgr lf rec line w with
  |none=>rw[List.filterMap_cons_none e];rfl
  |some x=>rw[List.filterMap_cons_some e];rfl
theorem Zoq{lf:Tb}{rec:Str}{line:List Str}{h n:Str}{c:Bool}{d:Int}(ld:Zae rec line (.hold h c n d)=true):ZdD lf rec line (.hold h c n d)=[(d,lk lf h)]:=by
 have e:Zgr lf rec line (.hold h c n d)=some (d,lk lf h):=if_pos ld;unfold ZdD;rw[e]
theorem ZpV{lf:Tb}{rec:Str}{line:List Str}{h n:Str}{c:Bool}{d:Int}(ld:Zae rec line (.hold h c n d)=false):ZdD lf rec line (.hold h c n d)=[]:=by
 have e:Zgr lf rec line (.hold h c n d)=none:=if_neg (by rw[ld];exact Bool.false_ne_true)
 unfold ZdD;rw[e]
theorem Zea:ZC ["rows","record","line","lifts","row"] ["rows","record","line"] (Zt Zfa):=⟨rfl,rfl,rfl,by decide+kernel,rfl,by decide+kernel,by decide+kernel⟩
theorem ZlM{f:Addr}{fd:FuncData}(F:Fun K "spans_on" "spans_on" Zfa f fd)(T:Txt K mg Zh Zf Zg Zb Zo)(JL:Cal P w K mg base CX0 1 "is_laid_on" ["row","record","over"] ZaI):Yl P w K mg base CX0 2 f fd ["rows","record","line"] Ze5:=by
 refine F.ok Zea (fun vs H Q E h=> ?_) (fun cdv A outer s H vs Q E hr h=> ?_)
 ·obtain⟨p,l,ws,rec,line,rfl,_⟩:=h
  rfl
 ·obtain⟨p,l,ws,rec,line,rfl,⟨ds,hp,pr⟩,lw,hl0,q⟩:=h;have l5:=Xe;have hu:=Zbg hr;have le:=Paired.length pr;refine⟨_,(Ze (Zu (i:=3) Zea.nd rfl (Or.inr rfl) JQ) (Ze (Xi PassesOwn.never rfl (Yb (pv 0)) (ZF (i:=4) Zea.nd rfl (Or.inl rfl)) (Zn (ZZ (Zq Ym (Zx ZG (pv 4) Zi (fun _ _=>rfl)) ZK (Zv _)) (Zn (ZaE hu (pv 3) (Zx ZG (pv 4) Zi (fun _ _=>rfl)) (ZS (Zj7 rfl) (by rfl) T.z_min Zmv (Za (Zx ZG (pv 4) Zi (fun _ _=>rfl)) (Za (ZhD hu (pv 3) (Zx ZG (pv 4) Zi (fun _ _=>rfl)) (Zx ZG (pv 4) Zi (fun _ _=>rfl)) ⟨rfl,rfl,rfl,rfl⟩) Zj))) rfl)) ZD))) (Zn (Zz (Jc ["row"] [("lifts",3),("record",1),("line",2)] rfl (Yb (pv 0)) (by rfl) (by exact⟨rfl,⟨rfl,⟨rfl,trivial⟩⟩⟩) (by rfl) (by exact⟨⟨rfl,rfl,rfl⟩,⟨⟨rfl,rfl,rfl⟩,⟨⟨rfl,rfl,rfl⟩,trivial⟩⟩⟩) (fun _ _ _ _=>(ZF (i:=0) (show(nmY ["row"] [("lifts",3),("record",1),("line",2)]).Nodup by decide+kernel) rfl (Or.inl rfl))) (fun _ _ _ _=>(Jw (PW.pt (Xz (Zq Ym (Zx (Yu (K:=K) rfl) (pv 0) Zi (fun _ _=>rfl)) ZK (Zv _)) (YX (ZdE (ZV JL (hr.mono (by omega)) rfl ZJ (Za (pv 0) (Za (pv 2) (Za (pv 3) Zj)))))))))) (fun _ _ _ _=>(YK (Za (Zx (Yu (K:=K) rfl) (pv 0) Zi (fun _ _=>rfl)) (Za (Zp5 hu (pv 1) (Zx (Yu (K:=K) rfl) (pv 0) Zi (fun _ _=>rfl)) ⟨rfl,rfl,rfl,rfl⟩) Zj))))))))), ?_⟩
  intro L hL;have nLp:p≠L:=Zd hp hL;refine⟨_,rfl,p,rfl,⟨_,SqL.of (Zk hL _ _ hp)⟩,YH (xs:=ds.map V.ref) (fun i σ H'=>∃v4:Option V,σ=[some (.ref p),some (.str rec),some (.ref l),some (.ref L),v4]/\H' L=some (.dK (kk (JW (ws.take i))))/\∀b u,b≠L->H b=some u->H' b=some u) ?_ ?_ ?_ ?_⟩
  ·exact⟨none,rfl,Zc,fun b u nb e=>by rw[Zm nb];exact e⟩
  ·rintro i σ H1 _ ⟨v4,rfl,_,fr⟩;exact SqL.of (fr _ _ nLp hp)
  ·rintro i x σ H1 hx ⟨v4,rfl,hl,fr⟩;obtain⟨d,rfl,ed⟩:=Xb hx;have s1:Zy H H1:=fun b u z=>fr b u (Zd z hL) z;obtain⟨w,ew,row⟩:=Ye (ZM s1 pr) i d ed;have row:H1 d=some (.tup w.vs):=row;have tk:JW (ws.take (i+1))=Jh (JW (ws.take i)) w:=by
    rw[List.take_add_one,ew];show(ws.take i++[w]).foldl Jh []=_;rw[List.foldl_append]
    rfl
   have len:=ZlL (ws.take i) [];have l0:(JW (ws.take i)).length<=1000:=by
    have h1:=List.length_take_le' i ws;rw[List.length_nil] at len
    exact Nat.le_trans len (by omega)
   rw[tk];generalize JW (ws.take i)=lf at hl l0
   have lk1:(kk lf).length<sizeLine:=by rw[ZcG];omega
   have keep:Jh lf w=lf->∃v4:Option V,[some (V.ref p),some (.str rec),some (.ref l),some (.ref L),some (.ref d)]=[some (V.ref p),some (.str rec),some (.ref l),some (.ref L),v4]/\H1 L=some (.dK (kk (Jh lf w)))/\∀b u,b≠L->H b=some u->H1 b=some u:=fun e=>⟨_,rfl,by rw[e];exact hl,fr⟩
   have ej:∀(kind:Str) (dd:Int),((lk lf kind).map V.int).getD (V.int dd)=V.int ((lk lf kind).getD dd):=fun kind dd=>by cases lk lf kind<;>rfl
   have rd1:Rd H1 L (.dK (kk lf)):=.inl hl;cases w with
   |lift h dd=>
    have row:H1 d=some (.tup [.str "lift",.str h,.int dd]):=row;exact ixT rfl (SqT.of row) rfl ⟨rfl,_,rfl,Zcl rfl (ixT rfl (SqT.of row) rfl ⟨_,rfl,L,rfl,.inl ⟨_,rd1⟩,ixT rfl (SqT.of row) rfl (ixT rfl (SqT.of row) rfl ⟨_,Zfh rd1 h,dd,(lk lf h).getD dd,by rw[ej],_,rfl,ixT rfl (SqT.of row) rfl ⟨L,_,rfl,ZfL.k (k:=Sum.inr h) hl lk1,_,rfl,by rw[Zc,ZmC,Zs9];rfl,fun b u nb e=>by rw[Zm nb];exact fr b u nb e⟩⟩)⟩)⟩
   |put x s dd=>exact ixT rfl (SqT.of row) rfl ⟨rfl,_,rfl,YJ (vne Zi6) (keep rfl)⟩
   |move x s dd=>exact ixT rfl (SqT.of row) rfl ⟨rfl,_,rfl,YJ (vne Zjs) (keep rfl)⟩
   |deed x k dd=>exact ixT rfl (SqT.of row) rfl ⟨rfl,_,rfl,YJ (vne ZlA) (keep rfl)⟩
   |hold h c n dd=>exact ixT rfl (SqT.of row) rfl ⟨rfl,_,rfl,YJ (vne Zrq) (keep rfl)⟩
  ·rintro σ H1 ⟨v4,rfl,hl,fr⟩;rw[List.length_map,le,List.take_of_length_le (Nat.le_refl _)] at hl
   have s1:Zy H H1:=fun b u z=>fr b u (Zd z hL) z;have hp1:=s1 _ _ hp;have pr1:=ZM s1 pr;have hl1:=s1 _ _ hl0;generalize hlf:JW ws=lf at hl
   refine⟨_,rfl,p,rfl,⟨_,SqL.of hp1⟩,ZfN fun D hD=>⟨ds.length,fun j ys H4=>Paired (Zc4 H4) ((ws.take j).flatMap (ZdD lf rec line)) ys/\Zy H1 H4,by omega,⟨.nil,Zk hD⟩, ?_, ?_, ?_, ?_, ?_⟩⟩
   ·rintro j ys H4 ⟨p4,_⟩;rw[<-Paired.length p4,<-Zfm];exact Nat.le_trans (List.length_filterMap_le ..) (List.length_take_le j ws)
   ·rintro j ys zs H4 H5 eD kp ⟨p4,s4⟩;exact⟨Za2 (fun c xs e=>kp c _ (Yj e eD (fun z=>nomatch z)) e) p4,fun c u e=>kp c u (Zd e hD) (s4 _ _ e)⟩
   ·rintro j ys H4 ⟨_,s4⟩ lt;exact⟨_,_,SqL.of (s4 _ _ hp1),List.getElem?_eq_getElem (by rw[List.length_map];exact lt)⟩
   ·rintro ys H4 ⟨p4,s4⟩ hD4;refine⟨⟨_,SqL.of (s4 _ _ hp1),by rw[List.length_map];exact Nat.le_refl _⟩,q D ys H4 (YS s1 hD) (s1.trans s4) hD4 ?_⟩
    rw[le,List.take_length,<-Zfm] at p4
    unfold Zc5;rw[hlf];exact p4
   ·rintro j x ys H4 H5 ⟨p4,s4⟩ hD4 lt ⟨rfl,yl⟩ RT RF rt rf;obtain⟨d,rfl,ed⟩:=Xb (yl _ (SqL.of (s4 _ _ hp1)));obtain⟨w,ew,row⟩:=Ye (ZM s4 pr1) j d ed;have tk:(ws.take (j+1)).flatMap (ZdD lf rec line)=(ws.take j).flatMap (ZdD lf rec line)++ZdD lf rec line w:=by
     rw[List.take_add_one,ew,List.flatMap_append];simp
    rw[tk] at rt rf
    have no:ZdD lf rec line w=[]->RF H5:=fun e=>rf H5 hD4 ⟨by rw[e,List.append_nil];exact p4,s4⟩
    have row:H5 d=some (.tup w.vs):=row;refine⟨⟨rfl,rfl,rfl,trivial⟩, ?_⟩;cases w with
    |hold h c n dd=>
     have row:H5 d=some (.tup [.str "hold",.str h,.str (onW c),.str n,.int dd]):=row;refine(ixT rfl (SqT.of row) rfl ⟨rfl,_,rfl,Zcl rfl ⟨_,rfl,_,rfl,_,rfl,.inr ⟨d,l,h,n,c,dd,rec,line,rfl,row,s4 _ _ hl1,fun H6 s6=>⟨_,rfl, ?_⟩⟩⟩⟩);cases ld:Zae rec line (.hold h c n dd) with
     |false=>exact Yt (rf H6 (s6 _ _ hD4) ⟨by rw[ZpV ld,List.append_nil];exact Za2 (fun b xs e=>s6 _ _ e) p4,s4.trans s6⟩)
     |true=>
      have e1:ZdD lf rec line (.hold h c n dd)=[(dd,lk lf h)]:=Zoq ld;have row6:=s6 _ _ row;have hl6:=s6 _ _ (s4 _ _ hl);refine JZ (ixT rfl (SqT.of row6) rfl ⟨_,rfl,L,rfl,.inl ⟨_,.inl hl6⟩,ixT rfl (SqT.of row6) rfl ⟨_,Zfh (.inl hl6) h,show 2<=sizeLine from sl,fun t ht=> ?_⟩⟩);have ov:((lk lf h).map V.int).getD V.non=oV (lk lf h):=by cases lk lf h<;>rfl
      rw[ov];refine rt _ _ (Zk ht _ _ (s6 _ _ hD4)) ⟨?_,s4.trans (s6.trans (Zk ht))⟩;rw[e1];exact Paired.snoc (Za2 (fun b xs e=>Zk ht _ _ (s6 _ _ e)) p4) ⟨t,rfl,Zc⟩
    |put x s dd=>exact ixT rfl (SqT.of row) rfl ⟨rfl,_,rfl,YJ (vne ZgV) (Yt (no rfl))⟩
    |move x s dd=>exact ixT rfl (SqT.of row) rfl ⟨rfl,_,rfl,YJ (vne Zi7) (Yt (no rfl))⟩
    |deed x k dd=>exact ixT rfl (SqT.of row) rfl ⟨rfl,_,rfl,YJ (vne Zi8) (Yt (no rfl))⟩
    |lift h dd=>exact ixT rfl (SqT.of row) rfl ⟨rfl,_,rfl,YJ (vne ZlB) (Yt (no rfl))⟩
theorem Zky:ZC ["span"] ["span"] (Zt ZdS):=⟨rfl,rfl,rfl,by decide+kernel,rfl,by decide+kernel,by decide+kernel⟩
theorem Zkz{f:Addr}{fd:FuncData}(F:Fun K "beginning" "beginning" ZdS f fd)(T:Txt K mg Zh Zf Zg Zb Zo):Yl P w K mg base CX0 1 f fd ["span"] Zbm:=by
 refine F.ok Zky (fun vs H Q E h=> ?_) (fun cdv A outer s H vs Q E hr h=> ?_)
 ·obtain⟨p,x,rfl,_⟩:=h
  rfl
 ·obtain⟨p,x,rfl,hp,q⟩:=h;refine⟨_,(Zn (Zz (Zx ZG (pv 0) Zi (fun _ _=>rfl)))), ?_⟩;exact ixT rfl (SqT.of hp) rfl (q H (Zy.refl _))
theorem Zid{R:List V->Hp->Prop}:∀{xs:List Ze3} {us:List V} (ks:List V) (H:Hp),Paired (Zc4 H) xs us->(∀H2,Zy H H2->R (ks++xs.map fun x=>V.int x.1) H2)->kys Zbm us ks H R
 |_,_,ks,H,.nil,h=>by
  have h:=h H (Zy.refl _);rw[List.map_nil,List.append_nil] at h
  exact h
 |_,_,ks,H,.cons (a:=x) (b:=v) ⟨p,e,r⟩ t,h=>by
  subst e;refine⟨p,x,rfl,r,fun H2 s2=>Zid (ks++[V.int x.1]) H2 (Za2 (fun b xs e=>s2 _ _ e) t) fun H3 s3=> ?_⟩;have h:=h H3 (s2.trans s3);rw[List.map_cons] at h
  rw[List.append_assoc];exact h
theorem Zju{H:Hp}:∀xs:List Ze3,Paired (Zpz H) (xs.map (·.1)) (xs.map fun x=>V.int x.1)
 |[]=> .nil
 |x::xs=> .cons rfl (Zju xs)
theorem Zgv{α β:Type}{f:α->β}:∀{zs l:List β},zs.Perm l->∀T:List α,l=T.map f->∃T':List α,T'.Perm T/\zs=T'.map f:=by
 intro zs l h
 induction h with
 |nil=>
  intro T e;cases T with
  |nil=>exact⟨[],List.Perm.refl _,rfl⟩
  |cons _ _=>cases e
 |cons x _ ih=>
  intro T e;cases T with
  |nil=>cases e
  |cons t T=>
   injection e with e1 e2
   obtain⟨T',p,q⟩:=ih T e2;exact⟨t::T',p.cons t,by rw[q,e1];rfl⟩
 |swap x y l=>
  intro T e;cases T with
  |nil=>cases e
  |cons t T=>
   cases T with
   |nil=>injection e with e1 e2;cases e2
   |cons u T=>
    injection e with e1 e2
    injection e2 with e2 e3
    exact⟨u::t::T,List.Perm.swap ..,by rw[e1,e2,e3];rfl⟩
 |trans _ _ ih1 ih2=>
  intro T e;obtain⟨T1,p1,q1⟩:=ih2 T e;obtain⟨T2,p2,q2⟩:=ih1 T1 q1;exact⟨T2,p2.trans p1,q2⟩
theorem ZlN{H:Hp}:∀{xs:List Ze3} {us:List V},Paired (Zc4 H) xs us->us.zip (xs.map (·.1))=(xs.zip us).map fun t=>(t.2,t.1.1)
 |_,_,.nil=>rfl
 |_,_,.cons _ t=>by
  exact congrArg (List.cons _) (ZlN t)
theorem ZlO{H:Hp}:∀{xs:List Ze3} {us:List V},Paired (Zc4 H) xs us->(xs.zip us).map (·.1)=xs/\∀t∈xs.zip us,Zc4 H t.1 t.2
 |_,_,.nil=>⟨rfl,fun t h=>nomatch h⟩
 |_,_,.cons r t=>by
  obtain⟨a,b⟩:=ZlO t;refine⟨congrArg (List.cons _) a,fun z hz=> ?_⟩;cases hz with
  |head=>exact r
  |tail _ m=>exact b z m
theorem ZnF{H:Hp}:∀{T:List (Ze3×V)},(∀t∈T,Zc4 H t.1 t.2)->Paired (Zc4 H) (T.map (·.1)) (T.map (·.2))
 |[],_=> .nil
 |t::T,h=> .cons (h t (List.mem_cons_self ..)) (ZnF fun z hz=>h z (List.mem_cons_of_mem _ hz))
theorem ZkA{H:Hp}{xs:List Ze3}{us:List V}(h:Paired (Zc4 H) xs us){zs:List (V×Int)}(p:zs.Perm (us.zip (xs.map (·.1))))(o:zs.Pairwise fun a b=>ZaN b.2 a.2=false):
  ∃ys:List Ze3,ys.Perm xs/\Paired (Zc4 H) ys (zs.map (·.1))/\ys.Pairwise fun a b=>a.1<=b.1:=by
 obtain⟨T,pt,rfl⟩:=Zgv p _ (ZlN h);obtain⟨e1,e2⟩:=ZlO h;refine⟨T.map (·.1),by have:=pt.map (·.1);rwa [e1] at this, ?_, ?_⟩
 ·rw[List.map_map];exact ZnF fun t ht=>e2 t (pt.mem_iff.mp ht)
 ·rw[List.pairwise_map] at o⊢
  exact o.imp fun{a b} h=>Int.not_lt.mp fun z=>by
   have h:decide (b.1.1<a.1.1)=false:=h;rw[decide_eq_true z] at h
   cases h
theorem Zal:ZC ["day","spans","free","laid","lifted"] ["day","spans"] (Zt ZdR):=⟨rfl,rfl,rfl,by decide+kernel,rfl,by decide+kernel,by decide+kernel⟩
theorem ZkB{f:Addr}{fd:FuncData}(F:Fun K "free_from" "free_from" ZdR f fd)(T:Txt K mg Zh Zf Zg Zb Zo)(Zeb:Cal P w K mg base CX0 1 "beginning" ["span"] Zbm):Yl P w K mg base CX0 4 f fd ["day","spans"] Zdl:=by
 refine F.ok Zal (fun vs H Q E h=> ?_) (fun cdv A outer s H vs Q E hr h=> ?_)
 ·obtain⟨d,l,us,spans,rfl,_⟩:=h
  rfl
 ·obtain⟨d,l,us,xs,rfl,hl,pr,few,q⟩:=h;have l5:=Xe;have le:=Paired.length pr;refine⟨_,(Ze (Zu (i:=2) Zal.nd rfl (Or.inl rfl) (pv 0)) (Ze (Xi PassesOwn.never rfl (Yb (ZmN ZfQ Zeb (hr.mono (by omega)) (by rfl) T.z_sorted (by rfl) (Za (pv 1) Zj))) (Zgf rfl (Xp (ZF (i:=3) Zal.nd rfl (Or.inl rfl)) (Xp (ZF (i:=4) Zal.nd rfl (Or.inl rfl)) ZcZ))) (Ze (ZZ (PW.pt (Xz (Zq ZoT (pv 3) (pv 2) (Zv _)) (YX (Zq Zcd (pv 4) YB (Zv _))))) (Zn (Zz YB)) ZD) (Zn (ZZ (PW.pt (Xz (Zq ZoT (pv 3) (pv 2) (Zv _)) (YX (Zq ZeS (pv 4) (pv 2) (Zv _))))) (Zn (Zu (i:=2) Zal.nd rfl (Or.inl rfl) (pv 4))) ZD)))) (Zn (Zz (pv 2))))), ?_⟩
  refine⟨_,rfl,_,rfl,l,us,rfl,SqL.of hl,by omega,Zid [] H pr fun H2 s2=>⟨xs.map (·.1),Zju xs,fun zs pz oz D hD=> ?_⟩⟩;obtain⟨ys,py,pys,oy⟩:=ZkA (Za2 (fun b xs e=>s2 _ _ e) pr) pz oz;have s3:=s2.trans (Zk hD (o:=.lst (zs.map (·.1))));have pys:=Za2 (fun b xs e=>Zk hD (o:=.lst (zs.map (·.1))) _ _ e) pys;have hD3:upd H2 D (.lst (zs.map (·.1))) D=some (.lst (zs.map (·.1))):=Zc;generalize upd H2 D (.lst (zs.map (·.1)))=H3 at s3 pys hD3
  generalize zs.map (·.1)=vs at pys hD3
  have ly:=Paired.length pys;refine⟨D,rfl,⟨_,SqL.of hD3⟩,YH (xs:=vs) (fun i σ H'=>∃(f:Int) (v3 v4:Option V),σ=[some (.int d),some (.ref l),some (.int f),v3,v4]/\H'=H3/\d<=f/\(∀x,d<=x->x<f->∃s∈ys,Ze4 x s)/\∀s∈ys.take i,(∃b,s.2=some b/\b<=f)\/f<s.1) ?_ ?_ ?_ ?_⟩
  ·exact⟨d,none,none,rfl,rfl,Int.le_refl _,fun x a b=>absurd a (by omega),fun s hs=>nomatch hs⟩
  ·rintro i σ H4 _ ⟨f,v3,v4,rfl,rfl,_⟩;exact SqL.of hD3
  ·rintro i x σ H4 hx ⟨f,v3,v4,rfl,rfl,df,cov,past⟩;obtain⟨⟨a,o⟩,p,ey,rfl,row⟩:=ZnE pys i x hx;have mem:(a,o)∈ys:=List.mem_of_getElem? ey;have tk:ys.take (i+1)=ys.take i++[(a,o)]:=by rw[List.take_add_one,ey];rfl
   have before:∀s∈ys.take i,s.1<=a:=fun s hs=>by
    have hi:i<ys.length:=(List.getElem?_eq_some_iff.mp ey).1;have ei:ys[i]=(a,o):=(List.getElem?_eq_some_iff.mp ey).2;obtain⟨k,hk,e⟩:=List.getElem_of_mem hs;have hk2:k<i:=by
     rw[List.length_take] at hk
     omega
    rw[List.getElem_take] at e
    have:=List.pairwise_iff_getElem.mp oy k i (by omega) hi hk2;rw[e,ei] at this
    exact this
   have row:H4 p=some (.tup [.int a,oV o]):=row;refine⟨p,_,rfl,SqT.of row,rfl,_,_,rfl,_,_,rfl,rfl, ?_⟩;refine⟨_,rfl,_,rfl,_,_,rfl,rfl,_,rfl,YQ (fun e1=> ?_) (fun e1=> ?_)⟩
   ·have e1:a<=f:=of_decide_eq_true e1;cases o with
    |none=>
     refine⟨_,rfl,rfl,_,rfl,Zcl rfl (q none _ s3 fun x hx=> ?_)⟩
     by_cases lt:x<f
     ·obtain⟨s,hs,c⟩:=cov x hx lt;exact⟨s,py.mem_iff.mp hs,c⟩
     ·exact⟨(a,none),py.mem_iff.mp mem,by show a<=x;omega,fun b z=>nomatch z⟩
    |some b=>
     refine⟨_,rfl,rfl,_,rfl,YJ (fun z=>nomatch z) ?_⟩;refine⟨_,rfl,_,rfl,_,_,rfl,rfl,_,rfl,Zcl e1 ⟨_,rfl,_,rfl,_,_,rfl,rfl,_,rfl,YQ (fun e2=> ?_) (fun e2=> ?_)⟩⟩
     ·have e2:f<b:=of_decide_eq_true e2;refine⟨_,rfl,b,_,_,rfl,rfl,by omega,fun x hx lt=> ?_,fun s hs=> ?_⟩
      ·by_cases l2:x<f
       ·exact cov x hx l2
       ·exact⟨(a,some b),mem,by show a<=x;omega,fun b' z=>by injection z with z;omega⟩
      ·rw[tk] at hs
       rcases List.mem_append.mp hs with old|new
       ·rcases past s old with ⟨b',z1,z2⟩|z
        ·exact .inl ⟨b',z1,by omega⟩
        ·have:=before s old;omega
       ·rw[List.mem_singleton.mp new];exact .inl ⟨b,rfl,Int.le_refl _⟩
     ·have e2:¬f<b:=fun z=>e2 (decide_eq_true z);refine⟨f,_,_,rfl,rfl,df,cov,fun s hs=> ?_⟩;rw[tk] at hs
      rcases List.mem_append.mp hs with old|new
      ·exact past s old
      ·rw[List.mem_singleton.mp new];exact .inl ⟨b,rfl,by omega⟩
   ·have e1':¬a<=f:=fun z=>e1 (decide_eq_true z);refine Yt ⟨_,rfl,_,rfl,_,_,rfl,rfl,_,rfl,YJ e1' (Yt ⟨f,_,_,rfl,rfl,df,cov,fun s hs=> ?_⟩)⟩;rw[tk] at hs
    rcases List.mem_append.mp hs with old|new
    ·exact past s old
    ·rw[List.mem_singleton.mp new];exact .inr (by show f<a;omega)
  ·rintro σ H4 ⟨f,v3,v4,rfl,rfl,df,cov,past⟩;rw[<-ly,List.take_length] at past
   refine⟨_,rfl,q (some f) _ s3 ⟨df,fun s hs c=> ?_,fun x hx lt=> ?_⟩⟩
   ·rcases past s (py.mem_iff.mpr hs) with ⟨b,z1,z2⟩|z
    ·have:=c.2 b z1;omega
    ·have:=c.1;omega
   ·obtain⟨s,hs,c⟩:=cov x hx lt;exact⟨s,py.mem_iff.mp hs,c⟩
theorem Zsa(ws:List Rw)(r:Str)(x:Int):ZR (ZQ ws r) x=(ZR ws x).filter (Jy r):=by
 unfold ZR ZQ;rw[List.filter_filter,List.filter_filter]
 congr 1
 funext w
 exact Bool.and_comm ..
theorem ZkC{r:Str}:∀{w:Rw},Jy r w=false->ZcM r w=false/\Ze0 r w=none/\∀l,XM r l w=l
 | .put x s d,h=>by
  have h:¬x=r:=of_decide_eq_false h;exact⟨decide_eq_false h,if_neg h,fun l=>if_neg h⟩
 | .move x s d,h=>by
  have h:¬x=r:=of_decide_eq_false h;exact⟨rfl,if_neg h,fun l=>rfl⟩
 | .deed x s d,h=>by
  have h:¬x=r:=of_decide_eq_false h;exact⟨rfl,rfl,fun l=>if_neg h⟩
 | .lift _ _,_=>⟨rfl,rfl,fun _=>rfl⟩
 | .hold _ _ _ _,_=>⟨rfl,rfl,fun _=>rfl⟩
theorem ZkD(r:Str):∀us:List Rw,Xm (us.filter (Jy r)) r=Xm us r
 |[]=>rfl
 |w::us=>by
  have ih:=ZkD r us;cases e:Jy r w with
  |true=>
   rw[List.filter_cons_of_pos e];show(ZcM r w||Xm (us.filter (Jy r)) r)=(ZcM r w||Xm us r);rw[ih]
  |false=>
   rw[List.filter_cons_of_neg (by rw[e];exact Bool.false_ne_true),ih]
   show Xm us r=(ZcM r w||Xm us r);rw[(ZkC e).1,Bool.false_or]
theorem Zjv(r:Str):∀us:List Rw,Yv (us.filter (Jy r)) r=Yv us r
 |[]=>rfl
 |w::us=>by
  have ih:=Zjv r us;unfold Yv at ih⊢
  cases e:Jy r w with
  |true=>
   rw[List.filter_cons_of_pos e];cases f:Ze0 r w with
   |none=>rw[List.filterMap_cons_none f,List.filterMap_cons_none f,ih]
   |some y=>rw[List.filterMap_cons_some f,List.filterMap_cons_some f,ih]
  |false=>rw[List.filter_cons_of_neg (by rw[e];exact Bool.false_ne_true),ih,List.filterMap_cons_none (ZkC e).2.1]
theorem Zie(r:Str):∀(us:List Rw) (l:Tb),(us.filter (Jy r)).foldl (XM r) l=us.foldl (XM r) l
 |[],_=>rfl
 |w::us,l=>by
  cases e:Jy r w with
  |true=>
   rw[List.filter_cons_of_pos e,List.foldl_cons,List.foldl_cons];exact Zie r us _
  |false=>
   rw[List.filter_cons_of_neg (by rw[e];exact Bool.false_ne_true),List.foldl_cons,(ZkC e).2.2 l]
   exact Zie r us l
theorem Zor{ws:List Rw}{r:Str}{s x:Int}(sx:s<=x)(h:∀w∈ZQ ws r,w.day<=x->w.day<=s):ZR (ZQ ws r) x=ZR (ZQ ws r) s:=by
 unfold ZR;refine List.filter_congr fun w hw=>decide_eq_decide.mpr ⟨h w hw,fun z=> ?_⟩;omega
theorem ZeH{ws:List Rw}{r:Str}{s x:Int}(e:ZR (ZQ ws r) x=ZR (ZQ ws r) s):Xm (ZR ws x) r=Xm (ZR (ZQ ws r) s) r/\Yv (ZR ws x) r=Yv (ZR (ZQ ws r) s) r/\Xr (ZR ws x) r=Xr (ZR (ZQ ws r) s) r:=by
 rw[<-e,Zsa];exact⟨(ZkD r _).symm,(Zjv r _).symm,(Zie r _ []).symm⟩
theorem ZlP{rs:List Sr}{ws:List Rw}{r:Str}(ro:Zdj rs ws):Zdj rs (ZQ ws r):=by
 have len:(ZQ ws r).length<=ws.length:=List.length_filter_le _ _;refine⟨Nat.le_trans len ro.len, ?_,fun q y hy=> ?_⟩
 ·have e:(ZQ ws r).filter Jv=[]:=List.filter_eq_nil_iff.mpr fun w hw=>by
   have:=(List.mem_filter.mp hw).2;cases w with
   |hold a b c d=>cases this
   |_=>exact Bool.false_ne_true
  rw[e]
  decide
 ·obtain⟨w,hw,e⟩:=List.mem_filterMap.mp hy;exact ro.ser q y (List.mem_filterMap.mpr ⟨w,(List.mem_filter.mp hw).1,e⟩)
theorem Zjw{h:Str}:∀(us:List Rw) (l:Tb) (o:Option Int),lk (us.foldl Jh l) h=o->
  (∀b,o=some b->(lk l h=some b\/Rw.lift h b∈us)/\(∀z,lk l h=some z->b<=z)/\∀d,Rw.lift h d∈us->b<=d)/\(o=none->lk l h=none/\∀d,Rw.lift h d∉us)
 |[],l,o,e=>⟨fun b z=>⟨.inl (e.trans z),fun y q=>by rw[show lk l h=o from e,z] at q;injection q with q;omega,fun d q=>nomatch q⟩,fun z=>⟨e.trans z,fun d q=>nomatch q⟩⟩
 |w::us,l,o,e=>by
  obtain⟨a,b⟩:=Zjw us _ o e;have step:(∃d,w=.lift h d/\lk (Jh l w) h=some (min d ((lk l h).getD d)))\/(lk (Jh l w) h=lk l h/\∀d,w≠.lift h d):=by
   cases w with
   |lift h' d=>
    by_cases z:h'=h
    ·subst z;exact .inl ⟨d,rfl,by show lk (ZeL l h' _) h'=_;rw[M4.Zpp,if_pos rfl]⟩
    ·exact .inr ⟨by show lk (ZeL l h' _) h=_;rw[M4.Zpp,if_neg (Ne.symm z)],fun d' q=>z (by injection q)⟩
   |_=>exact .inr ⟨rfl,fun d q=>nomatch q⟩
  rcases step with ⟨d,rfl,s⟩|⟨s,no⟩
  ·rw[s] at a b
   refine⟨fun c z=> ?_,fun z=>nomatch (b z).1⟩;obtain⟨a1,a2,a3⟩:=a c z;have a2:=a2 _ rfl;refine⟨?_,fun y q=> ?_,fun d' q=> ?_⟩
   ·cases a1 with
    |inr a1=>exact .inr (List.mem_cons_of_mem _ a1)
    |inl a1=>
     injection a1 with a1
     cases q:lk l h with
     |none=>
      rw[q] at a1
      have a1:min d d=c:=a1;exact .inr (by rw[<-a1,Int.min_self];exact List.mem_cons_self ..)
     |some u=>
      rw[q] at a1
      have a1:min d u=c:=a1
      by_cases le:d<=u
      ·exact .inr (by rw[<-a1,Int.min_eq_left le];exact List.mem_cons_self ..)
      ·exact .inl (by rw[<-a1,Int.min_eq_right (by omega)])
   ·rw[q] at a2
    have a2:c<=min d y:=a2;omega
   ·have a4:c<=d:=Int.le_trans a2 (Int.min_le_left ..);cases q with
    |head=>exact a4
    |tail _ q=>exact a3 d' q
  ·rw[s] at a b
   refine⟨fun c z=> ?_,fun z=> ?_⟩
   ·obtain⟨a1,a2,a3⟩:=a c z;refine⟨a1.imp id fun q=>List.mem_cons_of_mem _ q,a2,fun d q=> ?_⟩;cases q with
    |head=>exact absurd rfl (no d)
    |tail _ q=>exact a3 d q
   ·obtain⟨b1,b2⟩:=b z;refine⟨b1,fun d q=> ?_⟩;cases q with
    |head=>exact absurd rfl (no d)
    |tail _ q=>exact b2 d q
theorem Zjx{ws:List Rw}{h:Str}{x:Int}:h∈Xj (ZR ws x)↔∃b,lk (JW ws) h=some b/\b<=x:=by
 obtain⟨a,b⟩:=Zjw ws [] (lk (JW ws) h) rfl
 constructor
 ·intro m;obtain⟨w,hw,e⟩:=List.mem_filterMap.mp m;obtain⟨hw,hd⟩:=List.mem_filter.mp hw;have hd:=of_decide_eq_true hd;cases w with
  |lift h' d=>
   obtain rfl:h'=h:=by injection e
   cases q:lk (JW ws) h' with
   |none=>exact absurd hw ((b q).2 d)
   |some c=>exact⟨c,rfl,Int.le_trans ((a c q).2.2 d hw) hd⟩
  |_=>cases e
 ·rintro⟨c,q,le⟩;rcases(a c q).1 with z|z
  ·cases z
  ·exact List.mem_filterMap.mpr ⟨.lift h c,List.mem_filter.mpr ⟨z,decide_eq_true le⟩,rfl⟩
theorem Zif{ws:List Rw}{r:Str}{line:List Str}{x:Int}:Yz (ZR ws x) r line=[]↔∀s∈Zc5 ws r line,¬Ze4 x s:=by
 unfold Yz;rw[List.map_eq_nil_iff,List.filter_eq_nil_iff]
 constructor
 ·intro h s hs c;obtain⟨w,hw,e⟩:=List.mem_filterMap.mp hs;cases w with
  |hold a b n d=>
   have e:(if Zae r line (.hold a b n d)=true then some (d,lk (JW ws) a) else none)=some s:=e
   by_cases ld:Zae r line (.hold a b n d)=true
   ·rw[if_pos ld] at e
    obtain rfl:=Option.some.inj e;refine h (.hold a b n d) (List.mem_filter.mpr ⟨List.mem_filter.mpr ⟨hw,decide_eq_true c.1⟩,decide_eq_true fun z=> ?_⟩) ld;obtain⟨b',q,le⟩:=Zjx.mp z;have:=c.2 b' q;omega
   ·rw[if_neg ld] at e
    cases e
  |_=>cases e
 ·intro h w hw ld;obtain⟨hw,st⟩:=List.mem_filter.mp hw;obtain⟨hw,hd⟩:=List.mem_filter.mp hw;obtain⟨a,b,n,d,rfl⟩:=ZaA st;have st:a∉Xj (ZR ws x):=of_decide_eq_true st;refine h (d,lk (JW ws) a) (List.mem_filterMap.mpr ⟨_,hw,if_pos ld⟩) ⟨of_decide_eq_true hd,fun b' q=>Int.not_le.mp fun z=>st (Zjx.mpr ⟨b',q,z⟩)⟩
theorem ZlQ{o:Option Int}{n:Nat}{x:Int}:Jx o n x="due"↔∃D,o=some D/\D<=x/\n=0:=by
 have k1:¬Str.ofString "kept"=Str.ofString "due":=by decide+kernel
 have k2:¬Str.ofString "held"=Str.ofString "due":=by decide+kernel
 cases o with
 |none=>exact⟨fun z=>absurd z k1,fun⟨_,z,_⟩=>nomatch z⟩
 |some D=>
  show(if x<D then Str.ofString "kept" else if 0<n then Str.ofString "held" else Str.ofString "due")=Str.ofString "due"↔_
  by_cases h:x<D
  ·rw[if_pos h];exact⟨fun z=>absurd z k1,fun⟨_,z,le,_⟩=>by injection z with z;omega⟩
  ·rw[if_neg h]
   by_cases g:0<n
   ·rw[if_pos g];exact⟨fun z=>absurd z k2,fun⟨_,_,_,z⟩=>by omega⟩
   ·rw[if_neg g];exact⟨fun _=>⟨D,rfl,by omega,by omega⟩,fun _=>rfl⟩
theorem Zig{rs:List Sr}{ws:List Rw}{r:Str}{x:Int}(h:Xm (ZR ws x) r=false):¬Zah rs ws r x:=fun⟨j,is,e⟩=>by
 rw[is.no h] at e
 exact absurd e (by decide+kernel:¬Str.ofString "absent"=Str.ofString "due")
theorem ZqW{rs:List Sr}{ws:List Rw}{r:Str}{x:Int}{y:Xd}{r0:Sr}{t:Tr}(h:Xm (ZR ws x) r=true)(top:Top (Yv (ZR ws x) r) y)(ow:Zfe rs.reverse (some y.2)=some r0)(ht:r0.tm=some t):
  Zah rs ws r x↔∃D,t.due (Xr (ZR ws x) r)=some D/\D<=x/\∀s∈Zc5 ws r (Za5 rs.reverse (some y.2)),¬Ze4 x s:=by
 constructor
 ·rintro⟨j,is,e⟩;obtain⟨y',r0',t',top',ow',ht',e4,e5,e6,e7,e8,e9⟩:=is.yes h;obtain rfl:=top.one top';obtain rfl:r0=r0':=by rw[ow] at ow';injection ow'
  obtain rfl:t=t':=by rw[ht] at ht';injection ht'
  obtain⟨D,q,le,n0⟩:=ZlQ.mp (e9.symm.trans e);have em:j.holds=[]:=List.eq_nil_of_length_eq_zero n0;rw[em] at e7
  exact⟨D,e6.symm.trans q,le,Zif.mp e7.symm.eq_nil⟩
 ·rintro⟨D,q,le,no⟩;refine⟨⟨"due",some y.2,some r0.nm,some D,[]⟩,⟨fun z=> ?_,fun _=>⟨y,r0,t,top,ow,ht,rfl,rfl,q.symm, ?_,rfl,(ZlQ.mpr ⟨D,rfl,le,rfl⟩).symm⟩⟩,rfl⟩
  ·rw[h] at z
   cases z
  ·rw[Zif.mpr no]
theorem Zn0{c A B:Prop} [Decidable c](hc:c)(h:B):if(!decide c)=true then A else B:=by
 rw[decide_eq_true hc];exact h
theorem ZqX{rs:List Sr}{ws:List Rw}{r:Str}{s:Int}{j:Jd}(is:IsJ rs (ZQ ws r) r s j):(j.due=none->∀x,ZR (ZQ ws r) x=ZR (ZQ ws r) s->¬Zah rs ws r x)/\
  ∀D,j.due=some D->∃y:Xd,j.ser=some y.2/\y∈Yv (ZQ ws r) r/\∀x,ZR (ZQ ws r) x=ZR (ZQ ws r) s->(Zah rs ws r x↔D<=x/\∀p∈Zc5 ws r (Za5 rs.reverse (some y.2)),¬Ze4 x p):=by
 cases ip:Xm (ZR (ZQ ws r) s) r with
 |false=>
  rw[is.no ip];exact⟨fun _ x e=>Zig ((ZeH e).1.trans ip),fun D z=>nomatch z⟩
 |true=>
  obtain⟨y,r0,t,top,ow,ht,e4,e5,e6,_⟩:=is.yes ip;have key:∀x,ZR (ZQ ws r) x=ZR (ZQ ws r) s->(Zah rs ws r x↔∃D,j.due=some D/\D<=x/\∀p∈Zc5 ws r (Za5 rs.reverse (some y.2)),¬Ze4 x p):=fun x e=>by
   obtain⟨a1,a2,a3⟩:=ZeH e;rw[ZqW (a1.trans ip) (by rw[a2];exact top) ow ht,a3,e6]
  refine⟨fun z x e d=> ?_,fun D z=>⟨y,e4,Zgu top.1,fun x e=> ?_⟩⟩
  ·obtain⟨D,q,_⟩:=(key x e).mp d;rw[z] at q
   cases q
  ·rw[key x e,z];exact⟨fun⟨D',q,a,b⟩=>by injection q with q;exact⟨q▸a,b⟩,fun⟨a,b⟩=>⟨D,rfl,a,b⟩⟩
structure ZbN (ws:List Rw) (r:Str) (day:Int) (S:List Int):Prop where
 asc:S.Pairwise (· <= ·)
 mem:∀z,z∈S↔z=day\/∃w∈ZQ ws r,day<w.day/\w.day=z
theorem ZbN.le{ws:List Rw}{r:Str}{day:Int}{S:List Int}(h:ZbN ws r day S){s:Int}(hs:s∈S):day<=s:=by
 rcases(h.mem s).mp hs with e|⟨w,_,a,b⟩<;>omega
theorem ZbN.up{ws:List Rw}{r:Str}{day:Int}{S:List Int}(h:ZbN ws r day S){i:Nat}{s x:Int}(ei:S[i]? =some s)(sx:s<=x)(nx:∀e,S[i+1]? =some e->x<e):ZR (ZQ ws r) x=ZR (ZQ ws r) s:=by
 refine Zor sx fun w hw le=> ?_;obtain⟨hi,es⟩:=List.getElem?_eq_some_iff.mp ei
 by_cases g:day<w.day
 ·have m:w.day∈S:=(h.mem _).mpr (.inr ⟨w,hw,g,rfl⟩);obtain⟨k,hk,ek⟩:=List.getElem_of_mem m;rcases Nat.lt_trichotomy k i with z|z|z
  ·have:=List.pairwise_iff_getElem.mp h.asc k i hk hi z;omega
  ·subst z;omega
  ·have h1:i+1<S.length:=by omega
   have lt:=nx _ (List.getElem?_eq_getElem h1);have:S[i+1]<=S[k]:=by
    rcases Nat.lt_or_eq_of_le (show i+1<=k from z) with q|q
    ·exact List.pairwise_iff_getElem.mp h.asc (i+1) k h1 hk q
    ·subst q;exact Int.le_refl _
   omega
 ·have:=h.le (List.mem_of_getElem? ei);omega
def Zjy(rs:List Sr)(ws:List Rw)(r:Str)(day:Int)(S:List Int)(i:Nat):Prop:=∀x,day<=x->(∀s,S[i]? =some s->x<s)->¬Zah rs ws r x
theorem ZbN.zero{rs:List Sr}{ws:List Rw}{r:Str}{day:Int}{S:List Int}(h:ZbN ws r day S):Zjy rs ws r day S 0:=fun x dx nx=>by
 obtain⟨k,hk,ek⟩:=List.getElem_of_mem ((h.mem day).mpr (.inl rfl));have lt:=nx S[0] (List.getElem?_eq_getElem (by omega));have:S[0]<=S[k]:=by
  rcases Nat.eq_zero_or_pos k with z|z
  ·subst z;exact Int.le_refl _
  ·exact List.pairwise_iff_getElem.mp h.asc 0 k (by omega) hk z
 omega
theorem ZbN.step{rs:List Sr}{ws:List Rw}{r:Str}{day:Int}{S:List Int}(h:ZbN ws r day S){i:Nat}{s:Int}(ei:S[i]? =some s)(a:Zjy rs ws r day S i)(b:∀x,s<=x->(∀e,S[i+1]? =some e->x<e)->¬Zah rs ws r x):Zjy rs ws r day S (i+1):=fun x dx nx=>by
 by_cases g:x<s
 ·exact a x dx fun s' e=>by rw[ei] at e;injection e with e;omega
 ·exact b x (by omega) nx
theorem ZbN.found{rs:List Sr}{ws:List Rw}{r:Str}{day:Int}{S:List Int}(h:ZbN ws r day S){i:Nat}{s f:Int}(ei:S[i]? =some s)(a:Zjy rs ws r day S i)(sf:s<=f)(df:Zah rs ws r f)(b:∀x,s<=x->x<f->¬Zah rs ws r x):XN rs ws r day (some f):=by
 have:=h.le (List.mem_of_getElem? ei);refine⟨by omega,df,fun x dx lt=> ?_⟩
 by_cases g:x<s
 ·exact a x dx fun s' e=>by rw[ei] at e;injection e with e;omega
 ·exact b x (by omega) lt
theorem in3(z:Str):inV (.str z) [.str "put",.str "move",.str "deed"]=decide (z∈[Str.ofString "put",Str.ofString "move",Str.ofString "deed"]):=Zhp z [Str.ofString "put",Str.ofString "move",Str.ofString "deed"]
theorem ZpW{z:Str}(a:¬Str.ofString "put"=z)(b:¬Str.ofString "move"=z)(c:¬Str.ofString "deed"=z):inV (.str z) [.str "put",.str "move",.str "deed"]=false:=by
 rw[in3];refine decide_eq_false fun h=> ?_;obtain e|h2:=List.mem_cons.mp h
 ·exact a e.symm
 ·obtain e|h3:=List.mem_cons.mp h2
  ·exact b e.symm
  ·exact c (List.mem_singleton.mp h3).symm
theorem Zn1{r:Str}:∀{w:Rw},Jy r w=(inV (.str w.word) [.str "put",.str "move",.str "deed"]&&decide (w.one=r))
 | .put x s d=>by
  rw[show inV (.str (Rw.put x s d).word) [.str "put",.str "move",.str "deed"]=true from(in3 _).trans (decide_eq_true (List.mem_cons_self ..)),Bool.true_and]
  rfl
 | .move x s d=>by
  rw[show inV (.str (Rw.move x s d).word) [.str "put",.str "move",.str "deed"]=true from(in3 _).trans (decide_eq_true (List.mem_cons_of_mem _ (List.mem_cons_self ..))),Bool.true_and]
  rfl
 | .deed x s d=>by
  rw[show inV (.str (Rw.deed x s d).word) [.str "put",.str "move",.str "deed"]=true from(in3 _).trans (decide_eq_true (List.mem_cons_of_mem _ (List.mem_cons_of_mem _ (List.mem_cons_self ..)))),Bool.true_and]
  rfl
 | .lift h d=>by
  rw[show inV (.str (Rw.lift h d).word) [.str "put",.str "move",.str "deed"]=false from ZpW Zi6 Zjs ZlA]
  rfl
 | .hold h c n d=>by
  rw[show inV (.str (Rw.hold h c n d).word) [.str "put",.str "move",.str "deed"]=false from ZpW ZgV Zi7 Zi8]
  rfl
def Zfn(day:Int)(w:Rw):List V:=if day<w.day then[V.int w.day] else[]
theorem Zih(day:Int):∀us:List Rw,us.flatMap (Zfn day)=((us.filter fun w=>decide (day<w.day)).map Rw.day).map V.int
 |[]=>rfl
 |w::us=>by
  rw[List.flatMap_cons,Zih day us];unfold Zfn
  by_cases h:day<w.day
  ·rw[if_pos h,List.filter_cons_of_pos (by exact decide_eq_true h)]
   rfl
  ·rw[if_neg h,List.filter_cons_of_neg (by exact fun z=>h (of_decide_eq_true z))]
   rfl
theorem Zos{r:Str}:∀{w:Rw},Jy r w=true->atI w.vs 3=some (.int w.day)
 | .put _ _ _,_=>rfl
 | .move _ _ _,_=>rfl
 | .deed _ _ _,_=>rfl
 | .lift _ _,h=>nomatch h
 | .hold _ _ _ _,h=>nomatch h
theorem Zii{H:Hp}:∀ns:List Int,Paired (Zpz H) ns (ns.map V.int)
 |[]=> .nil
 |n::ns=> .cons rfl (Zii ns)
theorem ZlR:∀ns:List Int,(ns.map V.int).zip ns=ns.map fun n=>(V.int n,n)
 |[]=>rfl
 |n::ns=>congrArg (List.cons _) (ZlR ns)
theorem Zec{ns:List Int}{zs:List (V×Int)}(p:zs.Perm ((ns.map V.int).zip ns))(o:zs.Pairwise fun a b=>ZaN b.2 a.2=false):∃S:List Int,S.Perm ns/\zs.map (·.1)=S.map V.int/\S.Pairwise (· <= ·):=by
 obtain⟨S,ps,rfl⟩:=Zgv p _ (ZlR ns);refine⟨S,ps,by rw[List.map_map];rfl, ?_⟩
 rw[List.pairwise_map] at o
 exact o.imp fun{a b} h=>Int.not_lt.mp fun z=>by
  have h:decide (b<a)=false:=h;rw[decide_eq_true z] at h
  cases h
theorem ZnG{S:List Int}{i:Nat}(h:i<S.length):((S.drop 1).map V.int++[V.non])[i]? =some (oV S[i+1]?):=by
 by_cases g:i+1<S.length
 ·rw[List.getElem?_append_left (by rw[List.length_map,List.length_drop];omega),List.getElem?_map,List.getElem?_drop,Nat.add_comm 1 i,List.getElem?_eq_getElem g]
  rfl
 ·rw[List.getElem?_append_right (by rw[List.length_map,List.length_drop];omega),List.getElem?_eq_none (show S.length<=i+1 by omega),List.length_map,List.length_drop,show i-(S.length-1)=0 by omega]
  rfl
theorem ZlS(xs:List V):Jr xs (some 1) none=xs.drop 1:=by
 unfold Jr;rw[HT.Zla,show(1:Int)=((1:Nat):Int) from rfl,HT.Zez,List.take_of_length_le (by rw[List.length_drop];omega)]
 by_cases h:1<=xs.length
 ·rw[Nat.min_eq_left h]
 ·have lt:xs.length<=1:=Nat.le_of_not_le h;rw[Nat.min_eq_right lt,List.drop_length,List.drop_of_length_le lt]
theorem XQ:ZC ["book","rows","record","day","own","starts","start","end","told","spans","first"] ["book","rows","record","day"] (Zt ZdQ):=⟨rfl,rfl,rfl,by decide+kernel,rfl,by decide+kernel,by decide+kernel⟩
theorem ZkE{f:Addr}{fd:FuncData}(F:Fun K "first_due" "first_due" ZdQ f fd)(T:Txt K mg Zh Zf Zg Zb Zo)(Zed:Cal P w K mg base CX0 4 "free_from" ["day","spans"] Zdl)(Zam:Cal P w K mg base CX0 14 "judged" ["book","rows","record","day"] (ZcO Zh Zf Zg Zb))(Zbv:Cal P w K mg base CX0 1 "line_of" ["book","name"] (Zdg Zh Zf Zg Zb))(Zfo:Cal P w K mg base CX0 2 "spans_on" ["rows","record","line"] Ze5):Yl P w K mg base CX0 15 f fd ["book","rows","record","day"] (Zdm Zh Zf Zg Zb):=by
 refine F.ok XQ (fun vs H Q E h=> ?_) (fun cdv A outer s H vs Q E hr h=> ?_)
 ·obtain⟨p,q',rs,ws,rec,day,rfl,_⟩:=h
  rfl
 ·obtain⟨p,q',rs,ws,rec,day,rfl,bat,bk,lr,⟨ds,hq,pr⟩,few,q⟩:=h;have l5:=Xe;have hu3:=Zk5 hr;have ok:=few.ok;have lw:=few.few;have le:=Paired.length pr;have lz:(ds.zip ws).length=ds.length:=by rw[List.length_zip];omega
  have told:∀o H',Zy H H'->XN rs ws rec day o->Q (oV o) H':=fun o H' s fd=>by
   have e:=ZpE fd;have z:=q H' s (by rw[e];exact fd)
   rwa [e] at z
  refine⟨_,(Ze (ZeC (i:=4) ["row"] [("record",2)] XQ.nd rfl (Or.inl rfl) rfl (Yb (pv 1)) (by rfl) (by exact⟨rfl,trivial⟩) (by rfl) (by exact⟨⟨rfl,rfl,rfl⟩,trivial⟩) (fun _ _ _ _=>(ZF (i:=0) (show(nmY ["row"] [("record",2)]).Nodup by decide+kernel) rfl (Or.inl rfl))) (fun _ _ _ _=>(Jw (PW.pt (Xz (Zq (ZhQ (K:=K) rfl) (Zx (Yu (K:=K) rfl) (pv 0) Zi (fun _ _=>rfl)) (YK (Za ZK (Za ZK (Za ZK Zj)))) rfl) (YX (Zq Ym (Zx (Yu (K:=K) rfl) (pv 0) Zi (fun _ _=>rfl)) (pv 1) (Zv _))))))) (fun _ _ _ _=>(pv 0))) (Ze (Zu (i:=5) XQ.nd rfl (Or.inl rfl) (ZS (Zd9 ZfQ hu3) (by rfl) T.z_sorted Jt (Za (Zw Zd4 (Yk (Za (pv 3) Zj)) (Jc ["row"] [("day",3)] rfl (Yb (pv 4)) (by rfl) (by exact⟨rfl,trivial⟩) (by rfl) (by exact⟨⟨rfl,rfl,rfl⟩,trivial⟩) (fun _ _ _ _=>(ZF (i:=0) (show(nmY ["row"] [("day",3)]).Nodup by decide+kernel) rfl (Or.inl rfl))) (fun _ _ _ _=>(Jw (Zq ZeS (Zx (Yu (K:=K) rfl) (pv 0) Zi (fun _ _=>rfl)) (pv 1) (Zv _)))) (fun _ _ _ _=>(Zx (Yu (K:=K) rfl) (pv 0) Zi (fun _ _=>rfl))))) Zj))) (Ze (Xi PassesOwn.never rfl (Zs4 (K:=K) rfl (by rfl) T.z_zip (Za (pv 5) (Za (Zw Zd4 (ZcC Zhh (pv 5) (Zc0 Zi) Zhg) (Yk (Za YB Zj))) Zj))) (Zgf rfl (Xp (ZF (i:=6) XQ.nd rfl (Or.inl rfl)) (Xp (ZF (i:=7) XQ.nd rfl (Or.inl rfl)) ZcZ))) (Ze (Zu (i:=8) XQ.nd rfl (Or.inl rfl) (ZV Zam (hr.mono (by omega)) rfl ZJ (Za (pv 0) (Za (pv 4) (Za (pv 2) (Za (pv 6) Zj)))))) (Zn (ZZ (Zq ZfH (Zx ZG (pv 8) Zi (fun _ _=>rfl)) YB (Zv _)) (Ze (Zu (i:=9) XQ.nd rfl (Or.inl rfl) (ZV Zfo (hr.mono (by omega)) rfl ZJ (Za (pv 1) (Za (pv 2) (Za (ZV Zbv (hr.mono (by omega)) rfl ZJ (Za (pv 0) (Za (Zx ZG (pv 8) Zi (fun _ _=>rfl)) Zj))) Zj))))) (Ze (Zu (i:=10) XQ.nd rfl (Or.inl rfl) (ZV Zed (hr.mono (by omega)) rfl ZJ (Za (ZS (Zgg rfl) (by rfl) T.z_max Zk2 (Za (pv 6) (Za (Zx ZG (pv 8) Zi (fun _ _=>rfl)) Zj))) (Za (pv 9) Zj)))) (Zn (ZZ (PW.pt (Xz (Zq ZfH (pv 10) YB (Zv _)) (YX (PW.pt (ZgO (Zq Zcd (pv 7) YB (Zv _)) (ZeX (Zq ZfG (pv 10) (pv 7) (Zv _)))))))) (Zn (Zz (pv 10))) ZD)))) ZD)))) (Zn (Zz YB))))), ?_⟩
  refine⟨_,rfl,q',rfl,⟨_,SqL.of hq⟩,Xa (ds.zip ws).length (fun j=>(((ds.zip ws)[j]?).map fun z=>if Jy rec z.2=true then[V.ref z.1] else[]).getD []) (by omega) (fun j=>Zi5) (fun j H2 s2 lt=>⟨_,_,SqL.of (s2 _ _ hq),List.getElem?_eq_getElem (by rw[List.length_map];omega)⟩) (fun H2 s2=>⟨_,SqL.of (s2 _ _ hq),by rw[List.length_map];omega⟩) (fun j y H2 H3 s2 lt yl RT RF rt rf=> ?_) fun O H1 hO s1 d1=> ?_⟩
  ·obtain⟨rfl,yl⟩:=yl;obtain⟨d,rfl,ed⟩:=Xb (yl _ (SqL.of (s2 _ _ hq)));obtain⟨w,ew,row⟩:=Ye (ZM s2 pr) j d ed;have row:H3 d=some (.tup w.vs):=row;rw[ZmU ed ew] at rt rf
   have rt:∀v H6,(if Jy rec w=true then[V.ref d] else[])=[v]->_:=rt;have rf:∀H5,(if Jy rec w=true then[V.ref d] else[])=[]->_:=rf;refine⟨⟨rfl,trivial⟩,ixT rfl (SqT.of row) (JX w) ⟨show 3<=sizeLine from sl,fun t ht=>⟨t,_,rfl,.inr (SqT.of Zc),rfl,rfl,_,rfl, ?_⟩⟩⟩;have st:=Zk ht (o:=.tup [.str "put",.str "move",.str "deed"]);have row4:=st _ _ row;generalize upd H3 t (.tup [.str "put",.str "move",.str "deed"])=H4 at st row4
   refine YQ (fun e3=>ixT rfl (SqT.of row4) (Zfi w) ⟨_,rfl,rfl,_,rfl,YQ (fun e=>⟨_,rfl,rt _ _ (if_pos ?_) st⟩) (fun e=>rf _ (if_neg fun z=>e ?_) st)⟩) (fun e3=>Yt (rf _ (if_neg ?_) st))
   ·have e3:inV (.str w.word) [.str "put",.str "move",.str "deed"]=true:=e3;rw[Zn1,e3,Bool.true_and];exact decide_eq_true (by injection of_decide_eq_true e)
   ·have e3:inV (.str w.word) [.str "put",.str "move",.str "deed"]=true:=e3;rw[Zn1,e3,Bool.true_and] at z
    exact decide_eq_true (congrArg V.str (of_decide_eq_true z))
   ·have e3:¬inV (.str w.word) [.str "put",.str "move",.str "deed"]=true:=e3;rw[Zn1,Bool.eq_false_iff.mpr e3];exact Bool.false_ne_true
  rw[Xq (fun z:Addr×Rw=>if Jy rec z.2=true then[V.ref z.1] else[]) (ds.zip ws)] at d1
  obtain⟨es,ee,pe⟩:=Zdn (Jy rec) (ZM s1 pr);rw[ee] at d1
  have pe:Paired (ZcL H1) es (ZQ ws rec):=pe;have lo:(ZQ ws rec).length<=ws.length:=List.length_filter_le _ _;have les:=Paired.length pe;refine⟨_,rfl,show 1<=sizeLine from sl,fun t1 ht1=> ?_⟩;have st1:=Zk ht1 (o:=.lst [.int day]);have d1':=st1 _ _ d1;have pe':=ZM st1 pe;refine⟨_,rfl,O,rfl,⟨_,SqL.of d1'⟩,Xa es.length (fun i=>(((ZQ ws rec)[i]?).map (Zfn day)).getD []) (by omega) (fun i=> ?_) (fun i H5 s5 lt=>⟨_,_,SqL.of (s5 _ _ d1'),List.getElem?_eq_getElem (by rw[List.length_map];exact lt)⟩) (fun H5 s5=>⟨_,SqL.of (s5 _ _ d1'),by rw[List.length_map];exact Nat.le_refl _⟩) (fun i z H5 H6 s5 lt yl RT RF rt rf=> ?_) fun D H5 hD s5 d5=> ?_⟩
  ·cases(ZQ ws rec)[i]? with
   |none=>exact Nat.zero_le _
   |some w=>
    show(Zfn day w).length<=1;unfold Zfn
    split
    ·exact Nat.le_refl _
    ·exact Nat.zero_le _
  ·obtain⟨rfl,yl⟩:=yl;obtain⟨d,rfl,ed⟩:=Xb (yl _ (SqL.of (s5 _ _ d1')));obtain⟨w,ew,row⟩:=Ye (ZM s5 pe') i d ed;have row:H6 d=some (.tup w.vs):=row;have w3:=Zos (List.mem_filter.mp (List.mem_of_getElem? ew)).2;rw[ew] at rt rf
   have rt:∀v H6,Zfn day w=[v]->_:=rt;have rf:∀H5,Zfn day w=[]->_:=rf;exact⟨⟨rfl,trivial⟩,ixT rfl (SqT.of row) w3 ⟨_,rfl,_,_,rfl,rfl,_,rfl,YQ (fun e=>ixT rfl (SqT.of row) w3 (rt _ _ (if_pos (of_decide_eq_true e)) (Zy.refl _))) (fun e=>rf _ (if_neg fun z=>e (decide_eq_true z)) (Zy.refl _))⟩⟩
  rw[les,Xq,Zih] at d5
  have lf:((ZQ ws rec).filter fun w=>decide (day<w.day)).length<=(ZQ ws rec).length:=List.length_filter_le _ _;refine⟨t1,D,_,_,rfl,rfl,SqL.of (s5 _ _ Zc),SqL.of d5, ?_,fun C hC=> ?_⟩
  ·rw[List.length_map,List.length_map];show 1+_<=sizeLine;omega
  have st5:=st1.trans (s5.trans (Zk hC (o:=.lst ([.int day]++(((ZQ ws rec).filter fun w=>decide (day<w.day)).map Rw.day).map V.int))));have hC5:upd H5 C (.lst ([.int day]++(((ZQ ws rec).filter fun w=>decide (day<w.day)).map Rw.day).map V.int)) C=some (.lst ((day::((ZQ ws rec).filter fun w=>decide (day<w.day)).map Rw.day).map V.int)):=Zc;generalize upd H5 C (.lst ([.int day]++(((ZQ ws rec).filter fun w=>decide (day<w.day)).map Rw.day).map V.int))=H6 at st5 hC5
  refine⟨C,_,_,rfl,SqL.of hC5,by rw[List.length_map,List.length_cons,List.length_map];omega,Zii _,fun zs pz oz St hSt=> ?_⟩
  obtain⟨S,pS,eS,oS⟩:=Zec pz oz;rw[eS];have sts:ZbN ws rec day S:=⟨oS,fun z=>by
   rw[pS.mem_iff,List.mem_cons,List.mem_map]
   constructor
   ·rintro(e|⟨w,hw,e⟩)
    ·exact .inl e
    ·exact .inr ⟨w,(List.mem_filter.mp hw).1,of_decide_eq_true (List.mem_filter.mp hw).2,e⟩
   ·rintro(e|⟨w,hw,g,e⟩)
    ·exact .inl e
    ·exact .inr ⟨w,List.mem_filter.mpr ⟨hw,decide_eq_true g⟩,e⟩⟩
  have lS:S.length<=61:=by
   rw[pS.length_eq,List.length_cons,List.length_map];omega
  have st6:=st5.trans (Zk hSt (o:=.lst (S.map V.int)));have hS7:upd H6 St (.lst (S.map V.int)) St=some (.lst (S.map V.int)):=Zc;generalize upd H6 St (.lst (S.map V.int))=H7 at st6 hS7
  refine⟨_,rfl,_,rfl,_,rfl,St,_,rfl,SqL.of hS7,fun a1 h1=>⟨show 1<=sizeLine from sl,fun a2 h2=>⟨a1,a2,_,_,rfl,rfl,SqL.of (Zk h2 _ _ Zc),SqL.of Zc, ?_,fun a3 h3=> ?_⟩⟩⟩
  ·rw[ZlS,List.length_drop,List.length_map];show _+1<=sizeLine;omega
  have st7:=st6.trans ((Zk h1 (o:=.lst (Jr (S.map V.int) (some 1) none))).trans ((Zk h2 (o:=.lst [V.non])).trans (Zk h3 (o:=.lst (Jr (S.map V.int) (some 1) none++[V.non])))));have sS8:=((Zk h1 (o:=.lst (Jr (S.map V.int) (some 1) none))).trans ((Zk h2 (o:=.lst [V.non])).trans (Zk h3 (o:=.lst (Jr (S.map V.int) (some 1) none++[V.non]))))) _ _ hS7;have hE8:upd (upd (upd H7 a1 (.lst (Jr (S.map V.int) (some 1) none))) a2 (.lst [V.non])) a3 (.lst (Jr (S.map V.int) (some 1) none++[V.non])) a3=some (.lst ((S.drop 1).map V.int++[V.non])):=by
   rw[Zc,ZlS,List.map_drop]
  generalize upd (upd (upd H7 a1 (.lst (Jr (S.map V.int) (some 1) none))) a2 (.lst [V.non])) a3 (.lst (Jr (S.map V.int) (some 1) none++[V.non]))=H8 at st7 sS8 hE8
  have s18:=s1.trans st7;have hO8:=st7 _ _ d1;have pe8:=ZM st7 pe;have lE:((S.drop 1).map V.int++[V.non]).length=S.length-1+1:=by rw[List.length_append,List.length_map,List.length_drop];rfl
  refine⟨St,a3,rfl,⟨_,SqL.of sS8⟩,⟨_,SqL.of hE8⟩,Zk4 (J:=Itz K St a3) (n:=S.length) (fun i σ H'=>∃v6 v7 v8 v9 v10:Option V,σ=[some (.ref p),some (.ref q'),some (.str rec),some (.int day),some (.ref O),some (.ref St),v6,v7,v8,v9,v10]/\Zy H8 H'/\Zjy rs ws rec day S i) ?_ ?_ ?_ ?_⟩
  ·exact⟨_,_,_,_,_,rfl,Zy.refl _,sts.zero⟩
  ·rintro i σ H9 hi ⟨v6,v7,v8,v9,v10,rfl,s9,_⟩;exact⟨_,_,_,_,SqL.of (s9 _ _ sS8),SqL.of (s9 _ _ hE8),List.getElem?_eq_getElem (by rw[List.length_map];exact hi),ZnG hi⟩
  ·rintro σ H9 ⟨v6,v7,v8,v9,v10,rfl,s9,ah⟩;refine⟨⟨_,_,SqL.of (s9 _ _ sS8),SqL.of (s9 _ _ hE8),.inl (by rw[List.length_map];exact Nat.le_refl _)⟩,told none _ (s18.trans s9) fun x dx=>ah x dx fun s e=> ?_⟩
   rw[List.getElem?_eq_none (Nat.le_refl _)] at e
   cases e
  ·rintro i x σ H9 H10 hi ⟨v6,v7,v8,v9,v10,rfl,s9,ah⟩ ⟨pp,x1,x2,hpp,hx1,hx2,rfl,rfl⟩;have hx1:=hx1 _ (SqL.of (s9 _ _ sS8));have hx2:=hx2 _ (SqL.of (s9 _ _ hE8));rw[ZnG hi] at hx2
   obtain rfl:=Option.some.inj hx2;have ei:S[i]? =some S[i]:=List.getElem?_eq_getElem hi;generalize S[i]=s at ei
   rw[List.getElem?_map,ei] at hx1
   obtain rfl:=Option.some.inj hx1;have s10:=s9.trans (Zk hpp (o:=.tup [.int s,oV S[i+1]?]));have hpp10:upd H9 pp (.tup [.int s,oV S[i+1]?]) pp=some (.tup [.int s,oV S[i+1]?]):=Zc;generalize upd H9 pp (.tup [.int s,oV S[i+1]?])=H10 at s10 hpp10
   have s110:=s18.trans s10;have upc:∀x,s<=x->(∀e,S[i+1]? =some e->x<e)->ZR (ZQ ws rec) x=ZR (ZQ ws rec) s:=fun x sx nx=>sts.up ei sx nx;refine⟨pp,_,rfl,SqT.of hpp10,rfl,_,_,rfl,_,_,rfl,rfl, ?_⟩;refine⟨_,rfl,_,rfl,_,rfl,_,rfl,p,O,rs,ZQ ws rec,rec,s,rfl,Jf s110 bat,bk,lr,⟨es,s10 _ _ hO8,ZM s10 pe8⟩,ZlP ok,fun ja j H11 hja0 s11 ⟨Lh,hja,hLh⟩ _ is=> ?_⟩;have s111:=s110.trans s11;have s811:=s10.trans s11
   obtain⟨dn,dy⟩:=ZqX is;cases hdue:j.due with
   |none=>
    rw[hdue] at hja
    exact ixT rfl (SqT.of hja) rfl ⟨rfl,_,rfl,Zn0 rfl ⟨_,_,_,_,_,rfl,s811,sts.step ei ah fun x sx nx=>dn hdue x (upc x sx nx)⟩⟩
   |some D=>
    obtain⟨y,ey,my,iff⟩:=dy D hdue;rw[hdue,ey] at hja
    have hyn:y.2∈rs.map Sr.nm:=(ZlP ok).ser rec y my;refine(ixT rfl (SqT.of hja) rfl ⟨rfl,_,rfl,Zny (fun z=>nomatch z) ?_⟩);refine⟨_,rfl,_,rfl,_,rfl,ixT rfl (SqT.of hja) rfl ⟨p,y.2,rs,rfl,Jf s111 bat,lr,fun L2 H12 hL2 s12 hl2=> ?_⟩⟩;have s112:=s111.trans s12;refine⟨q',L2,ws,rec,_,rfl,⟨ds,s112 _ _ hq,ZM s112 pr⟩,by omega,hl2,fun qs us H13 hqs s13 hus pus=> ?_⟩;have ja13:=s13 _ _ (s12 _ _ hja);have lsp:(Zc5 ws rec (Za5 rs.reverse (some y.2))).length<64:=by
     have:(Zc5 ws rec (Za5 rs.reverse (some y.2))).length<=ws.length:=List.length_filterMap_le ..;omega
    refine⟨_,rfl,ixT rfl (SqT.of ja13) rfl ⟨s,D,rfl,_,rfl,_,qs,us,_,rfl,hus,pus,lsp,fun o H14 s14 fr=> ?_⟩⟩;have s814:=s811.trans (s12.trans (s13.trans s14));rw[ZpS] at fr
    have next:(∀x,s<=x->(∀e,S[i+1]? =some e->x<e)->¬Zah rs ws rec x)->∃v6 v7 v8 v9 v10:Option V,[some (V.ref p),some (.ref q'),some (.str rec),some (.int day),some (.ref O),some (.ref St),some (.int s),some (oV S[i+1]?),some (.ref ja),some (.ref qs),some (oV o)]=[some (V.ref p),some (.ref q'),some (.str rec),some (.int day),some (.ref O),some (.ref St),v6,v7,v8,v9,v10]/\Zy H8 H14/\Zjy rs ws rec day S (i+1):=fun b=>⟨_,_,_,_,_,rfl,s814,sts.step ei ah b⟩
    cases o with
    |none=>
     refine⟨_,rfl,rfl,_,rfl,Zn0 rfl (Yt (next fun x sx nx d=> ?_))⟩;obtain⟨dx,no⟩:=(iff x (upc x sx nx)).mp d;obtain⟨sp,hs,c⟩:=fr x (Int.max_le.mpr ⟨sx,dx⟩);exact no sp hs c
    |some f=>
     obtain⟨mf,nof,cov⟩:=fr;have sf:s<=f:=Int.le_trans (Int.le_max_left ..) mf;have Df:D<=f:=Int.le_trans (Int.le_max_right ..) mf;have before:∀x,s<=x->(∀e,S[i+1]? =some e->x<e)->x<f->¬Zah rs ws rec x:=fun x sx nx lt d=>by
      obtain⟨dx,no⟩:=(iff x (upc x sx nx)).mp d;obtain⟨sp,hs,c⟩:=cov x (Int.max_le.mpr ⟨sx,dx⟩) lt;exact no sp hs c
     have yes:(∀e,S[i+1]? =some e->f<e)->Q (oV (some f)) H14:=fun nf=>told (some f) _ (s18.trans s814) (sts.found ei ah sf ((iff f (upc f sf nf)).mpr ⟨Df,nof⟩) fun x sx lt=>before x sx (fun e he=>Int.lt_trans lt (nf e he)) lt);refine⟨_,rfl,rfl,_,rfl,Zny (fun z=>nomatch z) ?_⟩;cases hend:S[i+1]? with
     |none=>exact⟨_,rfl,rfl,_,rfl,Zcl rfl (JZ ⟨_,rfl,yes fun e he=>by rw[hend] at he;cases he⟩)⟩
     |some e=>
      rw[hend] at next
      refine⟨_,rfl,rfl,_,rfl,YJ (fun z=>nomatch z) ⟨_,rfl,_,rfl,_,_,rfl,rfl,_,rfl,YQ (fun lt=>⟨_,rfl,yes fun e' he=> ?_⟩) (fun lt=>next fun x sx nx=> ?_)⟩⟩
      ·rw[hend] at he
       injection he with he
       have:f<e:=of_decide_eq_true lt;omega
      ·have ge:¬f<e:=fun z=>lt (decide_eq_true z);have:=nx e rfl;exact before x sx (fun e' he=>by rw[hend] at he;injection he with he;omega) (by omega)
def Zn2(w:Rw):List V:=match Zhn w with|some r=>[V.str r]|none=>[]
theorem Zjz:∀ws:List Rw,ws.flatMap Zn2=(YL ws).map V.str
 |[]=>rfl
 |w::ws=>by
  rw[List.flatMap_cons,Zjz ws];unfold Zn2 YL;cases e:Zhn w with
  |none=>rw[List.filterMap_cons_none e];rfl
  |some z=>rw[List.filterMap_cons_some e];rfl
theorem ZbO{H H':Hp}(s:∀b xs,H b=some (.tup xs)->H' b=some (.tup xs)):∀{ys:List Xd} {us:List V},Paired (Zai H) ys us->Paired (Zai H') ys us
 |_,_,.nil=> .nil
 |_,_,.cons ⟨p,e,h⟩ t=> .cons ⟨p,e,s _ _ h⟩ (ZbO s t)
theorem ZlT{K:PySem.W.Frag}{H:Hp}:∀{ys:List Xd} {us:List V},Paired (Zai H) ys us->Paired (Zau K H) ys us
 |_,_,.nil=> .nil
 |_,_,.cons ⟨p,e,h⟩ t=> .cons ⟨p,e,SqT.of h⟩ (ZlT t)
theorem ZjA{H:Hp}:∀{xs:List Xd} {us:List V},Paired (Zai H) xs us->us.zip xs=(xs.zip us).map fun t=>(t.2,t.1)
 |_,_,.nil=>rfl
 |_,_,.cons _ t=>congrArg (List.cons _) (ZjA t)
theorem ZjB{H:Hp}:∀{xs:List Xd} {us:List V},Paired (Zai H) xs us->(xs.zip us).map (·.1)=xs/\∀t∈xs.zip us,Zai H t.1 t.2
 |_,_,.nil=>⟨rfl,fun t h=>nomatch h⟩
 |_,_,.cons r t=>by
  obtain⟨a,b⟩:=ZjB t;refine⟨congrArg (List.cons _) a,fun z hz=> ?_⟩;cases hz with
  |head=>exact r
  |tail _ m=>exact b z m
theorem ZlU{H:Hp}:∀{T:List (Xd×V)},(∀t∈T,Zai H t.1 t.2)->Paired (Zai H) (T.map (·.1)) (T.map (·.2))
 |[],_=> .nil
 |t::T,h=> .cons (h t (List.mem_cons_self ..)) (ZlU fun z hz=>h z (List.mem_cons_of_mem _ hz))
theorem ZkF{H:Hp}{xs:List Xd}{us:List V}(h:Paired (Zai H) xs us){zs:List (V×Xd)}(p:zs.Perm (us.zip xs))(o:zs.Pairwise fun a b=>ZeM b.2 a.2=false):
  ∃ys:List Xd,ys.Perm xs/\Paired (Zai H) ys (zs.map (·.1))/\ys.Pairwise fun a b=>ZeM b a=false:=by
 obtain⟨T,pt,rfl⟩:=Zgv p _ (ZjA h);obtain⟨e1,e2⟩:=ZjB h;refine⟨T.map (·.1),by have:=pt.map (·.1);rwa [e1] at this, ?_, ?_⟩
 ·rw[List.map_map];exact ZlU fun t ht=>e2 t (pt.mem_iff.mp ht)
 ·rw[List.pairwise_map] at o⊢
  exact o
theorem Zot{rs:List Sr}{ws:List Rw}{day:Int}{recs:List Str}{r:Str}:Zcp rs ws day (recs++[r])=Zcp rs ws day recs++(match Xx rs ws r day with|some f=>[(f,r)]|none=>[]):=by
 unfold Zcp;rw[List.filterMap_append]
 congr 1
 cases e:Xx rs ws r day with
 |none=>exact List.filterMap_cons_none (f:=fun r=>(Xx rs ws r day).map fun f=>((f,r):Xd)) (by rw[e];rfl)
 |some f=>exact List.filterMap_cons_some (f:=fun r=>(Xx rs ws r day).map fun f=>((f,r):Xd)) (b:=(f,r)) (by rw[e];rfl)
theorem Zij(rs:List Sr)(ws:List Rw)(day:Int)(recs:List Str):(Zcp rs ws day recs).length<=recs.length:=List.length_filterMap_le ..
theorem Zc6:ZC ["book","rows","day","found","record","first"] ["book","rows","day"] (Zt Zf9):=⟨rfl,rfl,rfl,by decide+kernel,rfl,by decide+kernel,by decide+kernel⟩
theorem ZlV{f:Addr}{fd:FuncData}(F:Fun K "foretold" "foretold" Zf9 f fd)(T:Txt K mg Zh Zf Zg Zb Zo)(Zee:Cal P w K mg base CX0 15 "first_due" ["book","rows","record","day"] (Zdm Zh Zf Zg Zb)):Yl P w K mg base CX0 16 f fd ["book","rows","day"] (Ze6 Zh Zf Zg Zb):=by
 refine F.ok Zc6 (fun vs H Q E h=> ?_) (fun cdv A outer s H vs Q E hr h=> ?_)
 ·obtain⟨p,q',rs,ws,day,rfl,_⟩:=h
  rfl
 ·obtain⟨p,q',rs,ws,day,rfl,bat,bk,lr,⟨ds,hq,pr⟩,few,q⟩:=h;have l5:=Xe;have hu3:=Zk5 hr;have lw:=few.few;have le:=Paired.length pr;refine⟨_,(Ze (Zu (i:=3) Zc6.nd rfl (Or.inl rfl) (Yk Zj)) (Ze (Xi PassesOwn.never rfl (Yb (Jc ["row"] [] rfl (Yb (pv 1)) (by rfl) (by exact trivial) (by rfl) (by exact trivial) (fun _ _ _ _=>(ZF (i:=0) (show(nmY ["row"] []).Nodup by decide+kernel) rfl (Or.inl rfl))) (fun _ _ _ _=>(Jw (Zq Ym (Zx (Yu (K:=K) rfl) (pv 0) Zi (fun _ _=>rfl)) ZK (Zv _)))) (fun _ _ _ _=>(Zx (Yu (K:=K) rfl) (pv 0) Zi (fun _ _=>rfl))))) (ZF (i:=4) Zc6.nd rfl (Or.inl rfl)) (Ze (Zu (i:=5) Zc6.nd rfl (Or.inl rfl) (ZV Zee (hr.mono (by omega)) rfl ZJ (Za (pv 0) (Za (pv 1) (Za (pv 4) (Za (pv 2) Zj)))))) (Zn (ZZ (Zq ZfH (pv 5) YB (Zv _)) (Zn (Xh (ZaL PySem.F.plainAttrs_list PySem.F.slot_list_append PySem.F.type_list_append YC (pv 3) (Za (YK (Za (pv 5) (Za (pv 4) Zj))) Zj)))) ZD)))) (Zn (Zz (ZS (Zd9 Zog hu3) (by rfl) T.z_sorted Jt (Za (pv 3) Zj)))))), ?_⟩
  refine⟨Nat.zero_le _,fun F hF=> ?_⟩;have sF:=Zk hF (o:=.lst []);have hq1:=sF _ _ hq;refine⟨_,rfl,q',rfl,⟨_,SqL.of hq1⟩,Xa ds.length (fun i=>((ws[i]?).map Zn2).getD []) (by omega) (fun i=> ?_) (fun i H5 s5 lt=>⟨_,_,SqL.of (s5 _ _ hq1),List.getElem?_eq_getElem (by rw[List.length_map];exact lt)⟩) (fun H5 s5=>⟨_,SqL.of (s5 _ _ hq1),by rw[List.length_map];exact Nat.le_refl _⟩) (fun i z H5 H6 s5 lt yl RT RF rt rf=> ?_) fun D H2 hD s2 d2=> ?_⟩
  ·cases ws[i]? with
   |none=>exact Nat.zero_le _
   |some w=>
    show(Zn2 w).length<=1;unfold Zn2;cases Zhn w with
    |none=>exact Nat.zero_le _
    |some r=>exact Nat.le_refl _
  ·obtain⟨rfl,yl⟩:=yl;obtain⟨d,rfl,ed⟩:=Xb (yl _ (SqL.of (s5 _ _ hq1)));obtain⟨w,ew,row⟩:=Ye (ZM (sF.trans s5) pr) i d ed;have row:H6 d=some (.tup w.vs):=row;rw[ew] at rt rf
   have rt:∀v H6,Zn2 w=[v]->_:=rt;have rf:∀H5,Zn2 w=[]->_:=rf;refine⟨trivial, ?_⟩;cases w with
   |put x s d=>exact ixT rfl (SqT.of row) rfl ⟨rfl,_,rfl,Zcl rfl (ixT rfl (SqT.of row) rfl (rt _ _ rfl (Zy.refl _)))⟩
   |move x s d=>exact ixT rfl (SqT.of row) rfl ⟨rfl,_,rfl,YJ (vne Zro) (rf _ rfl (Zy.refl _))⟩
   |deed x k d=>exact ixT rfl (SqT.of row) rfl ⟨rfl,_,rfl,YJ (vne ZpO) (rf _ rfl (Zy.refl _))⟩
   |lift h d=>exact ixT rfl (SqT.of row) rfl ⟨rfl,_,rfl,YJ (vne ZpP) (rf _ rfl (Zy.refl _))⟩
   |hold h c n d=>exact ixT rfl (SqT.of row) rfl ⟨rfl,_,rfl,YJ (vne ZpQ) (rf _ rfl (Zy.refl _))⟩
  rw[le,Xq,Zjz] at d2
  have lp:(YL ws).length<=ws.length:=List.length_filterMap_le ..;have s02:=sF.trans s2;refine⟨D,rfl,⟨_,SqL.of d2⟩,YH (xs:=(YL ws).map V.str) (fun i σ H'=>∃(v4 v5:Option V) (us:List V),σ=[some (.ref p),some (.ref q'),some (.int day),some (.ref F),v4,v5]/\H' F=some (.lst us)/\Paired (Zai H') (Zcp rs ws day ((YL ws).take i)) us/\H' D=some (.lst ((YL ws).map V.str))/\(∀r∈(YL ws).take i,XN rs ws r day (Xx rs ws r day))/\Zy H H') ?_ ?_ ?_ ?_⟩
  ·exact⟨none,none,[],rfl,s2 _ _ Zc,.nil,d2,(fun r hr=>nomatch hr),s02⟩
  ·rintro i σ H3 _ ⟨v4,v5,us,rfl,_,_,hD3,_,_⟩;exact SqL.of hD3
  ·rintro i x σ H3 hx ⟨v4,v5,us,rfl,hF3,ps,hD3,all,s3⟩;obtain⟨r,rfl,er⟩:∃r,x=V.str r/\(YL ws)[i]? =some r:=by
    rw[List.getElem?_map] at hx
    cases e:(YL ws)[i]? with
    |none=>rw[e] at hx;cases hx
    |some y=>rw[e] at hx;exact⟨y,(Option.some.inj hx).symm,rfl⟩
   have tk:(YL ws).take (i+1)=(YL ws).take i++[r]:=by rw[List.take_add_one,er];rfl
   rw[tk];simp only [Zot];have lus:us.length<=60:=by
    have h1:=Zij rs ws day ((YL ws).take i);have h2:=List.length_take_le' i (YL ws);have h3:=Paired.length ps;omega
   refine⟨_,rfl,_,rfl,_,rfl,_,rfl,p,q',rs,ws,r,day,rfl,Jf s3 bat,bk,lr,⟨ds,s3 _ _ hq,ZM s3 pr⟩,few,fun H4 s4 fd=> ?_⟩;have all':∀r'∈(YL ws).take i++[r],XN rs ws r' day (Xx rs ws r' day):=fun r' hr'=>(List.mem_append.mp hr').elim (all r') fun z=>by rw[List.mem_singleton.mp z];exact fd
   have hF4:=s4 _ _ hF3;have ps4:=ZbO (fun b xs e=>s4 _ _ e) ps;cases ho:Xx rs ws r day with
   |none=>exact⟨_,rfl,rfl,_,rfl,Zn0 rfl ⟨_,_,us,rfl,hF4,by rw[List.append_nil];exact ps4,s4 _ _ hD3,all',s3.trans s4⟩⟩
   |some f=>
    refine⟨_,rfl,rfl,_,rfl,Zny (fun z=>nomatch z) ⟨_,rfl,.inl ⟨rfl,_,SqL.of hF4⟩,_,rfl,_,rfl,show 2<=sizeLine from sl,fun t ht=>⟨F,_,V.ref t,rfl,rfl,Zk ht _ _ hF4,by omega, ?_⟩⟩⟩;have nF:F≠t:=Zd hF4 ht;have kp:∀c u,c≠F->H4 c=some u->upd (upd H4 t (.tup [.int f,.str r])) F (.lst (us++[.ref t])) c=some u:=fun c u n e=>by
     rw[Zm n,Zm (Zd e ht)];exact e
    refine⟨_,_,us++[.ref t],rfl,Zc,Paired.snoc (ZbO (fun c xs e=>kp c _ (Yj e hF4 (fun z=>nomatch z)) e) ps4) ⟨t,rfl,by rw[Zm (Ne.symm nF),Zc];rfl⟩,kp D _ (fun z=> ?_) (s4 _ _ hD3),all',fun c u e=>kp c u (Zd e hF) (s4 _ _ (s3 _ _ e))⟩
    rw[z,Zc] at hD
    cases hD
  ·rintro σ H3 ⟨v4,v5,us,rfl,hF3,ps,hD3,all,s3⟩;rw[List.length_map,List.take_length] at ps all
   have lus:us.length<64:=by
    have h1:=Zij rs ws day (YL ws);have h3:=Paired.length ps;omega
   refine⟨_,rfl,F,us,_,rfl,SqL.of hF3,lus,ZlT ps,fun zs pz oz L hL=> ?_⟩;obtain⟨ys,py,pys,oy⟩:=ZkF ps pz oz;exact q L _ ys _ (YS s3 hL) (s3.trans (Zk hL)) Zc (ZbO (fun b xs e=>Zk hL _ _ e) pys) py oy all
theorem ZeI(b t o h r k w:Addr):(fH b t o h r k w).lookup ("book":Str)=some (.ref b):=by
 unfold fH;rw[Zr,if_neg (by decide+kernel),Zr,if_neg (by decide+kernel),Zr,if_neg (by decide+kernel),Zr,if_neg (by decide+kernel),Zr,if_neg (by decide+kernel),Zr,if_neg (by decide+kernel),Zr,if_pos rfl]
theorem ZqY(b t o h r k w:Addr):(fH b t o h r k w).lookup ("told":Str)=some (.ref t):=by
 unfold fH;rw[Zr,if_neg (by decide+kernel),Zr,if_neg (by decide+kernel),Zr,if_neg (by decide+kernel),Zr,if_neg (by decide+kernel),Zr,if_neg (by decide+kernel),Zr,if_pos rfl]
theorem Zik(b t o h r k w:Addr):(fH b t o h r k w).lookup ("own":Str)=some (.ref o):=by
 unfold fH;rw[Zr,if_neg (by decide+kernel),Zr,if_neg (by decide+kernel),Zr,if_neg (by decide+kernel),Zr,if_neg (by decide+kernel),Zr,if_pos rfl]
theorem Zc7(b t o h r k w:Addr):(fH b t o h r k w).lookup ("holdings":Str)=some (.ref h):=by
 unfold fH;rw[Zr,if_neg (by decide+kernel),Zr,if_neg (by decide+kernel),Zr,if_neg (by decide+kernel),Zr,if_pos rfl]
theorem Zc8(b t o h r k w:Addr):(fH b t o h r k w).lookup ("run_days":Str)=some (.ref r):=by
 unfold fH;rw[Zr,if_neg (by decide+kernel),Zr,if_neg (by decide+kernel),Zr,if_pos rfl]
theorem Zil(b t o h r k w:Addr):(fH b t o h r k w).lookup ("taken":Str)=some (.ref k):=by
 unfold fH;rw[Zr,if_neg (by decide+kernel),Zr,if_pos rfl]
theorem ZaU(b t o h r k w:Addr):(fH b t o h r k w).lookup ("words":Str)=some (.ref w):=by
 unfold fH;rw[Zr,if_pos rfl]
theorem JM{H H':Hp}(s:∀b xs,H b=some (.tup xs)->H' b=some (.tup xs)):∀{gs:List Gn} {kvs:List (Key×V)},Paired (ZmO H) gs kvs->Paired (ZmO H') gs kvs
 |_,_,.nil=> .nil
 |_,_,.cons ⟨p,e,h⟩ t=> .cons ⟨p,e,s _ _ h⟩ (JM s t)
theorem ZbP{H:Hp}{x y:Addr}{o u:HO}(hx:∃z,H x=some z)(hy:H y=none):x≠y/\upd (upd H y o) x u y=some o/\(∀c v,c≠x->H c=some v->upd (upd H y o) x u c=some v):=by
 obtain⟨z,hx⟩:=hx;have ne:x≠y:=Zd hx hy;refine⟨ne,by rw[Zm (Ne.symm ne),Zc],fun c v nc e=> ?_⟩;rw[Zm nc,Zm (Zd e hy)];exact e
theorem ZiX:ZC ["self","book"] ["self","book"] (Zt Zde):=⟨rfl,rfl,rfl,by decide+kernel,rfl,by decide+kernel,by decide+kernel⟩
theorem ZiY{f:Addr}{fd:FuncData}(F:Fun K "__init__" "House.__init__" Zde f fd)(T:Txt K mg Zh Zf Zg Zb Zo){C:Addr}(cl:Cls K C)(n_book:YG K C "book")(n_told:YG K C "told")(n_own:YG K C "own")(n_holdings:YG K C "holdings")(n_run_days:YG K C "run_days")(n_taken:YG K C "taken")(n_words:YG K C "words"):Yl P w K mg base CX0 1 f fd ["self","book"] (Zcq C):=by
 refine F.ok ZiX (fun vs H Q E h=> ?_) (fun cdv A outer s H vs Q E hr h=> ?_)
 ·obtain⟨x,dx,p,ds,rfl,_⟩:=h
  rfl
 ·obtain⟨x,dx,p,ds,rfl,hx,hp,q⟩:=h;refine⟨_,(Ze (Zby (pv 0) (Zbq ZjV (by rfl) T.z_list ZqC (Za (pv 1) Zj)) rfl) (Ze (Zby (pv 0) (Yk Zj) rfl) (Ze (Zby (pv 0) JQ rfl) (Ze (Zby (pv 0) (Yk Zj) rfl) (Ze (Zby (pv 0) (Yk Zj) rfl) (Ze (Zby (pv 0) JQ rfl) (Zn (Zby (pv 0) JQ rfl)))))))), ?_⟩;refine⟨_,rfl,p,_,rfl,.inl (SqL.of hp),fun b hb=> ?_⟩;have nb:=Zd hx hb;refine⟨_,rfl,x,C,dx,_,rfl,by rw[Zm nb];exact hx,cl,n_book,(by show 0<1000;decide), ?_⟩
  obtain⟨_,kb,f1⟩:=ZbP (o:=.lst ds) (u:=.ins C dx (ZP "book" (.ref b) [])) ⟨_,hx⟩ hb;have x1:upd (upd H b (.lst ds)) x (.ins C dx (ZP "book" (.ref b) [])) x=some (.ins C dx (ZP "book" (.ref b) [])):=Zc;generalize upd (upd H b (.lst ds)) x (.ins C dx (ZP "book" (.ref b) []))=H1 at kb f1 x1
  refine⟨Nat.zero_le _,fun t ht=>⟨_,rfl,x,C,dx,_,rfl,by rw[Zm (Zd x1 ht)];exact x1,cl,n_told,(by show 1<1000;decide), ?_⟩⟩
  obtain⟨nt,kt,f2⟩:=ZbP (o:=.lst []) (u:=.ins C dx (ZP "told" (.ref t) (ZP "book" (.ref b) []))) ⟨_,x1⟩ ht;have x2:upd (upd H1 t (.lst [])) x (.ins C dx (ZP "told" (.ref t) (ZP "book" (.ref b) []))) x=some (.ins C dx (ZP "told" (.ref t) (ZP "book" (.ref b) []))):=Zc;generalize upd (upd H1 t (.lst [])) x (.ins C dx (ZP "told" (.ref t) (ZP "book" (.ref b) [])))=H2 at kt f2 x2
  refine(fun o ho=>⟨_,rfl,x,C,dx,_,rfl,by rw[Zm (Zd x2 ho)];exact x2,cl,n_own,(by show 2<1000;decide), ?_⟩)
  obtain⟨no,ko,f3⟩:=ZbP (o:=.dK []) (u:=.ins C dx (ZP "own" (.ref o) (ZP "told" (.ref t) (ZP "book" (.ref b) [])))) ⟨_,x2⟩ ho;have x3:upd (upd H2 o (.dK [])) x (.ins C dx (ZP "own" (.ref o) (ZP "told" (.ref t) (ZP "book" (.ref b) [])))) x=some (.ins C dx (ZP "own" (.ref o) (ZP "told" (.ref t) (ZP "book" (.ref b) [])))):=Zc;generalize upd (upd H2 o (.dK [])) x (.ins C dx (ZP "own" (.ref o) (ZP "told" (.ref t) (ZP "book" (.ref b) []))))=H3 at ko f3 x3
  refine⟨Nat.zero_le _,fun h hh=>⟨_,rfl,x,C,dx,_,rfl,by rw[Zm (Zd x3 hh)];exact x3,cl,n_holdings,(by show 3<1000;decide), ?_⟩⟩
  obtain⟨nh,kh,f4⟩:=ZbP (o:=.lst []) (u:=.ins C dx (ZP "holdings" (.ref h) (ZP "own" (.ref o) (ZP "told" (.ref t) (ZP "book" (.ref b) []))))) ⟨_,x3⟩ hh;have x4:upd (upd H3 h (.lst [])) x (.ins C dx (ZP "holdings" (.ref h) (ZP "own" (.ref o) (ZP "told" (.ref t) (ZP "book" (.ref b) []))))) x=some (.ins C dx (ZP "holdings" (.ref h) (ZP "own" (.ref o) (ZP "told" (.ref t) (ZP "book" (.ref b) []))))):=Zc
  generalize upd (upd H3 h (.lst [])) x (.ins C dx (ZP "holdings" (.ref h) (ZP "own" (.ref o) (ZP "told" (.ref t) (ZP "book" (.ref b) [])))))=H4 at kh f4 x4
  refine⟨Nat.zero_le _,fun r hr2=>⟨_,rfl,x,C,dx,_,rfl,by rw[Zm (Zd x4 hr2)];exact x4,cl,n_run_days,(by show 4<1000;decide), ?_⟩⟩
  obtain⟨nr,kr,f5⟩:=ZbP (o:=.lst []) (u:=.ins C dx (ZP "run_days" (.ref r) (ZP "holdings" (.ref h) (ZP "own" (.ref o) (ZP "told" (.ref t) (ZP "book" (.ref b) [])))))) ⟨_,x4⟩ hr2;have x5:upd (upd H4 r (.lst [])) x (.ins C dx (ZP "run_days" (.ref r) (ZP "holdings" (.ref h) (ZP "own" (.ref o) (ZP "told" (.ref t) (ZP "book" (.ref b) [])))))) x=some (.ins C dx (ZP "run_days" (.ref r) (ZP "holdings" (.ref h) (ZP "own" (.ref o) (ZP "told" (.ref t) (ZP "book" (.ref b) [])))))):=Zc
  generalize upd (upd H4 r (.lst [])) x (.ins C dx (ZP "run_days" (.ref r) (ZP "holdings" (.ref h) (ZP "own" (.ref o) (ZP "told" (.ref t) (ZP "book" (.ref b) []))))))=H5 at kr f5 x5
  refine(fun k hk=>⟨_,rfl,x,C,dx,_,rfl,by rw[Zm (Zd x5 hk)];exact x5,cl,n_taken,(by show 5<1000;decide), ?_⟩)
  obtain⟨nk,kk_,f6⟩:=ZbP (o:=.dK []) (u:=.ins C dx (ZP "taken" (.ref k) (ZP "run_days" (.ref r) (ZP "holdings" (.ref h) (ZP "own" (.ref o) (ZP "told" (.ref t) (ZP "book" (.ref b) []))))))) ⟨_,x5⟩ hk;have x6:upd (upd H5 k (.dK [])) x (.ins C dx (ZP "taken" (.ref k) (ZP "run_days" (.ref r) (ZP "holdings" (.ref h) (ZP "own" (.ref o) (ZP "told" (.ref t) (ZP "book" (.ref b) []))))))) x=some (.ins C dx (ZP "taken" (.ref k) (ZP "run_days" (.ref r) (ZP "holdings" (.ref h) (ZP "own" (.ref o) (ZP "told" (.ref t) (ZP "book" (.ref b) []))))))):=Zc
  generalize upd (upd H5 k (.dK [])) x (.ins C dx (ZP "taken" (.ref k) (ZP "run_days" (.ref r) (ZP "holdings" (.ref h) (ZP "own" (.ref o) (ZP "told" (.ref t) (ZP "book" (.ref b) [])))))))=H6 at kk_ f6 x6
  refine(fun w hw=>⟨_,rfl,x,C,dx,_,rfl,by rw[Zm (Zd x6 hw)];exact x6,cl,n_words,(by show 6<1000;decide), ?_⟩)
  obtain⟨nw,kw,f7⟩:=ZbP (o:=.dK []) (u:=.ins C dx (fH b t o h r k w)) ⟨_,x6⟩ hw;have up:∀{c:Addr} {v:HO},c≠x->H c=some v->H1 c=some v:=fun n e=>f1 _ _ n e;have b2:=f2 _ _ (Ne.symm nb) kb;have b3:=f3 _ _ (Ne.symm nb) b2;have b4:=f4 _ _ (Ne.symm nb) b3;have b5:=f5 _ _ (Ne.symm nb) b4;have b6:=f6 _ _ (Ne.symm nb) b5;have t3:=f3 _ _ (Ne.symm nt) kt;have t4:=f4 _ _ (Ne.symm nt) t3;have t5:=f5 _ _ (Ne.symm nt) t4
  have t6:=f6 _ _ (Ne.symm nt) t5;have o4:=f4 _ _ (Ne.symm no) ko;have o5:=f5 _ _ (Ne.symm no) o4;have o6:=f6 _ _ (Ne.symm no) o5;have h5:=f5 _ _ (Ne.symm nh) kh;have h6:=f6 _ _ (Ne.symm nh) h5;have r6:=f6 _ _ (Ne.symm nr) kr;have g1:∀{c:Addr},H1 c=none->H c=none:=fun{c} z=>by
   cases e:H c with
   |none=>rfl
   |some v=>
    by_cases cx:c=x
    ·rw[cx,x1] at z;cases z
    ·rw[f1 c v cx e] at z;cases z
  have g2:∀{c:Addr},H2 c=none->H c=none:=fun{c} z=>g1 (by
   cases e:H1 c with
   |none=>rfl
   |some v=>
    by_cases cx:c=x
    ·rw[cx,x2] at z;cases z
    ·rw[f2 c v cx e] at z;cases z)
  have g3:∀{c:Addr},H3 c=none->H c=none:=fun{c} z=>g2 (by
   cases e:H2 c with
   |none=>rfl
   |some v=>
    by_cases cx:c=x
    ·rw[cx,x3] at z;cases z
    ·rw[f3 c v cx e] at z;cases z)
  have g4:∀{c:Addr},H4 c=none->H c=none:=fun{c} z=>g3 (by
   cases e:H3 c with
   |none=>rfl
   |some v=>
    by_cases cx:c=x
    ·rw[cx,x4] at z;cases z
    ·rw[f4 c v cx e] at z;cases z)
  have g5:∀{c:Addr},H5 c=none->H c=none:=fun{c} z=>g4 (by
   cases e:H4 c with
   |none=>rfl
   |some v=>
    by_cases cx:c=x
    ·rw[cx,x5] at z;cases z
    ·rw[f5 c v cx e] at z;cases z)
  have g6:∀{c:Addr},H6 c=none->H c=none:=fun{c} z=>g5 (by
   cases e:H5 c with
   |none=>rfl
   |some v=>
    by_cases cx:c=x
    ·rw[cx,x6] at z;cases z
    ·rw[f6 c v cx e] at z;cases z)
  refine q b t o h r k w _ ?_ ?_ (fun c u nc e=>f7 _ _ nc (f6 _ _ nc (f5 _ _ nc (f4 _ _ nc (f3 _ _ nc (f2 _ _ nc (f1 _ _ nc e))))))) Zc (f7 _ _ (Ne.symm nb) b6) (f7 _ _ (Ne.symm nt) t6) (f7 _ _ (Ne.symm no) o6) (f7 _ _ (Ne.symm nh) h6) (f7 _ _ (Ne.symm nr) r6) (f7 _ _ (Ne.symm nk) kk_) kw
  ·have d1:=Zd kb ht;have d2:=Zd b2 ho;have d3:=Zd b3 hh;have d4:=Zd b4 hr2;have d5:=Zd b5 hk;have d6:=Zd b6 hw;have d7:=Zd kt ho;have d8:=Zd t3 hh;have d9:=Zd t4 hr2;have da:=Zd t5 hk;have db:=Zd t6 hw;have dc:=Zd ko hh;have dd:=Zd o4 hr2;have de:=Zd o5 hk;have df:=Zd o6 hw;have dg:=Zd kh hr2;have dh:=Zd h5 hk;have di:=Zd h6 hw;have dj:=Zd kr hk;have dk:=Zd r6 hw;have dl:=Zd kk_ hw;simp only [List.nodup_cons,List.mem_cons,List.mem_nil_iff,or_false,not_or,List.nodup_nil,not_false_eq_true,and_true]
   exact⟨⟨d1,d2,d3,d4,d5,d6⟩,⟨d7,d8,d9,da,db⟩,⟨dc,dd,de,df⟩,⟨dg,dh,di⟩,⟨dj,dk⟩,dl⟩
  ·intro c hc;simp only [List.mem_cons,List.mem_nil_iff,or_false] at hc
   rcases hc with rfl|rfl|rfl|rfl|rfl|rfl|rfl
   ·exact hb
   ·exact g1 ht
   ·exact g2 ho
   ·exact g3 hh
   ·exact g4 hr2
   ·exact g5 hk
   ·exact g6 hw
theorem ZpX(w:Rw)(r:Str):(decide (V.str w.word=V.str "hold")&&decide (V.str w.one=V.str r))=Ji r w:=by
 cases w with
 |hold x c n d=>
  show(decide (V.str "hold"=V.str "hold")&&decide (V.str x=V.str r))=decide (x=r);rw[decide_eq_true rfl,Bool.true_and]
  by_cases h:x=r
  ·rw[h,decide_eq_true rfl,decide_eq_true rfl]
  ·rw[decide_eq_false h,decide_eq_false (vne h)]
 |put x s d=>exact(congrArg (fun b=>b&&_) (decide_eq_false (vne ZgV))).trans (Bool.false_and _)
 |move x s d=>exact(congrArg (fun b=>b&&_) (decide_eq_false (vne Zi7))).trans (Bool.false_and _)
 |deed x k d=>exact(congrArg (fun b=>b&&_) (decide_eq_false (vne Zi8))).trans (Bool.false_and _)
 |lift h d=>exact(congrArg (fun b=>b&&_) (decide_eq_false (vne ZlB))).trans (Bool.false_and _)
theorem Zn3:ZC ["rows","hold"] ["rows","hold"] (Zt Zgp):=⟨rfl,rfl,rfl,by decide+kernel,rfl,by decide+kernel,by decide+kernel⟩
theorem Zn4{f:Addr}{fd:FuncData}(F:Fun K "is_laid" "is_laid" Zgp f fd)(T:Txt K mg Zh Zf Zg Zb Zo):Yl P w K mg base CX0 1 f fd ["rows","hold"] Zff:=by
 refine F.ok Zn3 (fun vs H Q E h=> ?_) (fun cdv A outer s H vs Q E hr h=> ?_)
 ·obtain⟨p,ws,r,rfl,_⟩:=h
  rfl
 ·obtain⟨p,ws,r,rfl,⟨ds,hp,pr⟩,lw,q⟩:=h;have l5:=Xe;have le:=Paired.length pr;refine⟨_,(Zn (Zz (ZS (ZhG rfl) (by rfl) T.z_any Zpb (Za (Jc ["row"] [("hold",1)] rfl (Yb (pv 0)) (by rfl) (by exact⟨rfl,trivial⟩) (by rfl) (by exact⟨⟨rfl,rfl,rfl⟩,trivial⟩) (fun _ _ _ _=>(ZF (i:=0) (show(nmY ["row"] [("hold",1)]).Nodup by decide+kernel) rfl (Or.inl rfl))) (fun _ _ _ _=>Zc1) (fun _ _ _ _=>(ZoL (Za7 Ym (Zx (Yu (K:=K) rfl) (pv 0) Zi (fun _ _=>rfl)) ZK (Zv _)) (Zmd (Za7 Ym (Zx (Yu (K:=K) rfl) (pv 0) Zi (fun _ _=>rfl)) (pv 1) (Zv _)))))) Zj)))), ?_⟩
  refine⟨_,rfl,p,rfl,⟨_,SqL.of hp⟩,Xa ds.length (fun j=>[((ws[j]?).map fun w=>V.bl (Ji r w)).getD .non]) (by omega) (fun j=>Nat.le_refl 1) (fun j H4 s4 lt=>⟨_,_,SqL.of (s4 _ _ hp),List.getElem?_eq_getElem (by rw[List.length_map];exact lt)⟩) (fun H4 s4=>⟨_,SqL.of (s4 _ _ hp),by rw[List.length_map];exact Nat.le_refl _⟩) (fun j y H4 H5 s4 lt yl RT RF rt rf=> ?_) fun D4 H4 hD4 s4 d4=> ?_⟩
  ·obtain⟨rfl,yl⟩:=yl;obtain⟨d,rfl,ed⟩:=Xb (yl _ (SqL.of (s4 _ _ hp)));obtain⟨w,ew,row⟩:=Ye (ZM s4 pr) j d ed;have row:H5 d=some (.tup w.vs):=row;have out:[((ws[j]?).map fun w=>V.bl (Ji r w)).getD .non]=[V.bl (Ji r w)]:=by rw[ew];rfl
   rw[out,<-ZpX] at rt
   refine⟨⟨rfl,trivial⟩, ?_⟩;unfold Zlc;refine JZ (ixT rfl (SqT.of row) (JX w) ⟨rfl,_,rfl,YQ (fun e=> ?_) (fun e=> ?_)⟩)
   ·refine(ixT rfl (SqT.of row) (Zfi w) ⟨_,rfl,rfl,rt _ _ ?_ (Zy.refl _)⟩);rw[e,Bool.true_and]
   ·refine rt _ _ ?_ (Zy.refl _);rw[Bool.eq_false_iff.mpr e,Bool.false_and]
  ·have e6:(List.range ds.length).flatMap (fun j=>[((ws[j]?).map fun w=>V.bl (Ji r w)).getD .non])=(ws.map (Ji r)).map V.bl:=by
    rw[Jm,le,ZcF ws (fun w=>V.bl (Ji r w)) .non,List.map_map]
    rfl
   rw[e6] at d4
   refine⟨D4,ws.map (Ji r),rfl,SqL.of d4, ?_⟩;rw[List.any_map];exact q H4 s4
theorem Zha:ZC ["row"] ["row"] (Zt ZbD):=⟨rfl,rfl,rfl,by decide+kernel,rfl,by decide+kernel,by decide+kernel⟩
theorem Zhb{f:Addr}{fd:FuncData}(F:Fun K "series_named" "series_named" ZbD f fd)(T:Txt K mg Zh Zf Zg Zb Zo):Yl P w K mg base CX0 1 f fd ["row"] Zb6:=by
 refine F.ok Zha (fun vs H Q E h=> ?_) (fun cdv A outer s H vs Q E hr h=> ?_)
 ·obtain⟨a,w,rfl,_⟩:=h
  rfl
 ·obtain⟨a,w,rfl,ha,q⟩:=h;refine⟨_,(Ze (ZZ (Zq ZcD (Zx ZG (pv 0) Zi (fun _ _=>rfl)) (YK (Za ZK (Za ZK Zj))) rfl) (Zn (Zz (Yk (Za (Zx ZG (pv 0) Zi (fun _ _=>rfl)) Zj)))) ZD) (Ze (ZZ (PW.pt (Xz (Zq Ym (Zx ZG (pv 0) Zi (fun _ _=>rfl)) ZK (Zv _)) (YX (Zq Ym (Zx ZG (pv 0) Zi (fun _ _=>rfl)) ZK (Zv _))))) (Zn (Zz (Yk (Za (Zx ZG (pv 0) Zi (fun _ _=>rfl)) Zj)))) ZD) (Zn (Zz (Yk Zj))))), ?_⟩;have ha:H a=some (.tup w.vs):=ha
  refine(ixT rfl (SqT.of ha) (JX w) ⟨show 2<=sizeLine from sl,fun t ht=>⟨t,_,rfl,.inr (SqT.of Zc),rfl,rfl,_,rfl, ?_⟩⟩);have st:=Zk ht (o:=.tup [.str "put",.str "move"]);have ha1:=st _ _ ha;generalize upd H t (.tup [.str "put",.str "move"])=H1 at st ha1
  have one:∀z:Str,∀L,H1 L=none->Zaj w=[z]->Q (.ref L) (upd H1 L (.lst [.str z])):=fun z L hL e=>q L _ (YS st hL) (st.trans (Zk hL)) (by rw[Zc,e];rfl)
  have zero:∀L,H1 L=none->Zaj w=[]->Q (.ref L) (upd H1 L (.lst [])):=fun L hL e=>q L _ (YS st hL) (st.trans (Zk hL)) (by rw[Zc,e];rfl)
  cases w with
  |put x s d=>
   have ha1:H1 a=some (.tup [.str "put",.str x,.str s,.int d]):=ha1;show if inV (.str "put") [.str "put",.str "move"]=true then _ else _;rw[Zhq];exact JZ (ixT rfl (SqT.of ha1) rfl ⟨show 1<=sizeLine from sl,fun L hL=>one s L hL rfl⟩)
  |move x s d=>
   have ha1:H1 a=some (.tup [.str "move",.str x,.str s,.int d]):=ha1;show if inV (.str "move") [.str "put",.str "move"]=true then _ else _;rw[ZfZ];exact JZ (ixT rfl (SqT.of ha1) rfl ⟨show 1<=sizeLine from sl,fun L hL=>one s L hL rfl⟩)
  |deed x k d=>
   have ha1:H1 a=some (.tup [.str "deed",.str x,.str k,.int d]):=ha1;show if inV (.str "deed") [.str "put",.str "move"]=true then _ else _;rw[Zb7 Zrn Zrp];exact Yt (ixT rfl (SqT.of ha1) rfl ⟨rfl,_,rfl,YJ (vne Zi8) (Yt ⟨Nat.zero_le _,fun L hL=>zero L hL rfl⟩)⟩)
  |lift h d=>
   have ha1:H1 a=some (.tup [.str "lift",.str h,.int d]):=ha1;show if inV (.str "lift") [.str "put",.str "move"]=true then _ else _;rw[Zb7 Zi6 Zjs];exact Yt (ixT rfl (SqT.of ha1) rfl ⟨rfl,_,rfl,YJ (vne ZlB) (Yt ⟨Nat.zero_le _,fun L hL=>zero L hL rfl⟩)⟩)
  |hold h c n d=>
   have ha1:H1 a=some (.tup [.str "hold",.str h,.str (onW c),.str n,.int d]):=ha1;show if inV (.str "hold") [.str "put",.str "move"]=true then _ else _;rw[Zb7 ZgV Zi7];cases c with
   |true=>exact Yt (ixT rfl (SqT.of ha1) rfl ⟨rfl,_,rfl,Zcl rfl (ixT rfl (SqT.of ha1) rfl ⟨rfl,_,rfl,YJ (vne (show¬Str.ofString "record"=Str.ofString "series" by decide+kernel)) ⟨Nat.zero_le _,fun L hL=>zero L hL rfl⟩⟩)⟩)
   |false=>exact Yt (ixT rfl (SqT.of ha1) rfl ⟨rfl,_,rfl,Zcl rfl (ixT rfl (SqT.of ha1) rfl ⟨rfl,_,rfl,Zcl rfl (ixT rfl (SqT.of ha1) rfl ⟨show 1<=sizeLine from sl,fun L hL=>one n L hL rfl⟩)⟩)⟩)
def Zc9(cn ca cl ce:Addr)(n:Nat)(C:Addr):Sp:=fun vs H Q _=>∃(a d:Addr) (w:Rw) (s:Hs) (F:List Addr),vs=[.ref a,.ref d]/\0<n/\ZL cn ca cl ce C H a s F/\ZcL H d w/\s.ws.length<=900/\
 ∀H' F',ZeO F H H'->(∀b∈F',b∈F\/H b=none)->(∀b∈F,b∈F')->ZL cn ca cl ce C H' a {s with ws:=s.ws++[w]} F'->Q .non H'
theorem ZiZ{cn ca cl ce C:Addr}:∀vs H Q E,¬Zc9 cn ca cl ce 0 C vs H Q E:=fun _ _ _ _ ⟨_,_,_,_,_,_,z,_⟩=>Nat.lt_irrefl 0 z
theorem Zgw:∀{os:List (Str×Addr)},(os.map (·.1)).Nodup->∀x∈os,Yp (okv os) (Sum.inr x.1)=some (.ref x.2)
 |[],_,x,h=>nomatch h
 |y::os,nd,x,h=>by
  rw[List.map_cons] at nd
  obtain⟨off,rest⟩:=List.nodup_cons.mp nd;cases h with
  |head=>exact Yr rfl
  |tail _ m=>
   have ne:¬(Sum.inr y.1:Key)=Sum.inr x.1:=fun z=>off (List.mem_map.mpr ⟨x,m,by injection z with z;exact z.symm⟩)
   exact(Yn (p:=(Sum.inr y.1,V.ref y.2)) ne).trans (Zgw rest x m)
theorem Zhr:∀{os:List (Str×Addr)} {r:Str},r∉os.map (·.1)->Yp (okv os) (Sum.inr r)=none
 |[],_,_=>rfl
 |y::os,r,h=>by
  rw[List.map_cons,List.mem_cons] at h
  have ne:¬(Sum.inr y.1:Key)=Sum.inr r:=fun z=>h (.inl (by injection z with z;exact z.symm))
  exact(Yn (p:=(Sum.inr y.1,V.ref y.2)) ne).trans (Zhr fun z=>h (.inr z))
theorem ZqZ{os:List (Str×Addr)}{r:Str}{l:Addr}(h:r∉os.map (·.1)):Js (okv os) (Sum.inr r) (.ref l)=okv (os++[(r,l)]):=by
 unfold Js;rw[Za8,Zhr h,if_neg (by exact Bool.false_ne_true)];unfold okv;rw[List.map_append]
 rfl
theorem ZaV{ws:List Rw}{w:Rw}{r:Str}:ZQ (ws++[w]) r=ZQ ws r++(if Jy r w=true then[w] else[]):=by
 unfold ZQ;rw[List.filter_append]
 congr 1
 by_cases h:Jy r w=true
 ·rw[if_pos h,List.filter_cons_of_pos h]
  rfl
 ·rw[if_neg h,List.filter_cons_of_neg h]
  rfl
theorem ZnH{ws:List Rw}{w:Rw}:(ws++[w]).filter JR=ws.filter JR++(if JR w=true then[w] else[]):=by
 rw[List.filter_append]
 congr 1
 by_cases h:JR w=true
 ·rw[if_pos h,List.filter_cons_of_pos h]
  rfl
 ·rw[if_neg h,List.filter_cons_of_neg h]
  rfl
theorem ZkG(w:Rw):(JR w=true/\∀r,Jy r w=false)\/(JR w=false/\∀r,Jy r w=decide (w.one=r)):=by
 cases w with
 |put x s d=>exact .inr ⟨rfl,fun r=>rfl⟩
 |move x s d=>exact .inr ⟨rfl,fun r=>rfl⟩
 |deed x s d=>exact .inr ⟨rfl,fun r=>rfl⟩
 |lift x d=>exact .inl ⟨rfl,fun r=>rfl⟩
 |hold x c n d=>exact .inl ⟨rfl,fun r=>rfl⟩
def ZjC(H:Hp)(F:List Addr):Prop:=∀c∈F,(∃xs,H c=some (.lst xs))\/∃kv,H c=some (.dK kv)
theorem ZjC.tup{H H':Hp}{F:List Addr}(h:ZjC H F)(kp:ZeO F H H')(c:Addr)(xs:List V)(e:H c=some (.tup xs)):H' c=some (.tup xs):=kp c _ (fun m=>by
 rcases h c m with ⟨_,z⟩|⟨_,z⟩<;>rw[z] at e<;>cases e) e
theorem ZjC.ins{H H':Hp}{F:List Addr}(h:ZjC H F)(kp:ZeO F H H')(c C dx:Addr)(fs:List (Str×V))(e:H c=some (.ins C dx fs)):H' c=some (.ins C dx fs):=kp c _ (fun m=>by
 rcases h c m with ⟨_,z⟩|⟨_,z⟩<;>rw[z] at e<;>cases e) e
theorem YT{H H':Hp}(s:∀b xs,H b=some (.tup xs)->H' b=some (.tup xs)):∀{ds:List Addr} {ws:List Rw},Paired (ZcL H) ds ws->Paired (ZcL H') ds ws
 |_,_,.nil=> .nil
 |_,_,.cons h t=> .cons (s _ _ h) (YT s t)
theorem ZgX{H:Hp}{t o h r k w:Addr}{os:List (Str×Addr)}{ws hs:List Rw}{rn:List V}{ko kk_ kw:List (Key×V)}(ht:YF H t ws)(ho:H o=some (.dK ko))(oa:∀x∈os,∃us,YF H x.2 us)(hh:YF H h hs)(hr:H r=some (.lst rn))(hk:H k=some (.dK kk_))(hw:H w=some (.dK kw)):ZjC H (t::o::h::r::k::w::os.map (·.2)):=fun c hc=>by
 simp only [List.mem_cons] at hc
 rcases hc with rfl|rfl|rfl|rfl|rfl|rfl|m
 ·obtain⟨ds,e,_⟩:=ht;exact .inl ⟨_,e⟩
 ·exact .inr ⟨_,ho⟩
 ·obtain⟨ds,e,_⟩:=hh;exact .inl ⟨_,e⟩
 ·exact .inl ⟨_,hr⟩
 ·exact .inr ⟨_,hk⟩
 ·exact .inr ⟨_,hw⟩
 ·obtain⟨x,hx,rfl⟩:=List.mem_map.mp m;obtain⟨us,ds,e,_⟩:=oa x hx;exact .inl ⟨_,e⟩
theorem Zdq{cn ca cl ce:Addr}{H H':Hp}{p:Addr}{rs:List Sr}(s1:∀b xs,H b=some (.tup xs)->H' b=some (.tup xs))(s2:∀b C dx fs,H b=some (.ins C dx fs)->H' b=some (.ins C dx fs))(s3:∀u,H p=some u->H' p=some u):ZeN cn ca cl ce H p rs->ZeN cn ca cl ce H' p rs
 |⟨ds,h,t⟩=>⟨ds,s3 _ h,ZeF s1 s2 t⟩
theorem Zgx{α β:Type}:∀{os:List (α×β)} {x y:α×β},(os.map (·.1)).Nodup->x∈os->y∈os->x.1=y.1->x=y
 |z::os,x,y,nd,hx,hy,e=>by
  rw[List.map_cons] at nd
  obtain⟨off,rest⟩:=List.nodup_cons.mp nd;cases hx with
  |head=>
   cases hy with
   |head=>rfl
   |tail _ my=>exact absurd (List.mem_map.mpr ⟨y,my,e.symm⟩) off
  |tail _ mx=>
   cases hy with
   |head=>exact absurd (List.mem_map.mpr ⟨x,mx,e⟩) off
   |tail _ my=>exact Zgx rest mx my e
theorem ZjD{α β:Type}:∀{os:List (α×β)} {x y:α×β},(os.map (·.2)).Nodup->x∈os->y∈os->x.2=y.2->x=y
 |z::os,x,y,nd,hx,hy,e=>by
  rw[List.map_cons] at nd
  obtain⟨off,rest⟩:=List.nodup_cons.mp nd;cases hx with
  |head=>
   cases hy with
   |head=>rfl
   |tail _ my=>exact absurd (List.mem_map.mpr ⟨y,my,e.symm⟩) off
  |tail _ mx=>
   cases hy with
   |head=>exact absurd (List.mem_map.mpr ⟨x,mx,e⟩) off
   |tail _ my=>exact ZjD rest mx my e
theorem Zr0{H:Hp}{os:List (Str×Addr)}{ws:List Rw}(oa:ZpF H os ws):os.length<=ws.length:=by
 have sub:∀r∈os.map (·.1),r∈ws.map Rw.one:=fun r hr=>by
  obtain⟨w,hw⟩:=List.exists_mem_of_ne_nil _ ((oa.mem r).mp hr);obtain⟨h1,h2⟩:=List.mem_filter.mp hw;refine List.mem_map.mpr ⟨w,h1, ?_⟩;rcases ZkG w with ⟨_,no⟩|⟨_,yes⟩
  ·rw[no r] at h2;cases h2
  ·rw[yes r] at h2;exact of_decide_eq_true h2
 have:=oa.one.length_le_of_subset sub
 rwa [List.length_map,List.length_map] at this
theorem Zg2:ZC ["self","row"] ["self","row"] (Zt Zav):=⟨rfl,rfl,rfl,by decide+kernel,rfl,by decide+kernel,by decide+kernel⟩
theorem Zg3{f:Addr}{fd:FuncData}(F:Fun K "keep_row" "House.keep_row" Zav f fd)(T:Txt K mg Zh Zf Zg Zb Zo)(n:Nat):Yl P w K mg base CX0 (0+n+1+1) f fd ["self","row"] (Zc9 Zh Zf Zg Zb (n+1) Zo):=by
 refine F.ok Zg2 (fun vs H Q E h=> ?_) (fun cdv A outer s H vs Q E hr h=> ?_)
 ·obtain⟨a,d,w,s,F,rfl,_⟩:=h
  rfl
 ·obtain⟨a,d,w,s,F,rfl,_,⟨dx,b,t,o,h,r,k,wd,os,kvs,ha,hb,⟨ts,ht,pt⟩,ho,oa,⟨hs,hh,ph⟩,hr',hk,pk,hw,rfl,nd,nb⟩,hd,ls,q⟩:=h;have l5:=Xe;have hd:H d=some (.tup w.vs):=hd;have ki:=ZgX ⟨ts,ht,pt⟩ ho (fun x hx=>⟨_,oa.at_ x hx⟩) ⟨hs,hh,ph⟩ hr' hk hw;have lt:=Paired.length pt;refine⟨_,(Ze (Xh (ZaL PySem.F.plainAttrs_list PySem.F.slot_list_append PySem.F.type_list_append YC (Yg (pv 0) rfl) (Za (pv 1) Zj))) (Zn (ZZ (Zq ZcD (Zx ZG (pv 1) Zi (fun _ _=>rfl)) (YK (Za ZK (Za ZK Zj))) rfl) (Zn (Xh (ZaL PySem.F.plainAttrs_list PySem.F.slot_list_append PySem.F.type_list_append YC (Yg (pv 0) rfl) (Za (pv 1) Zj)))) (Zn (Xh (ZaL PySem.F.plainAttrs_list PySem.F.slot_list_append PySem.F.type_list_append YC (Zo8 (Yg (pv 0) rfl) (Zx ZG (pv 1) Zi (fun _ _=>rfl)) (Yk Zj) ⟨rfl,rfl,rfl,rfl⟩) (Za (pv 1) Zj))))))), ?_⟩
  refine⟨_,rfl,a,_,dx,_,_,rfl,ha,T.cl_House,T.n_House_told,ZqY ..,.inl ⟨rfl,_,SqL.of ht⟩,_,rfl,t,_,V.ref d,rfl,rfl,ht,by rw[List.length_map];omega, ?_⟩
  have k1:∀c u,c≠t->H c=some u->upd H t (.lst (ts.map V.ref++[.ref d])) c=some u:=fun c u n e=>by rw[Zm n];exact e
  have t1:upd H t (.lst (ts.map V.ref++[.ref d])) t=some (.lst ((ts++[d]).map V.ref)):=by rw[Zc,List.map_append];rfl
  generalize upd H t (.lst (ts.map V.ref++[.ref d]))=H1 at k1 t1
  have kn:∀c u,(∀xs,u≠.lst xs)->H c=some u->H1 c=some u:=fun c u n e=>k1 c u (fun z=>by rw[z,ht] at e;exact n _ (Option.some.inj e).symm) e
  have hd1:=kn d (.tup w.vs) (fun _ z=>nomatch z) hd;have ha1:=kn a (.ins Zo dx (fH b t o h r k wd)) (fun _ z=>nomatch z) ha;refine(ixT rfl (SqT.of hd1) (JX w) ⟨show 2<=sizeLine from sl,fun tt htt=>⟨tt,_,rfl,.inr (SqT.of Zc),rfl,rfl,_,rfl, ?_⟩⟩);have st:=Zk htt (o:=.tup [.str "hold",.str "lift"]);have k2:∀c u,c≠t->H c=some u->upd H1 tt (.tup [.str "hold",.str "lift"]) c=some u:=fun c u n e=>st _ _ (k1 c u n e)
  have t2:=st _ _ t1;have n2:∀{c:Addr},upd H1 tt (.tup [.str "hold",.str "lift"]) c=none->H c=none:=fun{c} z=>by
   cases e:H c with
   |none=>rfl
   |some u=>
    by_cases ct:c=t
    ·rw[ct,t2] at z;cases z
    ·rw[k2 c u ct e] at z;cases z
  have hd2:=st _ _ hd1;have ha2:=st _ _ ha1;generalize upd H1 tt (.tup [.str "hold",.str "lift"])=H2 at k2 t2 n2 hd2 ha2
  simp only [List.nodup_cons,List.mem_cons,not_or] at nd
  obtain⟨⟨nto,nth,ntr,ntk,ntw,nts⟩,⟨noh,nor,nok,now_,nos⟩,⟨nhr,nhk,nhw,nhs⟩,⟨nrk,nrw,nrs⟩,⟨nkw,nks⟩,nws,ndo⟩:=nd;simp only [List.mem_cons,not_or] at nb
  obtain⟨nbt,nbo,nbh,nbr,nbk,nbw,nbs⟩:=nb;have ho2:=k2 _ _ (Ne.symm nto) ho;have hh2:=k2 _ _ (Ne.symm nth) hh;have hr2:=k2 _ _ (Ne.symm ntr) hr';have hk2:=k2 _ _ (Ne.symm ntk) hk;have hw2:=k2 _ _ (Ne.symm ntw) hw;have lh:=Paired.length ph;have lh2:(s.ws.filter JR).length<=s.ws.length:=List.length_filter_le _ _;rcases ZkG w with ⟨hl,no⟩|⟨hl,ow⟩
  ·have inn:inV (.str w.word) [.str "hold",.str "lift"]=true:=by
    cases w with
    |hold x c n d=>exact Zhq _ _
    |lift x d=>exact ZfZ _ _
    |_=>cases hl
   refine(show(if inV (.str w.word) [.str "hold",.str "lift"]=true then _ else _) from ?_);rw[inn];refine JZ ⟨_,rfl,a,_,dx,_,_,rfl,ha2,T.cl_House,T.n_House_holdings,Zc7 ..,.inl ⟨rfl,_,SqL.of hh2⟩,_,rfl,h,_,V.ref d,rfl,rfl,hh2,by rw[List.length_map];omega, ?_⟩
   have k3:∀c u,c≠t->c≠h->H c=some u->upd H2 h (.lst (hs.map V.ref++[.ref d])) c=some u:=fun c u n1 n2 e=>by rw[Zm n2];exact k2 c u n1 e
   have h3:upd H2 h (.lst (hs.map V.ref++[.ref d])) h=some (.lst ((hs++[d]).map V.ref)):=by rw[Zc,List.map_append];rfl
   have t3:upd H2 h (.lst (hs.map V.ref++[.ref d])) t=some (.lst ((ts++[d]).map V.ref)):=by rw[Zm nth];exact t2
   have hd3:upd H2 h (.lst (hs.map V.ref++[.ref d])) d=some (.tup w.vs):=by rw[Zm (Yj hd2 hh2 (fun z=>nomatch z))];exact hd2
   generalize upd H2 h (.lst (hs.map V.ref++[.ref d]))=H3 at k3 h3 t3 hd3
   have kp:ZeO (t::o::h::r::k::wd::os.map (·.2)) H H3:=fun c u m e=>k3 c u (fun z=>m (by rw[z];exact List.mem_cons_self ..)) (fun z=>m (by rw[z];simp)) e
   have kt:=ki.tup kp;refine q H3 _ kp (fun b hb=> .inl hb) (fun b hb=>hb) ⟨dx,b,t,o,h,r,k,wd,os,kvs,ki.ins kp _ _ _ _ ha,Zdq kt (fun b C dx fs e=>ki.ins kp _ _ _ _ e) (fun u e=>k3 _ _ nbt nbh e) hb,⟨ts++[d],t3,Paired.snoc (YT kt pt) hd3⟩,k3 _ _ (Ne.symm nto) noh ho,⟨oa.one,fun r=> ?_,fun x hx=> ?_⟩,⟨hs++[d],h3, ?_⟩,k3 _ _ (Ne.symm ntr) (Ne.symm nhr) hr',k3 _ _ (Ne.symm ntk) (Ne.symm nhk) hk,JM kt pk,k3 _ _ (Ne.symm ntw) (Ne.symm nhw) hw,rfl, ?_, ?_⟩
   ·rw[ZaV,no r,if_neg Bool.false_ne_true,List.append_nil];exact oa.mem r
   ·obtain⟨us,e,pu⟩:=oa.at_ x hx;rw[ZaV,no x.1,if_neg Bool.false_ne_true,List.append_nil];exact⟨us,k3 _ _ (fun z=>nts (by rw[<-z];exact List.mem_map_of_mem hx)) (fun z=>nhs (by rw[<-z];exact List.mem_map_of_mem hx)) e,YT kt pu⟩
   ·rw[ZnH,if_pos hl];exact Paired.snoc (YT kt ph) hd3
   ·simp only [List.nodup_cons,List.mem_cons,not_or];exact⟨⟨nto,nth,ntr,ntk,ntw,nts⟩,⟨noh,nor,nok,now_,nos⟩,⟨nhr,nhk,nhw,nhs⟩,⟨nrk,nrw,nrs⟩,⟨nkw,nks⟩,nws,ndo⟩
   ·simp only [List.mem_cons,not_or];exact⟨nbt,nbo,nbh,nbr,nbk,nbw,nbs⟩
  ·have out:inV (.str w.word) [.str "hold",.str "lift"]=false:=by
    cases w with
    |put x s d=>exact Zb7 ZpQ ZpP
    |move x s d=>exact Zb7 Zta Zt8
    |deed x s d=>exact Zb7 Ztb Zt9
    |_=>cases hl
   refine(show(if inV (.str w.word) [.str "hold",.str "lift"]=true then _ else _) from ?_);rw[out];have hl2:∀{ws:List Rw},(ws++[w]).filter JR=ws.filter JR:=fun{ws}=>by rw[ZnH,if_neg (by rw[hl];exact Bool.false_ne_true),List.append_nil]
   have los:os.length<=s.ws.length:=Zr0 oa;refine Yt ⟨_,rfl,a,_,dx,_,_,rfl,ha2,T.cl_House,T.n_House_own,Zik ..,o,rfl,.inl ⟨_,.inl ho2⟩,ixT rfl (SqT.of hd2) (Zfi w) ⟨Nat.zero_le _,fun l hl0=> ?_⟩⟩;have sl0:=Zk hl0 (o:=.lst []);have k3:∀c u,c≠t->H c=some u->upd H2 l (.lst []) c=some u:=fun c u n e=>sl0 _ _ (k2 c u n e);have t3:=sl0 _ _ t2;have hd3:=sl0 _ _ hd2;have l3:upd H2 l (.lst []) l=some (.lst []):=Zc
   have nl:H l=none:=n2 hl0;generalize upd H2 l (.lst [])=H3 at k3 t3 hd3 l3
   have ho3:=k3 _ _ (Ne.symm nto) ho;refine⟨okv os,Sum.inr w.one,ho3,by unfold okv;rw[List.length_map];omega,rfl,fun v ev=> ?_,fun ev=> ?_⟩
   ·obtain⟨x,hx,x1⟩:∃x∈os,x.1=w.one:=by
     by_cases m:w.one∈os.map (·.1)
     ·obtain⟨x,hx,e⟩:=List.mem_map.mp m;exact⟨x,hx,e⟩
     ·rw[Zhr m] at ev
      cases ev
    rw[<-x1,Zgw oa.one x hx] at ev
    obtain rfl:=Option.some.inj ev;obtain⟨us,hu,pu⟩:=oa.at_ x hx;have xt:x.2≠t:=fun z=>nts (by rw[<-z];exact List.mem_map_of_mem hx)
    have hu3:=k3 _ _ xt hu;have lu:=Paired.length pu;have lu2:(ZQ s.ws x.1).length<=s.ws.length:=List.length_filter_le _ _;refine⟨.inl ⟨rfl,_,SqL.of hu3⟩,_,rfl,x.2,_,V.ref d,rfl,rfl,hu3,by rw[List.length_map];omega, ?_⟩
    have k4:∀c u,c≠t->c≠x.2->H c=some u->upd H3 x.2 (.lst (us.map V.ref++[.ref d])) c=some u:=fun c u n1 n2 e=>by rw[Zm n2];exact k3 c u n1 e
    have u4:upd H3 x.2 (.lst (us.map V.ref++[.ref d])) x.2=some (.lst ((us++[d]).map V.ref)):=by rw[Zc,List.map_append];rfl
    have t4:upd H3 x.2 (.lst (us.map V.ref++[.ref d])) t=some (.lst ((ts++[d]).map V.ref)):=by rw[Zm (Ne.symm xt)];exact t3
    have hd4:upd H3 x.2 (.lst (us.map V.ref++[.ref d])) d=some (.tup w.vs):=by rw[Zm (Yj hd3 hu3 (fun z=>nomatch z))];exact hd3
    generalize upd H3 x.2 (.lst (us.map V.ref++[.ref d]))=H4 at k4 u4 t4 hd4
    have mx:x.2∈os.map (·.2):=List.mem_map_of_mem hx;have kp:ZeO (t::o::h::r::k::wd::os.map (·.2)) H H4:=fun c u m e=>k4 c u (fun z=>m (by rw[z];exact List.mem_cons_self ..)) (fun z=>m (by rw[z];simp only [List.mem_cons];exact .inr (.inr (.inr (.inr (.inr (.inr mx))))))) e
    have kt:=ki.tup kp;have ne:∀{c:Addr},c∉os.map (·.2)->c≠x.2:=fun m z=>m (by rw[z];exact mx)
    refine q H4 _ kp (fun b hb=> .inl hb) (fun b hb=>hb) ⟨dx,b,t,o,h,r,k,wd,os,kvs,ki.ins kp _ _ _ _ ha,Zdq kt (fun b C dx fs e=>ki.ins kp _ _ _ _ e) (fun u e=>k4 _ _ nbt (ne nbs) e) hb,⟨ts++[d],t4,Paired.snoc (YT kt pt) hd4⟩,k4 _ _ (Ne.symm nto) (ne nos) ho,⟨oa.one,fun r=> ?_,fun y hy=> ?_⟩,⟨hs,k4 _ _ (Ne.symm nth) (ne nhs) hh,by rw[hl2];exact YT kt ph⟩,k4 _ _ (Ne.symm ntr) (ne nrs) hr',k4 _ _ (Ne.symm ntk) (ne nks) hk,JM kt pk,k4 _ _ (Ne.symm ntw) (ne nws) hw,rfl, ?_, ?_⟩
    ·rw[ZaV,ow r]
     by_cases z:w.one=r
     ·rw[if_pos (decide_eq_true z),<-z,<-x1];exact⟨fun _ y=>(List.append_ne_nil_of_right_ne_nil _ (List.cons_ne_nil _ _)) y,fun _=>List.mem_map_of_mem hx⟩
     ·rw[if_neg (by rw[decide_eq_false z];exact Bool.false_ne_true),List.append_nil]
      exact oa.mem r
    ·obtain⟨vs,ev2,pv⟩:=oa.at_ y hy;rw[ZaV,ow y.1]
     by_cases z:w.one=y.1
     ·obtain rfl:x=y:=Zgx oa.one hx hy (x1.trans z);rw[if_pos (decide_eq_true z)];exact⟨us++[d],u4,Paired.snoc (YT kt pu) hd4⟩
     ·rw[if_neg (by rw[decide_eq_false z];exact Bool.false_ne_true),List.append_nil]
      exact⟨vs,k4 _ _ (fun q=>nts (by rw[<-q];exact List.mem_map_of_mem hy)) (fun q=>z (by rw[<-x1,ZjD ndo hx hy q.symm])) ev2,YT kt pv⟩
    ·simp only [List.nodup_cons,List.mem_cons,not_or];exact⟨⟨nto,nth,ntr,ntk,ntw,nts⟩,⟨noh,nor,nok,now_,nos⟩,⟨nhr,nhk,nhw,nhs⟩,⟨nrk,nrw,nrs⟩,⟨nkw,nks⟩,nws,ndo⟩
    ·simp only [List.mem_cons,not_or];exact⟨nbt,nbo,nbh,nbr,nbk,nbw,nbs⟩
   ·have m:w.one∉os.map (·.1):=fun z=>by
     obtain⟨x,hx,e⟩:=List.mem_map.mp z;rw[<-e,Zgw oa.one x hx] at ev
     cases ev
    rw[ZqZ m];have lo:l≠o:=Ne.symm (Zd ho nl);have lt_:l≠t:=Ne.symm (Zd ht nl);have l4:upd H3 o (.dK (okv (os++[(w.one,l)]))) l=some (.lst []):=by rw[Zm lo];exact l3
    refine⟨.inl ⟨rfl,_,SqL.of l4⟩,_,rfl,l,[],V.ref d,rfl,rfl,l4,by show 0<sizeLine;omega, ?_⟩
    have k4:∀c u,c≠t->c≠o->H c=some u->upd (upd H3 o (.dK (okv (os++[(w.one,l)])))) l (.lst [.ref d]) c=some u:=fun c u n1 n2 e=>by rw[Zm (Zd e nl),Zm n2];exact k3 c u n1 e
    have l5':upd (upd H3 o (.dK (okv (os++[(w.one,l)])))) l (.lst [.ref d]) l=some (.lst ([d].map V.ref)):=Zc;have o5:upd (upd H3 o (.dK (okv (os++[(w.one,l)])))) l (.lst [.ref d]) o=some (.dK (okv (os++[(w.one,l)]))):=by rw[Zm (Ne.symm lo),Zc]
    have t5:upd (upd H3 o (.dK (okv (os++[(w.one,l)])))) l (.lst [.ref d]) t=some (.lst ((ts++[d]).map V.ref)):=by rw[Zm (Ne.symm lt_),Zm nto];exact t3
    have hd5:upd (upd H3 o (.dK (okv (os++[(w.one,l)])))) l (.lst [.ref d]) d=some (.tup w.vs):=by rw[Zm (Zd hd nl),Zm (Yj hd3 ho3 (fun z=>nomatch z))];exact hd3
    show Q .non (upd (upd H3 o (.dK (okv (os++[(w.one,l)])))) l (.lst [.ref d]));generalize upd (upd H3 o (.dK (okv (os++[(w.one,l)])))) l (.lst [.ref d])=H5 at k4 l5' o5 t5 hd5
    have kp:ZeO (t::o::h::r::k::wd::os.map (·.2)) H H5:=fun c u m e=>k4 c u (fun z=>m (by rw[z];exact List.mem_cons_self ..)) (fun z=>m (by rw[z];simp)) e
    have kt:=ki.tup kp;have fre:∀{c:Addr} {u:HO},H c=some u->c≠l:=fun e=>Zd e nl;refine q H5 (t::o::h::r::k::wd::(os++[(w.one,l)]).map (·.2)) kp (fun c hc=> ?_) (fun c hc=>by simp only [List.map_append,List.mem_cons,List.mem_append] at hc⊢;rcases hc with z|z|z|z|z|z|z<;>simp[z]) ⟨dx,b,t,o,h,r,k,wd,os++[(w.one,l)],kvs,ki.ins kp _ _ _ _ ha,Zdq kt (fun b C dx fs e=>ki.ins kp _ _ _ _ e) (fun u e=>k4 _ _ nbt nbo e) hb,⟨ts++[d],t5,Paired.snoc (YT kt pt) hd5⟩,o5,⟨?_,fun r=> ?_,fun y hy=> ?_⟩,⟨hs,k4 _ _ (Ne.symm nth) (Ne.symm noh) hh,by rw[hl2];exact YT kt ph⟩,k4 _ _ (Ne.symm ntr) (Ne.symm nor) hr',k4 _ _ (Ne.symm ntk) (Ne.symm nok) hk,JM kt pk,k4 _ _ (Ne.symm ntw) (Ne.symm now_) hw,rfl, ?_, ?_⟩
    ·simp only [List.map_append,List.map_cons,List.map_nil,List.mem_cons,List.mem_append,List.mem_nil_iff,or_false] at hc⊢
     rcases hc with z|z|z|z|z|z|z|z
     ·exact .inl (.inl z)
     ·exact .inl (.inr (.inl z))
     ·exact .inl (.inr (.inr (.inl z)))
     ·exact .inl (.inr (.inr (.inr (.inl z))))
     ·exact .inl (.inr (.inr (.inr (.inr (.inl z)))))
     ·exact .inl (.inr (.inr (.inr (.inr (.inr (.inl z))))))
     ·exact .inl (.inr (.inr (.inr (.inr (.inr (.inr z))))))
     ·exact .inr (by rw[z];exact nl)
    ·rw[List.map_append];exact List.nodup_append.mpr ⟨oa.one,by simp,fun x hx y hy z=>m (by have e:y=w.one:=List.mem_singleton.mp hy;rw[<-e,<-z];exact hx)⟩
    ·rw[ZaV,ow r,List.map_append,List.mem_append,List.map_singleton,List.mem_singleton]
     by_cases z:w.one=r
     ·rw[if_pos (decide_eq_true z)];exact⟨fun _ y=>(List.append_ne_nil_of_right_ne_nil _ (List.cons_ne_nil _ _)) y,fun _=> .inr z.symm⟩
     ·rw[if_neg (by rw[decide_eq_false z];exact Bool.false_ne_true),List.append_nil]
      exact⟨fun y=>y.elim (oa.mem r).mp fun e=>absurd e.symm z,fun y=> .inl ((oa.mem r).mpr y)⟩
    ·rw[ZaV,ow y.1];rcases List.mem_append.mp hy with old|new
     ·have z:¬w.one=y.1:=fun z=>m (by rw[z];exact List.mem_map_of_mem old)
      obtain⟨vs,ev2,pv⟩:=oa.at_ y old;rw[if_neg (by rw[decide_eq_false z];exact Bool.false_ne_true),List.append_nil]
      exact⟨vs,k4 _ _ (fun q=>nts (by rw[<-q];exact List.mem_map_of_mem old)) (fun q=>nos (by rw[<-q];exact List.mem_map_of_mem old)) ev2,YT kt pv⟩
     ·rw[List.mem_singleton.mp new];have em:ZQ s.ws w.one=[]:=Classical.not_not.mp fun z=>m ((oa.mem w.one).mpr z);show YF H5 l (ZQ s.ws w.one++if decide (w.one=w.one)=true then[w] else[]);rw[em,if_pos (decide_eq_true rfl)];exact⟨[d],l5',.cons hd5 .nil⟩
    ·have hl':h≠l:=fre hh;have rl:r≠l:=fre hr';have kl:k≠l:=fre hk;have wl:wd≠l:=fre hw;have sl':l∉os.map (·.2):=fun z=>by
      obtain⟨x,hx,e⟩:=List.mem_map.mp z;obtain⟨us,e2,_⟩:=oa.at_ x hx;rw[e] at e2
      exact fre e2 rfl
     simp only [List.map_append,List.map_cons,List.map_nil,List.nodup_cons,List.mem_cons,List.mem_append,List.mem_nil_iff,or_false,not_or];exact⟨⟨nto,nth,ntr,ntk,ntw,nts,Ne.symm lt_⟩,⟨noh,nor,nok,now_,nos,Ne.symm lo⟩,⟨nhr,nhk,nhw,nhs,hl'⟩,⟨nrk,nrw,nrs,rl⟩,⟨nkw,nks,kl⟩,⟨nws,wl⟩,List.nodup_append.mpr ⟨ndo,by simp,fun x hx y hy z=>sl' (by rw[<-List.mem_singleton.mp hy,<-z];exact hx)⟩⟩
    ·obtain⟨bds,hbl,_⟩:=hb;simp only [List.map_append,List.map_cons,List.map_nil,List.mem_cons,List.mem_append,List.mem_nil_iff,or_false,not_or];exact⟨nbt,nbo,nbh,nbr,nbk,nbw,nbs,fre hbl⟩
structure ZpY (s:Hs) (w:Rw):Prop where
 put:w.word="put"->Xm s.ws w.one=false
 held:w.word="hold"->s.ws.any (Ji w.one)=false
 ser:∀n∈Zaj w,n∈s.rs.map Sr.nm
def ZaJ(cn ca cl ce:Addr)(n:Nat)(C:Addr):Sp:=fun vs H Q _=>∃(a d:Addr) (w:Rw) (s:Hs) (F:List Addr),vs=[.ref a,.ref d]/\0<n/\ZL cn ca cl ce C H a s F/\ZcL H d w/\s.ws.length<=900/\s.rs.length<=63/\ZpY s w/\∀H',Zy H H'->Q .non H'
theorem Zhc{cn ca cl ce C:Addr}:∀vs H Q E,¬ZaJ cn ca cl ce 0 C vs H Q E:=fun _ _ _ _ ⟨_,_,_,_,_,_,z,_⟩=>Nat.lt_irrefl 0 z
theorem ZnI(h:Str):∀ws:List Rw,(ws.filter JR).any (Ji h)=ws.any (Ji h)
 |[]=>rfl
 |w::ws=>by
  have ih:=ZnI h ws;cases e:JR w with
  |true=>rw[List.filter_cons_of_pos e,List.any_cons,List.any_cons,ih]
  |false=>
   rw[List.filter_cons_of_neg (by rw[e];exact Bool.false_ne_true),List.any_cons,ih]
   cases w with
   |hold _ _ _ _=>cases e
   |_=>rfl
theorem ZpZ{cn ca cl ce:Addr}{H:Hp}{ds:List Addr}{rs:List Sr}(pr:Paired (ZcK cn ca cl ce H) ds rs)(j:Nat)(d:Addr)(e:ds[j]? =some d):∃r v,rs[j]? =some r/\H d=some (.tup [.str r.nm,oS r.el,v]):=by
 obtain⟨r,er,v,row,_⟩:=Ye pr j d e;exact⟨r,v,er,row⟩
theorem JN:ZC ["self","row","name","series"] ["self","row"] (Zt Za0):=⟨rfl,rfl,rfl,by decide+kernel,rfl,by decide+kernel,by decide+kernel⟩
theorem ZeP{f:Addr}{fd:FuncData}(F:Fun K "refuse_row" "House.refuse_row" Za0 f fd)(T:Txt K mg Zh Zf Zg Zb Zo)(n:Nat)(Zgy:Cal P w K mg base CX0 1 "is_laid" ["rows","hold"] Zff)(Zak:Cal P w K mg base CX0 1 "is_put" ["rows","record"] ZcN)(ZbQ:Cal P w K mg base CX0 1 "series_named" ["row"] Zb6):Yl P w K mg base CX0 (1+n+1+1) f fd ["self","row"] (ZaJ Zh Zf Zg Zb (n+1) Zo):=by
 refine F.ok JN (fun vs H Q E h=> ?_) (fun cdv A outer s H vs Q E hr h=> ?_)
 ·obtain⟨a,d,w,s,F,rfl,_⟩:=h
  rfl
 ·obtain⟨a,d,w,s,F,rfl,_,⟨dx,b,t,o,h,r,k,wd,os,kvs,ha,⟨bs,hb,pb⟩,⟨ts,ht,pt⟩,ho,oa,⟨hs,hh,ph⟩,hr',hk,pk,hw,_⟩,hd,ls,lr,tk,q⟩:=h;have l5:=Xe;have hu:=Zbg hr;have hd:H d=some (.tup w.vs):=hd;have lbs:=Paired.length pb;refine⟨_,(Ze (Zu (i:=2) JN.nd rfl (Or.inl rfl) (Zx ZG (pv 1) Zi (fun _ _=>rfl))) (Ze (ZZ (PW.pt (Xz (Zq Ym (Zx ZG (pv 1) Zi (fun _ _=>rfl)) ZK (Zv _)) (YX (ZdE (ZV Zak (hr.mono (by omega)) rfl ZJ (Za (ZhD hu (Yg (pv 0) rfl) (pv 2) (Yk Zj) ⟨rfl,rfl,rfl,rfl⟩) (Za (pv 2) Zj))))))) (Zn ZfF) ZD) (Ze (ZZ (PW.pt (Xz (Zq Ym (Zx ZG (pv 1) Zi (fun _ _=>rfl)) ZK (Zv _)) (YX (ZdE (ZV Zgy (hr.mono (by omega)) rfl ZJ (Za (Yg (pv 0) rfl) (Za (pv 2) Zj))))))) (Zn ZfF) ZD) (Zn (Xi PassesOwn.never rfl (Yb (ZV ZbQ (hr.mono (by omega)) rfl ZJ (Za (pv 1) Zj))) (ZF (i:=3) JN.nd rfl (Or.inl rfl)) (Zn (ZZ (Zq Zd1 (pv 3) (Jc ["known"] [] rfl (Yb (Yg (pv 0) rfl)) (by rfl) (by exact trivial) (by rfl) (by exact trivial) (fun _ _ _ _=>(ZF (i:=0) (show(nmY ["known"] []).Nodup by decide+kernel) rfl (Or.inl rfl))) (fun _ _ _ _=>Zc1) (fun _ _ _ _=>(Zx (Yu (K:=K) rfl) (pv 0) Zi (fun _ _=>rfl)))) rfl) (Zn ZfF) ZD))))))), ?_⟩
  refine(ixT rfl (SqT.of hd) (Zfi w) ?_);refine(fun(rest:∀(σ':L2.St) (H1:Hp),σ'=[some (.ref a),some (.ref d),some (.str w.one),none]->Zy H H1->(_:L2.St->Hp->Prop) σ' H1)=>
   ixT rfl (SqT.of hd) (JX w) ⟨rfl,_,rfl,YQ (fun e=> ?yes) (fun e=>Yt (rest _ H rfl (Zy.refl _)))⟩) ?rest
  case yes=>
   have e:w.word="put":=by injection of_decide_eq_true e
   have no:=tk.put e;refine⟨_,rfl,a,_,dx,_,_,rfl,ha,T.cl_House,T.n_House_own,Zik ..,o,rfl,.inl ⟨_,.inl ho⟩,_,rfl,Nat.zero_le _,fun l hl=> ?_⟩;have sl0:=Zk hl (o:=.lst []);have ho1:=sl0 _ _ ho;refine⟨Yp (okv os) (Sum.inr w.one),.inl ⟨okv os,Sum.inr w.one,.inl ho1,rfl,rfl⟩, ?_⟩
   by_cases m:w.one∈os.map (·.1)
   ·obtain⟨x,hx,e2⟩:=List.mem_map.mp m;have ev:=Zgw oa.one x hx;rw[e2] at ev
    rw[ev];have at2:=Yh sl0 (oa.at_ x hx);have lu2:(ZQ s.ws x.1).length<=s.ws.length:=List.length_filter_le _ _;refine⟨_,rfl,x.2,ZQ s.ws x.1,w.one,rfl,at2,by omega,fun H2 s2=>⟨_,rfl, ?_⟩⟩;have nu:Xm (ZQ s.ws x.1) w.one=false:=by rw[e2];exact(ZkD w.one s.ws).trans no
    rw[nu];exact Yt (rest _ H2 rfl (sl0.trans s2))
   ·rw[Zhr m];exact⟨_,rfl,l,[],w.one,rfl,⟨[],Zc,.nil⟩,Nat.zero_le _,fun H2 s2=>⟨_,rfl,Yt (rest _ H2 rfl (sl0.trans s2))⟩⟩
  case rest=>
   rintro σ' H1 rfl s1;have hd1:=s1 _ _ hd;have ha1:=s1 _ _ ha;refine(fun(rest2:∀(σ':L2.St) (H2:Hp),σ'=[some (.ref a),some (.ref d),some (.str w.one),none]->Zy H H2->(_:L2.St->Hp->Prop) σ' H2)=>
    ixT rfl (SqT.of hd1) (JX w) ⟨rfl,_,rfl,YQ (fun e=> ?yes2) (fun e=>Yt (rest2 _ H1 rfl s1))⟩) ?rest2
   case yes2=>
    have e:w.word="hold":=by injection of_decide_eq_true e
    have lh2:(s.ws.filter JR).length<=s.ws.length:=List.length_filter_le _ _;refine⟨_,rfl,a,_,dx,_,_,rfl,ha1,T.cl_House,T.n_House_holdings,Zc7 ..,_,rfl,h,_,w.one,rfl,Yh s1 ⟨hs,hh,ph⟩,by omega,fun H2 s2=>⟨_,rfl, ?_⟩⟩;rw[ZnI,tk.held e];exact Yt (rest2 _ H2 rfl (s1.trans s2))
   case rest2=>
    rintro σ' H2 rfl s2;have hd2:=s2 _ _ hd;refine⟨_,rfl,d,w,rfl,hd2,fun L H3 hL s3 hL3=> ?_⟩;have s23:=s2.trans s3;refine⟨L,rfl,⟨_,SqL.of hL3⟩,YH (xs:=(Zaj w).map V.str) (fun i σ H'=>∃v3:Option V,σ=[some (.ref a),some (.ref d),some (.str w.one),v3]/\Zy H3 H') ?_ ?_ ?_ ?_⟩
    ·exact⟨none,rfl,Zy.refl _⟩
    ·rintro i σ H4 _ ⟨v3,rfl,s4⟩;exact SqL.of (s4 _ _ hL3)
    ·rintro i x σ H4 hx ⟨v3,rfl,s4⟩;obtain⟨n,rfl,en⟩:∃n,x=V.str n/\n∈Zaj w:=by
      rw[List.getElem?_map] at hx
      cases e:(Zaj w)[i]? with
      |none=>rw[e] at hx;cases hx
      |some y=>rw[e] at hx;exact⟨y,(Option.some.inj hx).symm,List.mem_of_getElem? e⟩
     have s24:=s23.trans s4;have ha4:=s24 _ _ ha;have hb4:=s24 _ _ hb;refine⟨_,rfl,_,rfl,a,_,dx,_,_,rfl,ha4,T.cl_House,T.n_House_book,ZeI ..,b,rfl,⟨_,SqL.of hb4⟩,Xa bs.length (fun j=>[((s.rs[j]?).map fun r=>V.str r.nm).getD .non]) (by omega) (fun j=>Nat.le_refl 1) (fun j H5 s5 lt=>⟨_,_,SqL.of (s5 _ _ hb4),List.getElem?_eq_getElem (by rw[List.length_map];exact lt)⟩) (fun H5 s5=>⟨_,SqL.of (s5 _ _ hb4),by rw[List.length_map];exact Nat.le_refl _⟩) (fun j y H5 H6 s5 lt yl RT RF rt rf=> ?_) fun D H5 hD s5 d5=> ?_⟩
     ·obtain⟨rfl,yl⟩:=yl;obtain⟨dd,rfl,ed⟩:=Xb (yl _ (SqL.of (s5 _ _ hb4)));obtain⟨r1,v,er,row⟩:=ZpZ (Zbt (s24.trans s5) pb) j dd ed;rw[er] at rt
      exact⟨trivial,Zji (ixT rfl (SqT.of row) rfl (rt _ _ rfl (Zy.refl _)))⟩
     have e6:(List.range bs.length).flatMap (fun j=>[((s.rs[j]?).map fun r=>V.str r.nm).getD .non])=(s.rs.map Sr.nm).map V.str:=by
      rw[Jm,lbs,ZcF s.rs (fun r=>V.str r.nm) .non,List.map_map]
      rfl
     rw[e6] at d5
     refine⟨D,_,rfl,.inl (SqL.of d5),rfl,ZeG _,_,rfl, ?_⟩;show if(!inV (.str n) ((s.rs.map Sr.nm).map V.str))=true then _ else _;rw[Zhp,decide_eq_true (tk.ser n en)];exact Yt ⟨_,rfl,s4.trans s5⟩
    ·rintro σ H4 ⟨v3,rfl,s4⟩;exact q H4 (s23.trans s4)
def Zbn(z:Str)(wd:List (Str×Str)):List Str:=(wd.filter fun x=>decide (x.2=z)).map (·.1)
def Zca(s:Hs)(w:Rw):List Str:=match w with
 | .hold _ _ _ _=>Zbn "due" s.wd
 | .lift _ _=>Zbn "held" s.wd
 | .put x _ _=>if x∈s.wd.map (·.1) then[x] else[]
 | .move x _ _=>if x∈s.wd.map (·.1) then[x] else[]
 | .deed x _ _=>if x∈s.wd.map (·.1) then[x] else[]
def ZaK(cn ca cl ce:Addr)(n:Nat)(C:Addr):Sp:=fun vs H Q _=>∃(a d:Addr) (w:Rw) (s:Hs) (F:List Addr),vs=[.ref a,.ref d]/\0<n/\ZL cn ca cl ce C H a s F/\ZcL H d w/\s.wd.length<=900/\∀L H',H L=none->Zy H H'->H' L=some (.lst ((Zca s w).map V.str))->Q (.ref L) H'
theorem Zhd{cn ca cl ce C:Addr}:∀vs H Q E,¬ZaK cn ca cl ce 0 C vs H Q E:=fun _ _ _ _ ⟨_,_,_,_,_,_,z,_⟩=>Nat.lt_irrefl 0 z
def Zbi(z:Str)(kv:Key×V):List V:=if kv.2=V.str z then[kV kv.1] else[]
theorem Zfp(z:Str):∀wd:List (Str×Str),(wkv wd).flatMap (Zbi z)=(Zbn z wd).map V.str
 |[]=>rfl
 |x::wd=>by
  show Zbi z (Sum.inr x.1,V.str x.2)++(wkv wd).flatMap (Zbi z)=_;rw[Zfp z wd];unfold Zbi Zbn
  by_cases e:x.2=z
  ·rw[if_pos (by rw[e]),List.filter_cons_of_pos (by exact decide_eq_true e)]
   rfl
  ·rw[if_neg (by exact vne e),List.filter_cons_of_neg (by exact fun y=>e (of_decide_eq_true y))]
   rfl
theorem ZeJ:∀{wd:List (Str×Str)} {r:Str},(Yp (wkv wd) (Sum.inr r)).isSome=decide (r∈wd.map (·.1))
 |[],_=>rfl
 |x::wd,r=>by
  show(Yp ((Sum.inr x.1,V.str x.2)::wkv wd) (Sum.inr r)).isSome=_
  by_cases e:x.1=r
  ·rw[Yr (by rw[e])];exact(decide_eq_true (by rw[List.map_cons,e];exact List.mem_cons_self ..)).symm
  ·rw[Yn (by exact fun z=>e (by injection z)),ZeJ];refine decide_eq_decide.mpr ⟨fun m=> ?_,fun m=> ?_⟩
   ·rw[List.map_cons];exact List.mem_cons_of_mem _ m
   ·rw[List.map_cons] at m
    cases m with
    |head=>exact absurd rfl e
    |tail _ m=>exact m
theorem ZeQ:ZC ["self","row"] ["self","row"] (Zt Za1):=⟨rfl,rfl,rfl,by decide+kernel,rfl,by decide+kernel,by decide+kernel⟩
theorem ZeR{f:Addr}{fd:FuncData}(F:Fun K "touched_by" "House.touched_by" Za1 f fd)(T:Txt K mg Zh Zf Zg Zb Zo)(n:Nat):Yl P w K mg base CX0 (0+n+1+1) f fd ["self","row"] (ZaK Zh Zf Zg Zb (n+1) Zo):=by
 refine F.ok ZeQ (fun vs H Q E h=> ?_) (fun cdv A outer s H vs Q E hr h=> ?_)
 ·obtain⟨a,d,w,s,F,rfl,_⟩:=h
  rfl
 ·obtain⟨a,d,w,s,F,rfl,_,⟨dx,b,t,o,h,r,k,wd,os,kvs,ha,_,_,_,_,_,_,_,_,hw,_⟩,hd,lw,q⟩:=h;have l5:=Xe;have hu:=Zbg hr;have hd:H d=some (.tup w.vs):=hd;have lk1:(wkv s.wd).length<=sizeLine:=by
   unfold wkv;rw[List.length_map];omega
  have nf:∀o u,H wd≠some (.frz o u):=fun o u z=>by rw[hw] at z;cases z
  have fin:∀(z:Str) (D v:Addr) (o:Obj) (H2:Hp),H v=none->Zy (upd (upd H v (ZcE v wd)) wd (.frz o (.dK (wkv s.wd)))) H2->upd (upd H v (ZcE v wd)) wd (.frz o (.dK (wkv s.wd))) D=none->H2 D=some (.lst ((Zbn z s.wd).map V.str))->Zca s w=Zbn z s.wd->∃c H3,ZmA H c H2 H3/\Q (.ref D) H3:=fun z D v o H2 hv0 s2 hD d2 e=>by
   have hva:v≠wd:=fun y=>by rw[y,hw] at hv0;cases hv0
   have hDa:D≠wd:=fun y=>by rw[y,Zc] at hD;cases hD
   have hDv:D≠v:=fun y=>by rw[y,Zm hva,Zc] at hD;cases hD
   have fs:Zjj wd (wkv s.wd) H H2:=⟨fun b u n y=>s2 b u (by rw[Zm n,Zm (Zd y hv0)];exact y),o,s2 _ _ Zc⟩
   obtain⟨t1,t2⟩:=fs.thaw hw nf;exact⟨wd,_,t1,q D _ (by rw[Zm hDa,Zm hDv] at hD;exact hD) t2 (by rw[Zm hDa,d2,e])⟩
  refine⟨_,(Ze (ZZ (Zq Ym (Zx ZG (pv 1) Zi (fun _ _=>rfl)) ZK (Zv _)) (Zn (Zz (ZhO (Jc ["record","word"] [] rfl (Zlg (Zlf (Yg (pv 0) rfl))) (by rfl) (by exact trivial) (by rfl) (by exact trivial) (fun _ _ _ _=>(Znq (K:=K) 2 rfl rfl (Xp (ZF (i:=0) (show(nmY ["record","word"] []).Nodup by decide+kernel) rfl (Or.inl rfl) (Or.inr rfl)) (Xp (ZF (i:=1) (show(nmY ["record","word"] []).Nodup by decide+kernel) rfl (Or.inl rfl) (Or.inr rfl)) ZcZ)) rfl rfl)) (fun _ _ _ _=>(Jw (Zq Ym (pv 1) ZK (Zv _)))) (fun _ _ _ _=>(pv 0)))))) ZD) (Ze (ZZ (Zq Ym (Zx ZG (pv 1) Zi (fun _ _=>rfl)) ZK (Zv _)) (Zn (Zz (ZhO (Jc ["record","word"] [] rfl (Zlg (Zlf (Yg (pv 0) rfl))) (by rfl) (by exact trivial) (by rfl) (by exact trivial) (fun _ _ _ _=>(Znq (K:=K) 2 rfl rfl (Xp (ZF (i:=0) (show(nmY ["record","word"] []).Nodup by decide+kernel) rfl (Or.inl rfl) (Or.inr rfl)) (Xp (ZF (i:=1) (show(nmY ["record","word"] []).Nodup by decide+kernel) rfl (Or.inl rfl) (Or.inr rfl)) ZcZ)) rfl rfl)) (fun _ _ _ _=>(Jw (Zq Ym (pv 1) ZK (Zv _)))) (fun _ _ _ _=>(pv 0)))))) ZD) (Zn (Zz (Jc ["record"] [("self",0)] rfl (Yb (Yk (Za (Zx ZG (pv 1) Zi (fun _ _=>rfl)) Zj))) (by rfl) (by exact⟨rfl,trivial⟩) (by rfl) (by exact⟨⟨rfl,rfl,rfl⟩,trivial⟩) (fun _ _ _ _=>(ZF (i:=0) (show(nmY ["record"] [("self",0)]).Nodup by decide+kernel) rfl (Or.inl rfl))) (fun _ _ _ _=>(Jw (ZcY (ZjZ hu (pv 0) (Znt (K:=K) rfl (pv 1) rfl))))) (fun _ _ _ _=>(pv 0))))))), ?_⟩
  cases w with
  |hold x c n y=>
   refine(ixT rfl (SqT.of hd) rfl ⟨rfl,_,rfl,Zcl rfl ?_⟩);refine⟨_,rfl,a,_,dx,_,_,rfl,ha,T.cl_House,T.n_House_words,ZaU ..,wd,_,rfl,hw,fun v hv0=>⟨v,wd,_,rfl,Zc,by rw[Zm (Zd hw hv0)];exact hw,fun ob=> ?_⟩⟩
   refine Xa (wkv s.wd).length (fun i=>(((wkv s.wd)[i]?).map (Zbi "due")).getD []) lk1 (fun i=> ?_) (fun i H2 s lt=>⟨s _ _ Zc,lt⟩) (fun H2 s=>⟨s _ _ Zc,Nat.le_refl _⟩) (fun i x H2 H3 s2 lt y RT RF rt rf=> ?_) fun D H2 hD s2 d2=> ?_
   ·cases(wkv s.wd)[i]? with
    |none=>exact Nat.zero_le _
    |some kv=>
     show(Zbi "due" kv).length<=1;unfold Zbi
     split
     ·exact Nat.le_refl _
     ·exact Nat.zero_le _
   ·obtain⟨kv,p,e2,hp,e3,e4⟩:=y;subst e3 e4;rw[e2] at rt rf
    have rt:∀v H6,Zbi "due" kv=[v]->_:=rt;have rf:∀H5,Zbi "due" kv=[]->_:=rf;obtain⟨x0,_,rfl⟩:=List.mem_map.mp (List.mem_of_getElem? e2);have s3:Zy H2 (upd H2 p (.tup [kV (Sum.inr x0.1),V.str x0.2])):=Zk hp;exact⟨p,_,rfl,SqT.of Zc,rfl,_,_,rfl,_,_,rfl,rfl,trivial,_,rfl,rfl,_,rfl,YQ (fun e=>⟨_,rfl,rt _ _ (if_pos (of_decide_eq_true e)) s3⟩) (fun e=>rf _ (if_neg fun y=>e (decide_eq_true y)) s3)⟩
   ·rw[Xq (Zbi "due") (wkv s.wd),Zfp] at d2
    exact fin "due" D v ob H2 hv0 s2 hD d2 rfl
  |lift x y=>
   refine(ixT rfl (SqT.of hd) rfl ⟨rfl,_,rfl,YJ (vne ZlB) (ixT rfl (SqT.of hd) rfl ⟨rfl,_,rfl,Zcl rfl ?_⟩)⟩);refine⟨_,rfl,a,_,dx,_,_,rfl,ha,T.cl_House,T.n_House_words,ZaU ..,wd,_,rfl,hw,fun v hv0=>⟨v,wd,_,rfl,Zc,by rw[Zm (Zd hw hv0)];exact hw,fun ob=> ?_⟩⟩
   refine Xa (wkv s.wd).length (fun i=>(((wkv s.wd)[i]?).map (Zbi "held")).getD []) lk1 (fun i=> ?_) (fun i H2 s lt=>⟨s _ _ Zc,lt⟩) (fun H2 s=>⟨s _ _ Zc,Nat.le_refl _⟩) (fun i x H2 H3 s2 lt y RT RF rt rf=> ?_) fun D H2 hD s2 d2=> ?_
   ·cases(wkv s.wd)[i]? with
    |none=>exact Nat.zero_le _
    |some kv=>
     show(Zbi "held" kv).length<=1;unfold Zbi
     split
     ·exact Nat.le_refl _
     ·exact Nat.zero_le _
   ·obtain⟨kv,p,e2,hp,e3,e4⟩:=y;subst e3 e4;rw[e2] at rt rf
    have rt:∀v H6,Zbi "held" kv=[v]->_:=rt;have rf:∀H5,Zbi "held" kv=[]->_:=rf;obtain⟨x0,_,rfl⟩:=List.mem_map.mp (List.mem_of_getElem? e2);have s3:Zy H2 (upd H2 p (.tup [kV (Sum.inr x0.1),V.str x0.2])):=Zk hp;exact⟨p,_,rfl,SqT.of Zc,rfl,_,_,rfl,_,_,rfl,rfl,trivial,_,rfl,rfl,_,rfl,YQ (fun e=>⟨_,rfl,rt _ _ (if_pos (of_decide_eq_true e)) s3⟩) (fun e=>rf _ (if_neg fun y=>e (decide_eq_true y)) s3)⟩
   ·rw[Xq (Zbi "held") (wkv s.wd),Zfp] at d2
    exact fin "held" D v ob H2 hv0 s2 hD d2 rfl
  |put x sr y=>
   refine(ixT rfl (SqT.of hd) rfl ⟨rfl,_,rfl,YJ (vne ZgV) (ixT rfl (SqT.of hd) rfl ⟨rfl,_,rfl,YJ (vne Zi6) ?_⟩)⟩);refine(ixT rfl (SqT.of hd) rfl ⟨show 1<=sizeLine from sl,fun t1 ht1=> ?_⟩);have s1:=Zk ht1 (o:=.lst [.str x]);have g1:upd H t1 (.lst [.str x]) t1=some (.lst [.str x]):=Zc;generalize upd H t1 (.lst [.str x])=H1 at s1 g1
   refine⟨t1,rfl,⟨_,SqL.of g1⟩,Xa 1 (fun _=>if x∈s.wd.map (·.1) then[V.str x] else[]) (show 1<=sizeLine from sl) (fun _=>by split<;>simp) (fun i H2 s2 lt=>⟨_,_,SqL.of (s2 _ _ g1),List.getElem?_eq_getElem lt⟩) (fun H2 s2=>⟨_,SqL.of (s2 _ _ g1),Nat.le_refl _⟩) (fun i z H2 H3 s2 lt yl RT RF rt rf=> ?_) fun D H2 hD s2 d2=> ?_⟩
   ·obtain⟨rfl,yl⟩:=yl;have zx:=yl _ (SqL.of (s2 _ _ g1));obtain rfl:i=0:=Nat.lt_one_iff.mp lt;obtain rfl:=Option.some.inj zx;have s13:=s1.trans s2;have w3:=s13 _ _ hw;refine⟨⟨rfl,trivial⟩,_,rfl,_,rfl,a,_,dx,_,_,rfl,s13 _ _ ha,T.cl_House,T.n_House_words,ZaU ..,wd,_,rfl,.inl ⟨wkv s.wd,Sum.inr x,.inl w3,rfl,rfl⟩,_,rfl, ?_⟩;rw[ZeJ];exact YQ (fun e=>⟨_,rfl,rt _ _ (if_pos (of_decide_eq_true e)) (Zy.refl _)⟩) (fun e=>rf _ (if_neg fun y=>e (decide_eq_true y)) (Zy.refl _))
   ·refine q D H2 (YS s1 hD) (s1.trans s2) ?_;rw[d2];show some (HO.lst ((if x∈s.wd.map (·.1) then[V.str x] else[])++[]))=some (HO.lst ((if x∈s.wd.map (·.1) then[x] else[]).map V.str));rw[List.append_nil]
    split<;>rfl
  |move x sr y=>
   refine(ixT rfl (SqT.of hd) rfl ⟨rfl,_,rfl,YJ (vne Zi7) (ixT rfl (SqT.of hd) rfl ⟨rfl,_,rfl,YJ (vne Zjs) ?_⟩)⟩);refine(ixT rfl (SqT.of hd) rfl ⟨show 1<=sizeLine from sl,fun t1 ht1=> ?_⟩);have s1:=Zk ht1 (o:=.lst [.str x]);have g1:upd H t1 (.lst [.str x]) t1=some (.lst [.str x]):=Zc;generalize upd H t1 (.lst [.str x])=H1 at s1 g1
   refine⟨t1,rfl,⟨_,SqL.of g1⟩,Xa 1 (fun _=>if x∈s.wd.map (·.1) then[V.str x] else[]) (show 1<=sizeLine from sl) (fun _=>by split<;>simp) (fun i H2 s2 lt=>⟨_,_,SqL.of (s2 _ _ g1),List.getElem?_eq_getElem lt⟩) (fun H2 s2=>⟨_,SqL.of (s2 _ _ g1),Nat.le_refl _⟩) (fun i z H2 H3 s2 lt yl RT RF rt rf=> ?_) fun D H2 hD s2 d2=> ?_⟩
   ·obtain⟨rfl,yl⟩:=yl;have zx:=yl _ (SqL.of (s2 _ _ g1));obtain rfl:i=0:=Nat.lt_one_iff.mp lt;obtain rfl:=Option.some.inj zx;have s13:=s1.trans s2;have w3:=s13 _ _ hw;refine⟨⟨rfl,trivial⟩,_,rfl,_,rfl,a,_,dx,_,_,rfl,s13 _ _ ha,T.cl_House,T.n_House_words,ZaU ..,wd,_,rfl,.inl ⟨wkv s.wd,Sum.inr x,.inl w3,rfl,rfl⟩,_,rfl, ?_⟩;rw[ZeJ];exact YQ (fun e=>⟨_,rfl,rt _ _ (if_pos (of_decide_eq_true e)) (Zy.refl _)⟩) (fun e=>rf _ (if_neg fun y=>e (decide_eq_true y)) (Zy.refl _))
   ·refine q D H2 (YS s1 hD) (s1.trans s2) ?_;rw[d2];show some (HO.lst ((if x∈s.wd.map (·.1) then[V.str x] else[])++[]))=some (HO.lst ((if x∈s.wd.map (·.1) then[x] else[]).map V.str));rw[List.append_nil]
    split<;>rfl
  |deed x c y=>
   refine(ixT rfl (SqT.of hd) rfl ⟨rfl,_,rfl,YJ (vne Zi8) (ixT rfl (SqT.of hd) rfl ⟨rfl,_,rfl,YJ (vne ZlA) ?_⟩)⟩);refine(ixT rfl (SqT.of hd) rfl ⟨show 1<=sizeLine from sl,fun t1 ht1=> ?_⟩);have s1:=Zk ht1 (o:=.lst [.str x]);have g1:upd H t1 (.lst [.str x]) t1=some (.lst [.str x]):=Zc;generalize upd H t1 (.lst [.str x])=H1 at s1 g1
   refine⟨t1,rfl,⟨_,SqL.of g1⟩,Xa 1 (fun _=>if x∈s.wd.map (·.1) then[V.str x] else[]) (show 1<=sizeLine from sl) (fun _=>by split<;>simp) (fun i H2 s2 lt=>⟨_,_,SqL.of (s2 _ _ g1),List.getElem?_eq_getElem lt⟩) (fun H2 s2=>⟨_,SqL.of (s2 _ _ g1),Nat.le_refl _⟩) (fun i z H2 H3 s2 lt yl RT RF rt rf=> ?_) fun D H2 hD s2 d2=> ?_⟩
   ·obtain⟨rfl,yl⟩:=yl;have zx:=yl _ (SqL.of (s2 _ _ g1));obtain rfl:i=0:=Nat.lt_one_iff.mp lt;obtain rfl:=Option.some.inj zx;have s13:=s1.trans s2;have w3:=s13 _ _ hw;refine⟨⟨rfl,trivial⟩,_,rfl,_,rfl,a,_,dx,_,_,rfl,s13 _ _ ha,T.cl_House,T.n_House_words,ZaU ..,wd,_,rfl,.inl ⟨wkv s.wd,Sum.inr x,.inl w3,rfl,rfl⟩,_,rfl, ?_⟩;rw[ZeJ];exact YQ (fun e=>⟨_,rfl,rt _ _ (if_pos (of_decide_eq_true e)) (Zy.refl _)⟩) (fun e=>rf _ (if_neg fun y=>e (decide_eq_true y)) (Zy.refl _))
   ·refine q D H2 (YS s1 hD) (s1.trans s2) ?_;rw[d2];show some (HO.lst ((if x∈s.wd.map (·.1) then[V.str x] else[])++[]))=some (HO.lst ((if x∈s.wd.map (·.1) then[x] else[]).map V.str));rw[List.append_nil]
    split<;>rfl
def XR(ws:List Rw)(day:Int):List Rw:=Ys (ZR (ws.filter JR) day)
theorem Ztc(ws:List Rw)(day:Int):ZR (ws.filter JR) day=(ZR ws day).filter JR:=by
 unfold ZR;rw[List.filter_filter,List.filter_filter]
 congr 1
 funext w
 exact Bool.and_comm ..
theorem ZjE:∀us:List Rw,Xj (us.filter JR)=Xj us
 |[]=>rfl
 |w::us=>by
  have ih:=ZjE us;unfold Xj at ih⊢
  cases e:JR w with
  |true=>
   rw[List.filter_cons_of_pos e];cases f:ZbI w with
   |none=>rw[List.filterMap_cons_none f,List.filterMap_cons_none f,ih]
   |some z=>rw[List.filterMap_cons_some f,List.filterMap_cons_some f,ih]
  |false=>
   rw[List.filter_cons_of_neg (by rw[e];exact Bool.false_ne_true),ih]
   cases w with
   |lift _ _=>cases e
   |_=>rfl
theorem ZlW(us:List Rw):Ys (us.filter JR)=Ys us:=by
 unfold Ys;rw[ZjE,List.filter_filter];refine List.filter_congr fun w _=> ?_;cases w with
 |hold a b c d=>exact Bool.and_true _
 |_=>rfl
theorem Zim(ws:List Rw)(day:Int):XR ws day=Ys (ZR ws day):=by
 unfold XR;rw[Ztc,ZlW]
theorem Zdr{ws:List Rw}{day:Int}{w:Rw}(h:w∈XR ws day):(∃hh c n d,w=.hold hh c n d)/\w.day<=day/\w∈ws:=by
 rw[Zim] at h
 obtain⟨h1,h2⟩:=List.mem_filter.mp h;obtain⟨h3,h4⟩:=List.mem_filter.mp h1;exact⟨ZaA h2,of_decide_eq_true h4,h3⟩
theorem Zg4{ws:List Rw}{r:Str}{w:Rw}(h:w∈ZQ ws r):JR w=false:=by
 have:=(List.mem_filter.mp h).2;cases w with
 |hold _ _ _ _=>cases this
 |lift _ _=>cases this
 |_=>rfl
def Xy(ws:List Rw)(r:Str)(day:Int):List Rw:=ZQ ws r++XR ws day
theorem Zn5(ws:List Rw)(r:Str)(day:Int):ZR (Xy ws r day) day=ZR (ZQ ws r) day++XR ws day:=by
 unfold Xy;show(ZQ ws r++XR ws day).filter _=(ZQ ws r).filter _++XR ws day;rw[List.filter_append]
 congr 1
 exact List.filter_eq_self.mpr fun w hw=>decide_eq_true (Zdr hw).2.1
theorem Zj0{us:List Rw}{r:Str}(h:∀w∈us,∃hh c n d,w=Rw.hold hh c n d):Xm us r=false/\Yv us r=[]/\(∀l,us.foldl (XM r) l=l)/\Xj us=[]:=by
 induction us with
 |nil=>exact⟨rfl,rfl,fun _=>rfl,rfl⟩
 |cons w us ih=>
  obtain⟨hh,c,n,d,rfl⟩:=h w (List.mem_cons_self ..);obtain⟨a1,a2,a3,a4⟩:=ih fun x hx=>h x (List.mem_cons_of_mem _ hx);exact⟨a1,a2,a3,a4⟩
theorem Zg5(ws:List Rw)(r:Str)(day:Int):Xm (ZR (Xy ws r day) day) r=Xm (ZR ws day) r/\Yv (ZR (Xy ws r day) day) r=Yv (ZR ws day) r/\Xr (ZR (Xy ws r day) day) r=Xr (ZR ws day) r/\∀line,Yz (ZR (Xy ws r day) day) r line=Yz (ZR ws day) r line:=by
 obtain⟨a1,a2,a3,a4⟩:=Zj0 (r:=r) fun w hw=>(Zdr (ws:=ws) (day:=day) hw).1;obtain⟨b1,b2,b3⟩:=ZeH (ws:=ws) (r:=r) (x:=day) (s:=day) rfl;rw[Zn5];refine⟨?_, ?_, ?_,fun line=> ?_⟩
 ·rw[b1];unfold Xm at a1⊢
  rw[List.any_append,a1,Bool.or_false]
 ·rw[b2];unfold Yv at a2⊢
  rw[List.filterMap_append,a2,List.append_nil]
 ·rw[b3];unfold Xr;rw[List.foldl_append,a3]
 ·have own0:∀w∈ZR (ZQ ws r) day,JR w=false:=fun w hw=>Zg4 (List.mem_filter.mp hw).1;have l0:Xj (ZR (ZQ ws r) day)=[]:=List.filterMap_eq_nil_iff.mpr fun w hw=>by
   have:=own0 w hw;cases w with
   |lift _ _=>cases this
   |_=>rfl
  have l1:Xj (ZR (ZQ ws r) day++XR ws day)=[]:=by
   unfold Xj at l0 a4⊢
   rw[List.filterMap_append,l0,a4]
   rfl
  have st:Ys (ZR (ZQ ws r) day++XR ws day)=XR ws day:=by
   unfold Ys;rw[l1,List.filter_append,List.filter_eq_nil_iff.mpr fun w hw=>by
    have:=own0 w hw;cases w with
    |hold _ _ _ _=>cases this
    |_=>exact Bool.false_ne_true,List.nil_append]
   refine List.filter_eq_self.mpr fun w hw=> ?_;obtain⟨⟨hh,c,n,d,rfl⟩,_⟩:=Zdr hw;show decide (hh∉([]:List Str))=true;exact decide_eq_true List.not_mem_nil
  unfold Yz;rw[st,Zim]
theorem ZjF{rs:List Sr}{ws:List Rw}{r:Str}{day:Int}{j:Jd}(is:IsJ rs (Xy ws r day) r day j):IsJ rs ws r day j:=by
 obtain⟨e1,e2,e3,e4⟩:=Zg5 ws r day;refine⟨fun z=>is.no (e1.trans z),fun z=> ?_⟩;obtain⟨y,r0,t,top,ow,ht,c4,c5,c6,c7,c8,c9⟩:=is.yes (e1.trans z);rw[e2] at top
 rw[e3] at c6
 rw[e4] at c7
 exact⟨y,r0,t,top,ow,ht,c4,c5,c6,c7,c8,c9⟩
theorem ZlX{rs:List Sr}{ws:List Rw}{r:Str}{day:Int}{H:Hp}{v:V}(is:Znu rs (Xy ws r day) r day H v):Znu rs ws r day H v:=by
 obtain⟨e1,e2,e3,e4⟩:=Zg5 ws r day;refine⟨fun z=>is.no (e1.trans z),fun z=> ?_⟩;obtain⟨y,r0,t,top,ow,ht,no,yes⟩:=is.yes (e1.trans z);rw[e2] at top
 rw[e3] at no yes
 exact⟨y,r0,t,top,ow,ht,no,yes⟩
theorem Zin{rs:List Sr}{ws:List Rw}{r:Str}{day:Int}(ro:Zdj rs ws)(l:ws.length<=500):Zdj rs (Xy ws r day):=by
 have l1:(ZQ ws r).length<=ws.length:=List.length_filter_le _ _;have l2:(XR ws day).length<=(ws.filter Jv).length:=by
  rw[Zim];have:(Ys (ZR ws day)).length<=((ZR ws day).filter Jv).length:=by
   unfold Ys;rw[<-List.countP_eq_length_filter,<-List.countP_eq_length_filter];refine List.countP_mono_left fun w _ h=> ?_;obtain⟨a,b,c,d,rfl⟩:=ZaA h
   rfl
  refine Nat.le_trans this ?_;unfold ZR;rw[List.filter_filter,<-List.countP_eq_length_filter,<-List.countP_eq_length_filter];exact List.countP_mono_left fun w _ h=>(Bool.and_eq_true_iff.mp h).1
 have l3:=ro.held;have l4:(ws.filter Jv).length<=ws.length:=List.length_filter_le _ _;refine⟨?_, ?_,fun q y hy=> ?_⟩
 ·unfold Xy;rw[List.length_append];omega
 ·unfold Xy;rw[List.filter_append,List.length_append,List.filter_eq_nil_iff.mpr fun w hw=>by
   have:=Zg4 hw;cases w with
   |hold _ _ _ _=>cases this
   |_=>exact Bool.false_ne_true]
  have:=List.length_filter_le Jv (XR ws day);rw[List.length_nil];omega
 ·obtain⟨w,hw,e⟩:=List.mem_filterMap.mp hy;refine ro.ser q y (List.mem_filterMap.mpr ⟨w, ?_,e⟩);rcases List.mem_append.mp hw with z|z
  ·exact(List.mem_filter.mp z).1
  ·exact(Zdr z).2.2
structure Zgz (rs:List Sr) (ws:List Rw) (r:Str) (day:Int) (z:Str):Prop where
 no:Xm (ZR ws day) r=false->z="absent"
 yes:Xm (ZR ws day) r=true->∃(y:Xd) (r0:Sr) (t:Tr),Top (Yv (ZR ws day) r) y/\Zfe rs.reverse (some y.2)=some r0/\r0.tm=some t/\z=Jx (t.due (Xr (ZR ws day) r)) (Yz (ZR ws day) r (Za5 rs.reverse (some y.2))).length day
theorem IsJ.word{rs:List Sr}{ws:List Rw}{r:Str}{day:Int}{j:Jd}(is:IsJ rs ws r day j):Zgz rs ws r day j.word:=by
 refine⟨fun z=>by rw[is.no z];rfl,fun z=> ?_⟩
 obtain⟨y,r0,t,top,ow,ht,c4,c5,c6,c7,c8,c9⟩:=is.yes z;exact⟨y,r0,t,top,ow,ht,by rw[c9,c6,c7.length_eq]⟩
def ZkH(s:Hs)(f:Str×Str):Prop:=∃n day,(f.1,n,day)∈s.gs/\Zgz s.rs s.ws f.1 day f.2
def Zou(H:Hp)(f:Str×Str)(v:V):Prop:=∃p,v=.ref p/\H p=some (.tup [.str f.1,.str f.2])
structure Zg6 (s:Hs):Prop where
 bk:Zad [] s.rs
 lr:s.rs.length<=63
 rows:Zdj s.rs s.ws
 few:s.ws.length<=400
 one:(s.gs.map (·.1)).Nodup
 own:∀g∈s.gs,ZQ s.ws g.1≠[]
def Zbo(cn ca cl ce:Addr)(n:Nat)(C:Addr):Sp:=fun vs H Q _=>∃(a l:Addr) (recs:List Str) (s:Hs) (F:List Addr),vs=[.ref a,.ref l]/\0<n/\ZL cn ca cl ce C H a s F/\Zg6 s/\H l=some (.lst (recs.map V.str))/\recs.length<=900/\(∀r∈recs,r∈s.gs.map (·.1))/\
 ∀L us fs H',H L=none->Zy H H'->H' L=some (.lst us)->Paired (Zou H') fs us->fs.map (·.1)=recs->(∀f∈fs,ZkH s f)->Q (.ref L) H'
theorem Zio{cn ca cl ce C:Addr}:∀vs H Q E,¬Zbo cn ca cl ce 0 C vs H Q E:=fun _ _ _ _ ⟨_,_,_,_,_,_,z,_⟩=>Nat.lt_irrefl 0 z
theorem Zq0{H:Hp}:∀{gs:List Gn} {kvs:List (Key×V)},Paired (ZmO H) gs kvs->(gs.map (·.1)).Nodup->∀g∈gs,∃p,Yp kvs (Sum.inr g.1)=some (.ref p)/\H p=some (.tup [.int g.2.1,.int g.2.2])
 |_,_,.nil,_,g,h=>nomatch h
 |_,_,.cons (a:=y) ⟨p,e,hp⟩ t,nd,g,h=>by
  rw[List.map_cons] at nd
  obtain⟨off,rest⟩:=List.nodup_cons.mp nd;subst e;cases h with
  |head=>exact⟨p,Yr rfl,hp⟩
  |tail _ m=>
   obtain⟨p',e',h'⟩:=Zq0 t rest g m;have ne:¬(Sum.inr y.1:Key)=Sum.inr g.1:=fun z=>off (List.mem_map.mpr ⟨g,m,by injection z with z;exact z.symm⟩)
   exact⟨p',(Yn (p:=(Sum.inr y.1,V.ref p)) ne).trans e',h'⟩
theorem ZkI{H H':Hp}(s:∀b xs,H b=some (.tup xs)->H' b=some (.tup xs)):∀{fs:List (Str×Str)} {us:List V},Paired (Zou H) fs us->Paired (Zou H') fs us
 |_,_,.nil=> .nil
 |_,_,.cons ⟨p,e,h⟩ t=> .cons ⟨p,e,s _ _ h⟩ (ZkI s t)
def Zr1(H:Hp)(S D:Addr)(ws:List Rw)(n:Nat):Prop:=∃kvs:List (Key×V),H S=some (.dK kvs)/\kvs.length<=n/\∀day v,Yp kvs (Sum.inl day)=some v->∃l,v=.ref l/\l≠D/\YF H l (XR ws day)
theorem ZfK{kvs:List (Key×V)}{k j:Key}{y:V}:Yp (Js kvs k y) j=if j=k then some y else Yp kvs j:=by
 unfold Js;cases e:(kvs.any fun kv=>decide (kv.1=k)) with
 |true=>
  rw[if_pos rfl,ZhC]
  by_cases z:j=k
  ·subst z;rw[Za8] at e
   obtain⟨v,ev⟩:=Option.isSome_iff_exists.mp e;rw[if_pos rfl,ev];exact congrArg some (if_pos rfl)
  ·rw[if_neg z];cases Yp kvs j with
   |none=>rfl
   |some v=>exact congrArg some (if_neg z)
 |false=>
  rw[if_neg Bool.false_ne_true];have no:Yp kvs k=none:=by
   rw[Za8] at e
   cases q:Yp kvs k with
   |none=>rfl
   |some v=>rw[q] at e;cases e
  have app:∀l:List (Key×V),Yp (l++[(k,y)]) j=match Yp l j with|some v=>some v|none=>if j=k then some y else none:=fun l=>by
   induction l with
   |nil=>
    by_cases z:k=j
    ·show Yp [(k,y)] j=_;rw[Yr z,if_pos z.symm]
     rfl
    ·show Yp [(k,y)] j=_;rw[Yn z,if_neg (Ne.symm z)]
     rfl
   |cons p l ih=>
    by_cases z:p.1=j
    ·rw[List.cons_append,Yr z,Yr z]
    ·rw[List.cons_append,Yn z,Yn z,ih]
  rw[app]
  by_cases z:j=k
  ·rw[z,no,if_pos rfl]
  ·rw[if_neg z,if_neg z];cases Yp kvs j<;>rfl
theorem Zq1(kvs:List (Key×V))(k:Key)(v:V):(Js kvs k v).length<=kvs.length+1:=by
 unfold Js
 split
 ·rw[List.length_map];exact Nat.le_succ _
 ·rw[List.length_append];exact Nat.le_refl _
theorem YW:ZC ["self","records","found","stays","record","day","rows"] ["self","records"] (Zt Zab):=⟨rfl,rfl,rfl,by decide+kernel,rfl,by decide+kernel,by decide+kernel⟩
theorem Zfq{f:Addr}{fd:FuncData}(F:Fun K "words_now" "House.words_now" Zab f fd)(T:Txt K mg Zh Zf Zg Zb Zo)(n:Nat)(XD:Cal P w K mg base CX0 1 "counted" ["rows","day"] Zax)(Zam:Cal P w K mg base CX0 14 "judged" ["book","rows","record","day"] (ZcO Zh Zf Zg Zb))(Jq:Cal P w K mg base CX0 1 "standing" ["rows"] ZaR):Yl P w K mg base CX0 (14+n+1+1) f fd ["self","records"] (Zbo Zh Zf Zg Zb (n+1) Zo):=by
 refine F.ok YW (fun vs H Q E h=> ?_) (fun cdv A outer s H vs Q E hr h=> ?_)
 ·obtain⟨a,l,recs,s,F,rfl,_⟩:=h
  rfl
 ·obtain⟨a,l,recs,s,F,rfl,_,⟨dx,b,t,o,h,r,k,wd,os,kvs,ha,hb,⟨ts,ht,pt⟩,ho,oa,hh,hr',hk,pk,hw,_⟩,ok,hl,lrc,sub,q⟩:=h;have l5:=Xe;have hu:=Zbg hr;have few:=ok.few;refine⟨_,(Ze (Zu (i:=2) YW.nd rfl (Or.inl rfl) (Yk Zj)) (Ze (Zu (i:=3) YW.nd rfl (Or.inl rfl) JQ) (Ze (Xi PassesOwn.never rfl (Yb (pv 1)) (ZF (i:=4) YW.nd rfl (Or.inl rfl)) (Ze (Zu (i:=5) YW.nd rfl (Or.inl rfl) (Zx ZG (Za9 hu (Yg (pv 0) rfl) (pv 4) (fun _ _=>rfl)) Zi (fun _ _=>rfl))) (Ze (ZZ (ZcY (Zbr hu (pv 5) (pv 3))) (Zn (ZaE hu (pv 3) (pv 5) (ZV Jq (hr.mono (by omega)) rfl ZJ (Za (ZV XD (hr.mono (by omega)) rfl ZJ (Za (Yg (pv 0) rfl) (Za (pv 5) Zj))) Zj)) rfl)) ZD) (Ze (Zu (i:=6) YW.nd rfl (Or.inl rfl) (Zw Zd4 (Za9 hu (Yg (pv 0) rfl) (pv 4) (fun _ _=>rfl)) (Za9 hu (pv 3) (pv 5) (fun _ _=>rfl)))) (Zn (Xh (ZaL PySem.F.plainAttrs_list PySem.F.slot_list_append PySem.F.type_list_append YC (pv 2) (Za (YK (Za (pv 4) (Za (Zx ZG (ZV Zam (hr.mono (by omega)) rfl ZJ (Za (Yg (pv 0) rfl) (Za (pv 6) (Za (pv 4) (Za (pv 5) Zj))))) Zi (fun _ _=>rfl)) Zj))) Zj)))))))) (Zn (Zz (pv 2)))))), ?_⟩
  refine⟨Nat.zero_le _,fun Fd hFd=> ?_⟩;have sF:=Zk hFd (o:=.lst []);refine(fun S hS=> ?_);have sS:=Zk hS (o:=.dK []);have nFS:Fd≠S:=Zd (show upd H Fd (.lst []) Fd=some (.lst []) from Zc) hS;have nS:H S=none:=YS sF hS;refine⟨_,rfl,l,rfl,⟨_,SqL.of ((sF.trans sS) _ _ hl)⟩,YH (xs:=recs.map V.str) (fun i σ H'=>∃(v4 v5 v6:Option V) (us:List V) (fs:List (Str×Str)),σ=[some (.ref a),some (.ref l),some (.ref Fd),some (.ref S),v4,v5,v6]/\H' Fd=some (.lst us)/\Paired (Zou H') fs us/\fs.map (·.1)=recs.take i/\(∀f∈fs,ZkH s f)/\Zr1 H' S Fd s.ws i/\Zy H H') ?_ ?_ ?_ ?_⟩
  ·exact⟨none,none,none,[],[],rfl,by rw[Zm nFS];exact Zc,.nil,rfl,(fun f hf=>nomatch hf),⟨[],Zc,Nat.le_refl _,fun d v z=>nomatch z⟩,sF.trans sS⟩
  ·rintro i σ H1 _ ⟨v4,v5,v6,us,fs,rfl,_,_,_,_,_,s1⟩;exact SqL.of (s1 _ _ hl)
  ·rintro i x σ H1 hx ⟨v4,v5,v6,us,fs,rfl,hF1,pf,ef,wf,⟨ks,hS1,lks,st⟩,s1⟩;have hi:i<recs.length:=by
    have:=(List.getElem?_eq_some_iff.mp hx).1
    rwa [List.length_map] at this
   obtain⟨rc,rfl,erc⟩:∃rc,x=V.str rc/\recs[i]? =some rc:=by
    rw[List.getElem?_map] at hx
    cases e:recs[i]? with
    |none=>rw[e] at hx;cases hx
    |some y=>rw[e] at hx;exact⟨y,(Option.some.inj hx).symm,rfl⟩
   obtain⟨⟨g1,n,day⟩,hg,e1⟩:=List.mem_map.mp (sub rc (List.mem_of_getElem? erc));have e1:g1=rc:=e1;subst e1;obtain⟨pg,vg,hpg⟩:=Zq0 (JM (fun b xs e=>s1 _ _ e) pk) ok.one _ hg;have hk1:=s1 _ _ hk;have ha1:=s1 _ _ ha;have lfs:us.length<=900:=by
    have h1:=Paired.length pf;have h2:=congrArg List.length ef;rw[List.length_map,List.length_take] at h2
    omega
   refine⟨_,rfl,a,_,dx,_,_,rfl,ha1,T.cl_House,T.n_House_taken,Zil ..,_,rfl,k,_,rfl,.inl ⟨kvs,Sum.inr g1,.inl hk1,rfl,vg.symm⟩,pg,_,_,_,rfl,rfl,SqT.of hpg,rfl, ?_⟩;refine(fun(rest:∀(σ':L2.St) (H2:Hp),σ'=[some (.ref a),some (.ref l),some (.ref Fd),some (.ref S),some (.str g1),some (.int day),v6]->H2 Fd=some (.lst us)->Paired (Zou H2) fs us->(∃ks:List (Key×V),H2 S=some (.dK ks)/\ks.length<=i+1/\(∀day v,Yp ks (Sum.inl day)=some v->∃l,v=.ref l/\l≠Fd/\YF H2 l (XR s.ws day))/\Yp ks (Sum.inl day)≠none)->Zy H H2->(_:L2.St->Hp->Prop) σ' H2)=>
    ⟨_,rfl,_,rfl,S,_,rfl,.inl ⟨ks,Sum.inl day,.inl hS1,rfl,rfl⟩,_,rfl,YQ (fun e=> ?yes) (fun e=>rest _ H1 rfl hF1 pf ⟨ks,hS1,by omega,st,fun z=>e (by rw[z];rfl)⟩ s1)⟩) ?rest
   case yes=>
    have lh:(s.ws.filter JR).length<=s.ws.length:=List.length_filter_le _ _;refine⟨_,rfl,a,_,dx,_,_,rfl,ha1,T.cl_House,T.n_House_holdings,Zc7 ..,_,rfl,h,s.ws.filter JR,day,rfl,Yh s1 hh,by omega,fun C H2 hC s2 rc=> ?_⟩;have lu:(ZR (s.ws.filter JR) day).length<=(s.ws.filter JR).length:=List.length_filter_le _ _;refine⟨C,_,rfl,rc,by omega,fun L H3 hL s3 rl=> ?_⟩;have s23:=s2.trans s3;have hS3:=s23 _ _ hS1
    have hF3:=s23 _ _ hF1;have nLF:L≠Fd:=fun z=>by rw[z,s2 _ _ hF1] at hL;cases hL
    have kp:∀c u,c≠S->H3 c=some u->upd H3 S (.dK (Js ks (Sum.inl day) (.ref L))) c=some u:=fun c u n e=>by rw[Zm n];exact e
    have kt:∀c xs,H3 c=some (.tup xs)->upd H3 S (.dK (Js ks (Sum.inl day) (.ref L))) c=some (.tup xs):=fun c xs e=>kp c _ (Yj e hS3 (fun z=>nomatch z)) e;have krw:∀{p:Addr} {us:List Rw},YF H3 p us->YF (upd H3 S (.dK (Js ks (Sum.inl day) (.ref L)))) p us:=fun{p us} ⟨ds,e,pp⟩=>⟨ds,kp _ _ (Yj e hS3 (fun z=>nomatch z)) e,YT kt pp⟩
    refine⟨_,rfl,_,rfl,S,_,rfl,ZfL.k (k:=Sum.inl day) hS3 (by omega),rest _ _ rfl (kp _ _ nFS hF3) (ZkI (fun b xs e=>kt _ _ (s23 _ _ e)) pf) ⟨Js ks (Sum.inl day) (.ref L),Zc,Nat.le_trans (Zq1 ks _ _) (by omega),fun d v ev=> ?_, ?_⟩ fun c u e=>kp c u (Zd e nS) (s23 _ _ (s1 _ _ e))⟩
    ·rw[ZfK] at ev
     by_cases z:(Sum.inl d:Key)=Sum.inl day
     ·rw[if_pos z] at ev
      obtain rfl:=Option.some.inj ev;obtain rfl:d=day:=by injection z
      exact⟨L,rfl,nLF,krw rl⟩
     ·rw[if_neg z] at ev
      obtain⟨l',e,nl,at_⟩:=st d v ev;exact⟨l',e,nl,krw (Yh s23 at_)⟩
    ·rw[ZfK,if_pos rfl];exact fun z=>nomatch z
   case rest=>
    rintro σ' H2 rfl hF2 pf2 ⟨ks2,hS2,lk2,st2,has⟩ s2;obtain⟨v,ev⟩:=Option.ne_none_iff_exists'.mp has;obtain⟨ly,rfl,nly,at_⟩:=st2 day v ev;obtain⟨ys,hy,py⟩:=at_;have m:g1∈os.map (·.1):=(oa.mem g1).mpr (ok.own _ hg);obtain⟨⟨xo,xl⟩,hxo,e2⟩:=List.mem_map.mp m;have e2:xo=g1:=e2;subst e2;obtain⟨zs,hz,pz⟩:=Yh s2 (oa.at_ _ hxo);have vo:=Zgw oa.one _ hxo;have lz:zs.length=(ZQ s.ws xo).length:=Paired.length pz
    have lz2:(ZQ s.ws xo).length<=s.ws.length:=List.length_filter_le _ _;have ly1:=Paired.length py;have rof:=Zin (r:=xo) (day:=day) ok.rows (by omega);have lyr:=rof.len;have elen:(Xy s.ws xo day).length=(ZQ s.ws xo).length+(XR s.ws day).length:=List.length_append;have ha2:=s2 _ _ ha;refine⟨_,rfl,a,_,dx,_,_,rfl,ha2,T.cl_House,T.n_House_own,Zik ..,_,rfl,o,_,rfl,.inl ⟨okv os,Sum.inr xo,.inl (s2 _ _ ho),rfl,vo.symm⟩,_,rfl,_,rfl,S,_,rfl,.inl ⟨ks2,Sum.inl day,.inl hS2,rfl,ev.symm⟩,xl,ly,_,_,rfl,rfl,SqL.of hz,SqL.of hy,by rw[List.length_map,List.length_map];omega,fun R hR=> ?_⟩
    have s3:=Zk hR (o:=.lst (zs.map V.ref++ys.map V.ref));have hR3:YF (upd H2 R (.lst (zs.map V.ref++ys.map V.ref))) R (Xy s.ws xo day):=⟨zs++ys,by rw[Zc,List.map_append],Zg1 (ZM s3 pz) (ZM s3 py)⟩
    have hF3:=s3 _ _ hF2;generalize upd H2 R (.lst (zs.map V.ref++ys.map V.ref))=H3 at s3 hR3 hF3
    have s23:=s2.trans s3;refine⟨_,rfl,.inl ⟨rfl,_,SqL.of hF3⟩,_,rfl,_,rfl,a,_,dx,_,_,rfl,s23 _ _ ha,T.cl_House,T.n_House_book,ZeI ..,_,rfl,_,rfl,_,rfl,b,R,s.rs,Xy s.ws xo day,xo,day,rfl,Jf s23 hb,ok.bk,ok.lr,hR3,rof,fun ja j H4 hja0 s4 ⟨Lh,hja,_⟩ _ is=>⟨ja,_,_,_,rfl,rfl,SqT.of hja,rfl,show 2<=sizeLine from sl,fun tt htt=> ?_⟩⟩;have hF4:=s4 _ _ hF3;have s5:=Zk htt (o:=.tup [.str xo,.str j.word]);refine⟨Fd,_,V.ref tt,rfl,rfl,s5 _ _ hF4,by omega, ?_⟩
    have nF:Fd≠tt:=Zd hF4 htt;have kp:∀c u,c≠Fd->H4 c=some u->upd (upd H4 tt (.tup [.str xo,.str j.word])) Fd (.lst (us++[.ref tt])) c=some u:=fun c u n e=>by rw[Zm n,Zm (Zd e htt)];exact e
    have kt:∀c xs,H4 c=some (.tup xs)->upd (upd H4 tt (.tup [.str xo,.str j.word])) Fd (.lst (us++[.ref tt])) c=some (.tup xs):=fun c xs e=>kp c _ (Yj e hF4 (fun z=>nomatch z)) e;have s34:=s3.trans s4;refine⟨_,_,_,us++[.ref tt],fs++[(xo,j.word)],rfl,Zc,Paired.snoc (ZkI (fun b xs e=>kt _ _ (s34 _ _ e)) pf2) ⟨tt,rfl,by rw[Zm (Ne.symm nF),Zc]⟩,by rw[List.map_append,ef,List.take_add_one,erc];rfl,fun f hf=> ?_,⟨ks2,kp _ _ (Ne.symm nFS) (s34 _ _ hS2),lk2,fun d v ev2=> ?_⟩,fun c u e=>kp c u (Zd e hFd) (s34 _ _ (s2 _ _ e))⟩
    ·rcases List.mem_append.mp hf with old|new
     ·exact wf f old
     ·rw[List.mem_singleton.mp new];exact⟨n,day,hg,(ZjF is).word⟩
    ·obtain⟨l',e,nl,ds,hd',pd⟩:=st2 d v ev2;exact⟨l',e,nl,ds,kp _ _ nl (s34 _ _ hd'),YT (fun c xs e=>kt _ _ (s34 _ _ e)) pd⟩
  ·rintro σ H1 ⟨v4,v5,v6,us,fs,rfl,hF1,pf,ef,wf,_,s1⟩;rw[List.length_map,List.take_length] at ef
   exact⟨_,rfl,q Fd us fs H1 hFd s1 hF1 pf ef wf⟩
theorem ZlY{o:Option Int}{m n:Nat}{x:Int}:(Jx o m x≠"due"->m<=n->Jx o n x=Jx o m x)/\(Jx o m x≠"held"->n<=m->Jx o n x=Jx o m x):=by
 cases o with
 |none=>exact⟨fun _ _=>rfl,fun _ _=>rfl⟩
 |some D=>
  show((if x<D then Str.ofString "kept" else if 0<m then Str.ofString "held" else Str.ofString "due")≠Str.ofString "due"->m<=n->(if x<D then Str.ofString "kept" else if 0<n then Str.ofString "held" else Str.ofString "due")=(if x<D then Str.ofString "kept" else if 0<m then Str.ofString "held" else Str.ofString "due"))/\((if x<D then Str.ofString "kept" else if 0<m then Str.ofString "held" else Str.ofString "due")≠Str.ofString "held"->n<=m->(if x<D then Str.ofString "kept" else if 0<n then Str.ofString "held" else Str.ofString "due")=(if x<D then Str.ofString "kept" else if 0<m then Str.ofString "held" else Str.ofString "due"))
  by_cases h:x<D
  ·simp only [if_pos h];exact⟨fun _ _=>trivial,fun _ _=>trivial⟩
  ·simp only [if_neg h]
   constructor
   ·intro a b
    by_cases g:0<m
    ·rw[if_pos g,if_pos (by omega)]
    ·rw[if_neg g] at a
     exact absurd rfl a
   ·intro a b
    by_cases g:0<m
    ·rw[if_pos g] at a
     exact absurd rfl a
    ·rw[if_neg g,if_neg (by omega)]
theorem Zov{rs:List Sr}{ws:List Rw}{w:Rw}{r:Str}{day:Int}{z:Str}(no:Jy r w=false)(h:Zgz rs ws r day z)
  (f:∀(o:Option Int) (line:List Str),z=Jx o (Yz (ZR ws day) r line).length day->Jx o (Yz (ZR (ws++[w]) day) r line).length day=z):Zgz rs (ws++[w]) r day z:=by
 have e:ZR (ZQ (ws++[w]) r) day=ZR (ZQ ws r) day:=by rw[ZaV,no,if_neg Bool.false_ne_true,List.append_nil]
 obtain⟨a1,a2,a3⟩:=ZeH (ws:=ws) (r:=r) (x:=day) (s:=day) rfl;obtain⟨b1,b2,b3⟩:=ZeH (ws:=ws++[w]) (r:=r) (x:=day) (s:=day) rfl;rw[e] at b1 b2 b3
 rw[<-a1] at b1
 rw[<-a2] at b2
 rw[<-a3] at b3
 refine⟨fun y=>h.no (b1.symm.trans y),fun y=> ?_⟩;obtain⟨y0,r0,t,top,ow,ht,ez⟩:=h.yes (b1.symm.trans y);refine⟨y0,r0,t,by rw[b2];exact top,ow,ht, ?_⟩
 rw[b3];exact(f _ _ ez).symm
theorem Zr2(ws:List Rw)(w:Rw)(day:Int):ZR (ws++[w]) day=if w.day<=day then ZR ws day++[w] else ZR ws day:=by
 unfold ZR;rw[List.filter_append]
 by_cases h:w.day<=day
 ·simp[h]
 ·simp[h]
theorem Zow{us:List Rw}{w:Rw}{r:Str}{line:List Str}:(JR w=false->Yz (us++[w]) r line=Yz us r line)/\(ZbI w=none->(Yz us r line).length<=(Yz (us++[w]) r line).length)/\(Jv w=false->(Yz (us++[w]) r line).length<=(Yz us r line).length):=by
 have lf:Xj (us++[w])=Xj us++(match ZbI w with|some h=>[h]|none=>[]):=ZgW;refine⟨fun h=> ?_,fun h=> ?_,fun h=> ?_⟩
 ·have l0:ZbI w=none:=by cases w<;>first|rfl|cases h
  have s0:∀ls,Zco ls w=false:=fun ls=>by cases w<;>first|rfl|cases h
  unfold Yz Ys;rw[lf,l0,List.append_nil,List.filter_append,List.filter_cons_of_neg (by rw[s0];exact Bool.false_ne_true),List.filter_nil,List.append_nil]
 ·unfold Yz Ys;rw[lf,h,List.append_nil,List.filter_append,List.filter_append,List.map_append,List.length_append];exact Nat.le_add_right _ _
 ·have s0:∀ls,Zco ls w=false:=fun ls=>by cases w<;>first|rfl|cases h
  unfold Yz Ys;rw[List.length_map,List.length_map,List.filter_append,List.filter_cons_of_neg (by rw[s0];exact Bool.false_ne_true),List.filter_nil,List.append_nil,lf,List.filter_filter,List.filter_filter,<-List.countP_eq_length_filter,<-List.countP_eq_length_filter]
  refine List.countP_mono_left fun x _ hx=> ?_;obtain⟨h1,h2⟩:=Bool.and_eq_true_iff.mp hx;refine Bool.and_eq_true_iff.mpr ⟨h1, ?_⟩;obtain⟨a,b,c,d,rfl⟩:=ZaA h2;have h2:a∉Xj us++_:=of_decide_eq_true h2;exact decide_eq_true fun y=>h2 (List.mem_append_left _ y)
theorem Zn6{rs:List Sr}{ws:List Rw}{w:Rw}{r:Str}{day:Int}{z:Str}(no:Jy r w=false)(h1:Jv w=true->z≠"due")(h2:(ZbI w).isSome=true->z≠"held")(h:Zgz rs ws r day z):Zgz rs (ws++[w]) r day z:=by
 refine Zov no h fun o line ez=> ?_;rw[Zr2]
 by_cases le:w.day<=day
 ·rw[if_pos le];obtain⟨a1,a2,a3⟩:=Zow (us:=ZR ws day) (w:=w) (r:=r) (line:=line);cases w with
  |hold a b c d=>rw[(ZlY (n:=_)).1 (by rw[<-ez];exact h1 rfl) (a2 rfl),ez]
  |lift a d=>rw[(ZlY (n:=_)).2 (by rw[<-ez];exact h2 rfl) (a3 rfl),ez]
  |put a b c=>rw[a1 rfl,ez]
  |move a b c=>rw[a1 rfl,ez]
  |deed a b c=>rw[a1 rfl,ez]
 ·rw[if_neg le,ez]
theorem ZgY{b t o h r k w:Addr}{m:Str}(c:¬m="words"/\¬m="taken"/\¬m="run_days"/\¬m="holdings"/\¬m="own"/\¬m="told"/\¬m="book"):(fH b t o h r k w).lookup m=none:=by
 unfold fH;rw[Zr,if_neg c.1,Zr,if_neg c.2.1,Zr,if_neg c.2.2.1,Zr,if_neg c.2.2.2.1,Zr,if_neg c.2.2.2.2.1,Zr,if_neg c.2.2.2.2.2.1,Zr,if_neg c.2.2.2.2.2.2]
 rfl
theorem ZL.kinds{cn ca cl ce C a:Addr}{H:Hp}{s:Hs}{F:List Addr}:ZL cn ca cl ce C H a s F->ZjC H F
 |⟨dx,b,t,o,h,r,k,w,os,kvs,ha,hb,ht,ho,oa,hh,hr,hk,pk,hw,e,_,_⟩=>by
  subst e;exact ZgX ht ho (fun x hx=>⟨_,oa.at_ x hx⟩) hh hr hk hw
theorem ZL.same{cn ca cl ce C a:Addr}{H H':Hp}{s:Hs}{F:List Addr}(sm:Zy H H'):ZL cn ca cl ce C H a s F->ZL cn ca cl ce C H' a s F
 |⟨dx,b,t,o,h,r,k,w,os,kvs,ha,hb,ht,ho,oa,hh,hr,hk,pk,hw,e,nd,nb⟩=>
  ⟨dx,b,t,o,h,r,k,w,os,kvs,sm _ _ ha,Jf sm hb,Yh sm ht,sm _ _ ho,⟨oa.one,oa.mem,fun x hx=>Yh sm (oa.at_ x hx)⟩,Yh sm hh,sm _ _ hr,sm _ _ hk,JM (fun b xs e=>sm _ _ e) pk,sm _ _ hw,e,nd,nb⟩
theorem ZL.ins{cn ca cl ce C a:Addr}{H:Hp}{s:Hs}{F:List Addr}:ZL cn ca cl ce C H a s F->∃dx b t o h r k w,H a=some (.ins C dx (fH b t o h r k w))/\H w=some (.dK (wkv s.wd))/\w∈F
 |⟨dx,b,t,o,h,r,k,w,os,kvs,ha,hb,ht,ho,oa,hh,hr,hk,pk,hw,e,nd,nb⟩=>⟨dx,b,t,o,h,r,k,w,ha,hw,by rw[e];simp⟩
structure Zef (s:Hs):Prop where
 keys:s.wd.map (·.1)=s.gs.map (·.1)
 ok:∀f∈s.wd,ZkH s f
def Zj1(wd:List (Str×Str))(f:Str×Str):List (Str×Str):=wd.map fun x=>if x.1=f.1 then(x.1,f.2) else x
theorem Zox(wd:List (Str×Str))(f:Str×Str):(Zj1 wd f).map (·.1)=wd.map (·.1):=by
 unfold Zj1;rw[List.map_map];refine List.map_congr_left fun x _=> ?_;show(if x.1=f.1 then(x.1,f.2) else x).1=x.1
 split<;>rfl
theorem Zq2{wd:List (Str×Str)}{f:Str×Str}(m:f.1∈wd.map (·.1)):Js (wkv wd) (Sum.inr f.1) (.str f.2)=wkv (Zj1 wd f):=by
 unfold Js;rw[Za8,ZeJ,if_pos (decide_eq_true m)];unfold wkv Zj1;rw[List.map_map,List.map_map];refine List.map_congr_left fun x _=> ?_;show(if(Sum.inr x.1:Key)=Sum.inr f.1 then((Sum.inr x.1:Key),V.str f.2) else(Sum.inr x.1,V.str x.2))=(Sum.inr (if x.1=f.1 then(x.1,f.2) else x).1,V.str (if x.1=f.1 then(x.1,f.2) else x).2)
 by_cases e:x.1=f.1
 ·rw[if_pos (by rw[e]),if_pos e]
 ·rw[if_neg (by exact fun z=>e (by injection z)),if_neg e]
theorem ZnJ:∀{wd:List (Str×Str)},(wd.map (·.1)).Nodup->∀x∈wd,Yp (wkv wd) (Sum.inr x.1)=some (.str x.2)
 |[],_,x,h=>nomatch h
 |y::wd,nd,x,h=>by
  rw[List.map_cons] at nd
  obtain⟨off,rest⟩:=List.nodup_cons.mp nd;cases h with
  |head=>exact Yr rfl
  |tail _ m=>
   have ne:¬(Sum.inr y.1:Key)=Sum.inr x.1:=fun z=>off (List.mem_map.mpr ⟨x,m,by injection z with z;exact z.symm⟩)
   exact(Yn (p:=(Sum.inr y.1,V.str y.2)) ne).trans (ZnJ rest x m)
def ZaC(wd fs:List (Str×Str)):List (Str×Str):=fs.foldl Zj1 wd
theorem ZaW:∀(fs wd:List (Str×Str)),(ZaC wd fs).map (·.1)=wd.map (·.1)
 |[],_=>rfl
 |f::fs,wd=>(ZaW fs (Zj1 wd f)).trans (Zox wd f)
theorem Zq3{wd:List (Str×Str)}{f x:Str×Str}(h:x∈Zj1 wd f):(x.1=f.1/\x.2=f.2)\/(x∈wd/\¬x.1=f.1):=by
 obtain⟨y,hy,e⟩:=List.mem_map.mp h
 by_cases z:y.1=f.1
 ·rw[if_pos z] at e
  exact .inl ⟨by rw[<-e];exact z,by rw[<-e]⟩
 ·rw[if_neg z] at e
  exact .inr ⟨e▸hy,e▸z⟩
theorem Zip:∀{fs wd:List (Str×Str)} {x:Str×Str},x∈ZaC wd fs->x∈fs\/(x∈wd/\x.1∉fs.map (·.1))
 |[],wd,x,h=> .inr ⟨h,fun z=>nomatch z⟩
 |f::fs,wd,x,h=>by
  rcases Zip (fs:=fs) (wd:=Zj1 wd f) h with a|⟨a,b⟩
  ·exact .inl (List.mem_cons_of_mem _ a)
  ·rcases Zq3 a with ⟨c,d⟩|⟨c,d⟩
   ·exact .inl (by rw[show x=f from Prod.ext c d];exact List.mem_cons_self ..)
   ·exact .inr ⟨c,fun z=>by
     rw[List.map_cons] at z
     exact(List.mem_cons.mp z).elim d b⟩
def Zan(wd:List (Str×Str))(f:Str×Str):Bool:=decide ((f.1,Str.ofString "due")∈wd)&& !decide (f.2=Str.ofString "due")
def Zao(wd fs:List (Str×Str)):List Str:=(fs.filter (Zan wd)).map (·.1)
def Zhs(cn ca cl ce:Addr)(n:Nat)(C:Addr):Sp:=fun vs H Q _=>∃(a d:Addr) (w:Rw) (s:Hs) (F:List Addr),vs=[.ref a,.ref d]/\0<n/\ZL cn ca cl ce C H a s F/\ZcL H d w/\ZpY s w/\s.rs.length<=63/\Zg6 {s with ws:=s.ws++[w]}/\Zef s/\s.gs.length<64/\
 ∀L zs wd H' F',ZeO F H H'->(∀b∈F',b∈F\/H b=none)->(∀b∈F,b∈F')->ZL cn ca cl ce C H' a {s with ws:=s.ws++[w],wd:=wd} F'->Zef {s with ws:=s.ws++[w],wd:=wd}->H L=none->L∉F'->H' L=some (.lst (zs.map V.str))->sortedS zs=true->(∃fs,(fs.map (·.1)).Nodup/\(∀f∈fs,f.1∈s.wd.map (·.1))/\zs.Perm (Zao s.wd fs)/\wd=ZaC s.wd fs)->Q (.ref L) H'
theorem Zoy{cn ca cl ce C:Addr}:∀vs H Q E,¬Zhs cn ca cl ce 0 C vs H Q E:=fun _ _ _ _ ⟨_,_,_,_,_,_,z,_⟩=>Nat.lt_irrefl 0 z
theorem Zeg{s:Hs}{w:Rw}:∀r∈Zca s w,r∈s.wd.map (·.1):=by
 have go:∀z,∀r∈Zbn z s.wd,r∈s.wd.map (·.1):=fun z r hr=>by
  obtain⟨x,hx,e⟩:=List.mem_map.mp hr;exact List.mem_map.mpr ⟨x,(List.mem_filter.mp hx).1,e⟩
 have one:∀x,∀r∈(if x∈s.wd.map (·.1) then[x] else[]),r∈s.wd.map (·.1):=fun x r hr=>by
  by_cases m:x∈s.wd.map (·.1)
  ·rw[if_pos m] at hr
   rw[List.mem_singleton.mp hr];exact m
  ·rw[if_neg m] at hr
   cases hr
 cases w with
 |hold a b c d=>exact go "due"
 |lift a d=>exact go "held"
 |put x b c=>exact one x
 |move x b c=>exact one x
 |deed x b c=>exact one x
theorem Zj2{s:Hs}{w:Rw}(nd:(s.wd.map (·.1)).Nodup):(Zca s w).Nodup:=by
 have go:∀z,(Zbn z s.wd).Nodup:=fun z=>List.Nodup.sublist (List.Sublist.map _ List.filter_sublist) nd;have one:∀x,(if x∈s.wd.map (·.1) then[x] else[]:List Str).Nodup:=fun x=>by split<;>simp
 cases w with
 |hold a b c d=>exact go "due"
 |lift a d=>exact go "held"
 |put x b c=>exact one x
 |move x b c=>exact one x
 |deed x b c=>exact one x
theorem Zoz{s:Hs}{w:Rw}{f:Str×Str}(h:f∈s.wd)(no:f.1∉Zca s w):Jy f.1 w=false/\(Jv w=true->f.2≠"due")/\((ZbI w).isSome=true->f.2≠"held"):=by
 have k:f.1∈s.wd.map (·.1):=List.mem_map_of_mem h;have one:∀x,f.1∉(if x∈s.wd.map (·.1) then[x] else[]:List Str)->decide (x=f.1)=false:=fun x n=>decide_eq_false fun z=>n (by rw[z,if_pos k];exact List.mem_singleton_self _)
 have are:∀z:Str,f.1∉Zbn z s.wd->f.2≠z:=fun z n e=>n (List.mem_map.mpr ⟨f,List.mem_filter.mpr ⟨h,decide_eq_true e⟩,rfl⟩);cases w with
 |hold a b c d=>exact⟨rfl,fun _=>are _ no,(fun z=>nomatch z)⟩
 |lift a d=>exact⟨rfl,(fun z=>nomatch z),fun _=>are _ no⟩
 |put x b c=>exact⟨one x no,(fun z=>nomatch z),(fun z=>nomatch z)⟩
 |move x b c=>exact⟨one x no,(fun z=>nomatch z),(fun z=>nomatch z)⟩
 |deed x b c=>exact⟨one x no,(fun z=>nomatch z),(fun z=>nomatch z)⟩
theorem Zn7{s:Hs}{w:Rw}{fs:List (Str×Str)}(wo:Zef s)(ef:fs.map (·.1)=Zca s w)(wf:∀f∈fs,ZkH {s with ws:=s.ws++[w]} f):Zef {s with ws:=s.ws++[w],wd:=ZaC s.wd fs}:=by
 refine⟨(ZaW fs s.wd).trans wo.keys,fun f hf=> ?_⟩;rcases Zip hf with a|⟨a,b⟩
 ·exact wf f a
 ·rw[ef] at b
  obtain⟨n,day,hg,wi⟩:=wo.ok f a;obtain⟨c1,c2,c3⟩:=Zoz a b;exact⟨n,day,hg,Zn6 c1 c2 c3 wi⟩
theorem ZoA{wd:List (Str×Str)}{f x:Str×Str}(h:x∈wd)(n:¬x.1=f.1):x∈Zj1 wd f:=List.mem_map.mpr ⟨x,h,if_neg n⟩
theorem ZgZ:∀{fs wd:List (Str×Str)} {x:Str×Str},x∈wd->x.1∉fs.map (·.1)->x∈ZaC wd fs
 |[],_,_,h,_=>h
 |f::fs,wd,x,h,n=>by
  rw[List.map_cons,List.mem_cons,not_or] at n
  exact ZgZ (fs:=fs) (ZoA h n.1) n.2
theorem ZlZ(wd fs:List (Str×Str))(f:Str×Str):ZaC wd (fs++[f])=Zj1 (ZaC wd fs) f:=by
 unfold ZaC;rw[List.foldl_append]
 rfl
theorem Zn8(wd fs:List (Str×Str))(f:Str×Str):Zao wd (fs++[f])=Zao wd fs++(if Zan wd f=true then[f.1] else[]):=by
 unfold Zao;rw[List.filter_append,List.map_append]
 congr 1
 by_cases h:Zan wd f=true
 ·rw[if_pos h,List.filter_cons_of_pos h]
  rfl
 ·rw[if_neg h,List.filter_cons_of_neg h]
  rfl
theorem Zrs{H:Hp}:∀{fs:List (Str×Str)} {us:List V},Paired (Zou H) fs us->∀(i:Nat) (u:V),us[i]? =some u->∃f p,fs[i]? =some f/\u=.ref p/\H p=some (.tup [.str f.1,.str f.2])
 |_,_,.nil,i,u,h=>by simp at h
 |_,_,.cons (a:=f) (b:=v) ⟨p,e,r⟩ t,0,u,h=>by
  have h:v=u:=by simpa using h
  subst h;exact⟨f,p,rfl,e,r⟩
 |_,_,.cons _ t,i+1,u,h=>by
  obtain⟨f,p,e,z⟩:=Zrs t i u (by simpa using h);exact⟨f,p,by simpa using e,z⟩
theorem JS:ZC ["self","row","found","fresh","record","word"] ["self","row"] (Zt Zdf):=⟨rfl,rfl,rfl,by decide+kernel,rfl,by decide+kernel,by decide+kernel⟩
theorem Zj3{f:Addr}{fd:FuncData}(F:Fun K "tell" "House.tell" Zdf f fd)(T:Txt K mg Zh Zf Zg Zb Zo)(n:Nat)(Zfr:Zbj P w K mg base CX0 13 "keep_row" ["self","row"] (Zc9 Zh Zf Zg Zb 12) (fun C=>C=Zo))(Zds:Zbj P w K mg base CX0 14 "refuse_row" ["self","row"] (ZaJ Zh Zf Zg Zb 12) (fun C=>C=Zo))(Zdt:Zbj P w K mg base CX0 13 "touched_by" ["self","row"] (ZaK Zh Zf Zg Zb 12) (fun C=>C=Zo))(Zeh:Zbj P w K mg base CX0 27 "words_now" ["self","records"] (Zbo Zh Zf Zg Zb 12) (fun C=>C=Zo)):Yl P w K mg base CX0 (27+n+1+1) f fd ["self","row"] (Zhs Zh Zf Zg Zb (n+1) Zo):=by
 refine F.ok JS (fun vs H Q E h=> ?_) (fun cdv A outer s H vs Q E hr h=> ?_)
 ·obtain⟨a,d,w,s,F,rfl,_⟩:=h
  rfl
 ·obtain⟨a,d,w,s,F,rfl,_,hA,hd,tk,lrs,ok,wo,lg,q⟩:=h;have l5:=Xe;have hu:=Zbg hr;have few:(s.ws++[w]).length<=400:=ok.few;rw[List.length_append,List.length_singleton] at few
  have kw:s.wd.length=s.gs.length:=by
   have:=congrArg List.length wo.keys
   rwa [List.length_map,List.length_map] at this
  have ndw:(s.wd.map (·.1)).Nodup:=by rw[wo.keys];exact ok.one
  have hd:H d=some (.tup w.vs):=hd;refine⟨_,(Ze (Xh (Zaa (pv 0) Zds (hr.mono (by omega)) ZJ (Za (pv 1) Zj))) (Ze (Xh (Zaa (pv 0) Zfr (hr.mono (by omega)) ZJ (Za (Zbq ZiP (by rfl) T.z_tuple Zpc (Za (pv 1) Zj)) Zj))) (Ze (Zu (i:=2) JS.nd rfl (Or.inl rfl) (Zaa (pv 0) Zeh (hr.mono (by omega)) ZJ (Za (Zaa (pv 0) Zdt (hr.mono (by omega)) ZJ (Za (pv 1) Zj)) Zj))) (Ze (Zu (i:=3) JS.nd rfl (Or.inl rfl) (Yk Zj)) (Ze (Xi PassesOwn.never rfl (Yb (pv 2)) (Zgf rfl (Xp (ZF (i:=4) JS.nd rfl (Or.inl rfl)) (Xp (ZF (i:=5) JS.nd rfl (Or.inl rfl)) ZcZ))) (Ze (ZZ (PW.pt (Xz (Zq Ym (Za9 hu (Yg (pv 0) rfl) (pv 4) (fun _ _=>rfl)) ZK (Zv _)) (YX (Zq ZoS (pv 5) ZK (Zv _))))) (Zn (Xh (ZaL PySem.F.plainAttrs_list PySem.F.slot_list_append PySem.F.type_list_append YC (pv 3) (Za (pv 4) Zj)))) ZD) (Zn (ZaE hu (Yg (pv 0) rfl) (pv 4) (pv 5) rfl)))) (Zn (Zz (ZS Zd8 (by rfl) T.z_sorted Jt (Za (pv 3) Zj))))))))), ?_⟩
  obtain⟨dx,b,t,o,h,r,k,wa,ha,_⟩:=hA.ins;refine⟨_,rfl,a,_,dx,_,rfl,ha,rfl,ZgY (by decide+kernel),_,rfl,a,d,w,s,F,rfl,by decide,hA,hd,by omega,lrs,tk,fun H1 s1=> ?_⟩;have hA1:=hA.same s1;have hd1:=s1 _ _ hd;refine⟨_,rfl,a,_,dx,_,rfl,s1 _ _ ha,rfl,ZgY (by decide+kernel),_,rfl,d,_,rfl,.inr ⟨SqT.of hd1,a,d,w,s,F,rfl,by decide,hA1,hd1,by omega,fun H2 F2 kp2 sub2 sup2 hA2=> ?_⟩⟩;have hd2:=hA1.kinds.tup kp2 _ _ hd1
  obtain⟨dx2,b2,t2,o2,h2,r2,k2,wa2,os2,kvs2,ha2,hb2,ht2,ho2,oa2,hh2,hr2,hk2,pk2,hw2,eF2,nd2,nb2⟩:=id hA2;have tsub:∀r∈Zca {s with ws:=s.ws++[w]} w,r∈s.gs.map (·.1):=fun r hr=>by
   rw[<-wo.keys];exact Zeg (s:={s with ws:=s.ws++[w]}) r hr
  have tnd:=Zj2 (s:={s with ws:=s.ws++[w]}) (w:=w) ndw;have tlen:(Zca {s with ws:=s.ws++[w]} w).length<=s.gs.length:=by
   have:=tnd.length_le_of_subset tsub
   rwa [List.length_map] at this
  refine⟨_,rfl,a,_,dx2,_,rfl,ha2,rfl,ZgY (by decide+kernel),_,rfl,a,_,dx2,_,rfl,ha2,rfl,ZgY (by decide+kernel),_,rfl,a,d,w,{s with ws:=s.ws++[w]},F2,rfl,by decide,hA2,hd2,by show s.wd.length<=900;omega,fun L3 H3 hL3 s3 hl3=> ?_⟩
  have hA3:=hA2.same s3;refine⟨a,L3,_,{s with ws:=s.ws++[w]},F2,rfl,by decide,hA3,ok,hl3,by omega,tsub,fun L4 us fs H4 hL4 s4 hl4 pf ef wf=> ?_⟩;have s24:=s3.trans s4;have lfs:fs.length<64:=by
   have:=congrArg List.length ef;rw[List.length_map] at this
   omega
  have lus:=Paired.length pf;refine⟨Nat.zero_le _,fun Fr hFr=> ?_⟩;have sFr:=Zk hFr (o:=.lst []);have hw4:=s24 _ _ hw2;have nWF:wa2≠Fr:=Zd hw4 hFr;have nfs:(fs.map (·.1)).Nodup:=by rw[ef];exact tnd
  refine⟨_,rfl,L4,rfl,⟨_,SqL.of (sFr _ _ hl4)⟩,YH (xs:=us) (fun i σ H'=>∃v4 v5:Option V,σ=[some (.ref a),some (.ref d),some (.ref L4),some (.ref Fr),v4,v5]/\H' Fr=some (.lst ((Zao s.wd (fs.take i)).map V.str))/\H' wa2=some (.dK (wkv (ZaC s.wd (fs.take i))))/\∀c u,c≠Fr->c≠wa2->H4 c=some u->H' c=some u) ?_ ?_ ?_ ?_⟩
  ·exact⟨none,none,rfl,Zc,by rw[Zm nWF];exact hw4,fun c u n1 n2 e=>by rw[Zm n1];exact e⟩
  ·rintro i σ H5 _ ⟨v4,v5,rfl,_,_,fr⟩;exact SqL.of (fr _ _ (Zd hl4 hFr) (Yj hl4 hw4 (fun z=>nomatch z)) hl4)
  ·rintro i x σ H5 hx ⟨v4,v5,rfl,hf5,hw5,fr⟩;obtain⟨f,p,ei,rfl,row4⟩:=Zrs pf i x hx;have row:H5 p=some (.tup [.str f.1,.str f.2]):=fr _ _ (Zd row4 hFr) (Yj row4 hw4 (fun z=>nomatch z)) row4;have ha5:=fr _ _ (Zd (s24 _ _ ha2) hFr) (Yj (s24 _ _ ha2) hw4 (fun z=>nomatch z)) (s24 _ _ ha2);have tkf:fs.take (i+1)=fs.take i++[f]:=by rw[List.take_add_one,ei];rfl
   have fin:f.1∈s.wd.map (·.1):=Zeg (s:={s with ws:=s.ws++[w]}) (w:=w) f.1 (by rw[<-ef];exact List.mem_map_of_mem (List.mem_of_getElem? ei))
   obtain⟨x0,hx0,ex0⟩:=List.mem_map.mp fin;have nin:x0.1∉(fs.take i).map (·.1):=fun z=>by
    rw[ex0] at z
    have hi:i<fs.length:=(List.getElem?_eq_some_iff.mp ei).1;have ei2:fs[i]=f:=(List.getElem?_eq_some_iff.mp ei).2;obtain⟨y,hy,ey⟩:=List.mem_map.mp z;obtain⟨m,hm,em⟩:=List.getElem_of_mem hy;have hm2:m<i:=by rw[List.length_take] at hm;omega
    rw[List.getElem_take] at em
    have:=(List.pairwise_iff_getElem.mp (List.nodup_iff_pairwise_ne.mp nfs)) m i (by rw[List.length_map];omega) (by rw[List.length_map];exact hi) hm2
    rw[List.getElem_map,List.getElem_map,em,ei2] at this
    exact this ey
   have xin:x0∈ZaC s.wd (fs.take i):=ZgZ hx0 nin;have ndk:((ZaC s.wd (fs.take i)).map (·.1)).Nodup:=by rw[ZaW];exact ndw
   have val:=ZnJ ndk x0 xin;rw[ex0] at val
   have due_in:decide ((f.1,Str.ofString "due")∈s.wd)=decide (x0.2=Str.ofString "due"):=decide_eq_decide.mpr ⟨fun m=>by rw[Zgx ndw hx0 m ex0],fun e=>by rw[<-ex0,<-e];exact hx0⟩
   have lwd:(wkv (ZaC s.wd (fs.take i))).length<sizeLine:=by
    have:=congrArg List.length (ZaW (fs.take i) s.wd);rw[List.length_map,List.length_map] at this
    unfold wkv;rw[List.length_map];omega
   rw[tkf];simp only [ZlZ,Zn8];rw[<-Zq2 (by rw[ZaW];exact fin)]
   have lfr:(Zao s.wd (fs.take i)).length<=64:=by
    unfold Zao;rw[List.length_map];have h1:=List.length_filter_le (Zan s.wd) (fs.take i);have h2:=List.length_take_le' i fs;omega
   refine⟨p,_,rfl,SqT.of row,rfl,_,_,rfl,_,_,rfl,rfl, ?_⟩;refine(fun(rest:∀(σ':L2.St) (H6:Hp),σ'=[some (.ref a),some (.ref d),some (.ref L4),some (.ref Fr),some (.str f.1),some (.str f.2)]->H6 Fr=some (.lst ((Zao s.wd (fs.take i)++(if Zan s.wd f=true then[f.1] else[])).map V.str))->(∀c u,c≠Fr->H5 c=some u->H6 c=some u)->(_:L2.St->Hp->Prop) σ' H6)=>
    ⟨_,rfl,a,_,dx2,_,_,rfl,ha5,T.cl_House,T.n_House_words,ZaU ..,_,rfl,wa2,_,rfl,.inl ⟨_,Sum.inr f.1,.inl hw5,rfl,val.symm⟩,rfl,_,rfl,YQ (fun e=> ?yes) (fun e=>Yt (rest _ H5 rfl (by unfold Zan;rw[due_in,Bool.eq_false_iff.mpr (show¬decide (x0.2=Str.ofString "due")=true from fun y=>e (decide_eq_true (congrArg V.str (of_decide_eq_true y)))),Bool.false_and,if_neg Bool.false_ne_true,List.append_nil];exact hf5) (fun c u _ y=>y)))⟩) ?rest
   case yes=>
    have e:x0.2=Str.ofString "due":=by injection of_decide_eq_true e
    refine⟨_,rfl,rfl,_,rfl,YQ (fun e2=> ?_) (fun e2=>rest _ H5 rfl ?_ (fun c u _ y=>y))⟩
    ·have gd:Zan s.wd f=true:=by
      unfold Zan;rw[due_in,decide_eq_true e,Bool.true_and];cases q2:decide (f.2=Str.ofString "due") with
      |false=>rfl
      |true=>
       rw[decide_eq_true (congrArg V.str (of_decide_eq_true q2))] at e2
       cases e2
     refine⟨_,rfl,.inl ⟨rfl,_,SqL.of hf5⟩,_,rfl,Fr,_,V.str f.1,rfl,rfl,hf5,by rw[List.length_map];omega,rest _ _ rfl (by rw[Zc,if_pos gd,List.map_append];rfl) fun c u n y=>by rw[Zm n];exact y⟩
    ·have gd:Zan s.wd f=false:=by
      unfold Zan;cases q2:decide (f.2=Str.ofString "due") with
      |true=>exact Bool.and_false _
      |false=>
       refine absurd ?_ e2;rw[decide_eq_false (vne (of_decide_eq_false q2))]
       rfl
     rw[gd,if_neg Bool.false_ne_true,List.append_nil];exact hf5
   case rest=>
    rintro σ' H6 rfl hf6 k6;have hw6:=k6 _ _ nWF hw5;refine⟨_,rfl,_,rfl,a,_,dx2,_,_,rfl,k6 _ _ (Yj ha5 hf5 (fun z=>nomatch z)) ha5,T.cl_House,T.n_House_words,ZaU ..,_,rfl,wa2,_,rfl,ZfL.k (k:=Sum.inr f.1) hw6 lwd,_,_,rfl,by rw[Zm (Ne.symm nWF)];exact hf6,Zc,fun c u n1 n2 y=>by rw[Zm n2];exact k6 _ _ n1 (fr c u n1 n2 y)⟩
  ·rintro σ H5 ⟨v4,v5,rfl,hf5,hw5,fr⟩;rw[<-lus,List.take_length] at hf5 hw5
   have lfr:(Zao s.wd fs).length<64:=by
    unfold Zao;rw[List.length_map];have h1:=List.length_filter_le (Zan s.wd) fs;omega
   refine⟨_,rfl,Fr,Zao s.wd fs,rfl,SqL.of hf5,lfr,fun zs pz sz D hD=> ?_⟩;have s6:=Zk hD (o:=.lst (zs.map V.str));have fr6:∀c u,c≠Fr->c≠wa2->H4 c=some u->upd H5 D (.lst (zs.map V.str)) c=some u:=fun c u n1 n2 e=>s6 _ _ (fr c u n1 n2 e);have hw6:=s6 _ _ hw5;have d6:upd H5 D (.lst (zs.map V.str)) D=some (.lst (zs.map V.str)):=Zc;have n4:∀{c:Addr},H5 c=none->H4 c=none:=fun{c} z=>by
    cases e:H4 c with
    |none=>rfl
    |some u=>
     by_cases c1:c=Fr
     ·rw[c1,hf5] at z;cases z
     ·by_cases c2:c=wa2
      ·rw[c2,hw5] at z;cases z
      ·rw[fr c u c1 c2 e] at z;cases z
   have nD4:=n4 hD;generalize upd H5 D (.lst (zs.map V.str))=H6 at fr6 hw6 d6
   have hA4:=hA2.same s24;have ki4:=hA4.kinds;have inF:∀{c:Addr},c∈F2->c≠Fr:=fun m z=>by
    rcases ki4 _ m with ⟨_,y⟩|⟨_,y⟩<;>rw[z,hFr] at y<;>cases y
   have kp46:ZeO F2 H4 H6:=fun c u m e=>fr6 c u (Zd e hFr) (fun z=>m (by rw[z,eF2];simp)) e
   have t6:=ki4.tup kp46;have i6:=ki4.ins kp46;have none2:∀{c:Addr},H4 c=none->H1 c=none\/c∈F:=fun{c} z=>by
    have z2:=YS s24 z;cases e:H1 c with
    |none=>exact .inl rfl
    |some u=>
     by_cases m:c∈F
     ·exact .inr m
     ·rw[kp2 c u m e] at z2;cases z2
   have kinds1:=hA1.kinds;have noneH:∀{c:Addr},H4 c=none->H c=none:=fun{c} z=>by
    rcases none2 z with e|m
    ·exact YS s1 e
    ·rcases ki4 c (sup2 c m) with ⟨_,y⟩|⟨_,y⟩<;>rw[y] at z<;>cases z
   have k5:∀{c:Addr},c∈F2->c≠wa2->∀u,H4 c=some u->H6 c=some u:=fun m n u e=>fr6 _ _ (inF m) n e;have nd:=nd2;rw[eF2] at nd
   simp only [List.nodup_cons,List.mem_cons,not_or] at nd
   obtain⟨⟨nto,nth,ntr,ntk,ntw,nts⟩,⟨noh,nor,nok,now_,nos⟩,⟨nhr,nhk,nhw,nhs⟩,⟨nrk,nrw,nrs⟩,⟨nkw,nks⟩,nws,ndo⟩:=nd;have mt:t2∈F2:=by rw[eF2];simp
   have mo:o2∈F2:=by rw[eF2];simp
   have mh:h2∈F2:=by rw[eF2];simp
   have mr:r2∈F2:=by rw[eF2];simp
   have mk:k2∈F2:=by rw[eF2];simp
   have mx:∀x∈os2,x.2∈F2:=fun x hx=>by
    rw[eF2];simp only [List.mem_cons];exact .inr (.inr (.inr (.inr (.inr (.inr (List.mem_map_of_mem hx))))))
   have rw6:∀{c:Addr} {rows:List Rw},c∈F2->c≠wa2->YF H2 c rows->YF H6 c rows:=fun m n ⟨ds,e,pp⟩=>⟨ds,k5 m n _ (s24 _ _ e),YT t6 (ZM s24 pp)⟩
   refine q D zs (ZaC s.wd fs) H6 F2 (fun c u m e=> ?_) (fun c m=> ?_) sup2 ⟨dx2,b2,t2,o2,h2,r2,k2,wa2,os2,kvs2,i6 _ _ _ _ (s24 _ _ ha2),Zdq t6 (fun c C dx fs e=>i6 _ _ _ _ e) (fun u e=>fr6 _ _ (Zd e hFr) (fun z=>nb2 (by rw[z,eF2];simp)) e) (Jf s24 hb2),rw6 mt ntw ht2,k5 mo now_ _ (s24 _ _ ho2),⟨oa2.one,oa2.mem,fun x hx=>rw6 (mx x hx) (fun z=>nws (by rw[<-z];exact List.mem_map_of_mem hx)) (oa2.at_ x hx)⟩,rw6 mh nhw hh2,k5 mr nrw _ (s24 _ _ hr2),k5 mk nkw _ (s24 _ _ hk2),JM t6 (JM (fun c xs e=>s24 _ _ e) pk2),hw6,eF2,nd2,nb2⟩ (Zn7 wo ef wf) (noneH nD4) (fun m=> ?_) d6 sz ⟨fs,nfs,(fun f hf=>Zeg (s:={s with ws:=s.ws++[w]}) (w:=w) f.1 (by rw[<-ef];exact List.mem_map_of_mem hf)),pz,rfl⟩
   ·have c2:c∉F2:=fun y=>by
     rcases sub2 c y with z|z
     ·exact m z
     ·rw[s1 _ _ e] at z;cases z
    exact kp46 c u c2 (s24 _ _ (kp2 c u m (s1 _ _ e)))
   ·rcases sub2 c m with z|z
    ·exact .inl z
    ·exact .inr (YS s1 z)
   ·rcases ki4 _ m with ⟨_,y⟩|⟨_,y⟩<;>rw[nD4] at y<;>cases y
theorem Ziq:∀(xs:List Str) (p:Str),risingS p xs=true->(∀x∈xs,Xl x p=false)/\M4.Asc Xl xs
 |[],_,_=>⟨(fun _ h=>nomatch h),.nil⟩
 |x::r,p,h=>by
  have h:(!ltCps x.cps.toList p.cps.toList&&risingS x r)=true:=h;rw[ltCps_eq] at h
  have h:(!Xl x p&&risingS x r)=true:=h;rw[Bool.and_eq_true] at h
  have hx:Xl x p=false:=by simpa using h.1
  obtain⟨k1,k2⟩:=Ziq r x h.2;refine⟨fun y hy=> ?_,List.pairwise_cons.mpr ⟨fun y hy=>k1 y hy,k2⟩⟩;obtain rfl|hr:=List.mem_cons.mp hy
  ·exact hx
  ·cases e:Xl y p with
   |false=>rfl
   |true=>
    rcases Xo.tri x y with a|a|a
    ·rw[Xo.tr _ _ _ a e] at hx;cases hx
    ·subst a;rw[e] at hx;cases hx
    ·rw[k1 y hr] at a;cases a
theorem ZbR{zs:List Str}(h:sortedS zs=true):M4.Asc Xl zs:=by
 cases zs with
 |nil=>exact .nil
 |cons x r=>
  obtain⟨k1,k2⟩:=Ziq r x h;exact List.pairwise_cons.mpr ⟨k1,k2⟩
theorem Zn9{a b c:List Str}(pa:a.Perm c)(pb:b.Perm c)(ha:sortedS a=true)(hb:sortedS b=true):a=b:=M4.Zke Xo (pa.trans pb.symm) (ZbR ha) (ZbR hb)
theorem IsJ.one{rs:List Sr}{ws:List Rw}{rec:Str}{day:Int}{j k:Jd}(h:IsJ rs ws rec day j)(h':IsJ rs ws rec day k):j=k:=by
 cases e:Xm (ZR ws day) rec with
 |false=>rw[h.no e,h'.no e]
 |true=>
  obtain⟨y,r0,t,a1,a2,a3,a4,a5,a6,a7,a8,a9⟩:=h.yes e;obtain⟨y',r0',t',b1,b2,b3,b4,b5,b6,b7,b8,b9⟩:=h'.yes e;obtain rfl:=a1.one b1;rw[a2] at b2
  cases b2;rw[a3] at b3
  cases b3;have eh:=Zn9 a7 b7 a8 b8;obtain⟨jw,js,jo,jd,jh⟩:=j;obtain⟨kw,ks,ko,kd,kh⟩:=k;simp only at a4 a5 a6 a9 b4 b5 b6 b9 eh
  subst a4 a5 a6 b4 b5 b6 eh;rw[a9,b9]
def ZaD(s:Hs)(day:Int)(r:Str):Prop:=∃j,IsJ s.rs s.ws r day j/\j.word="due"
def Zg7(s:Hs)(day:Int)(H:Hp)(r:Str)(v:V):Prop:=∃p j v5,v=.ref p/\H p=some (.tup [.str r,oS j.ser,oS j.own,oV j.due,v5])/\IsJ s.rs s.ws r day j/\j.word="due"/\Znu s.rs s.ws r day H v5
def Zfs(ws:List Rw):Prop:=∃ns:List Str,ns.length<64/\∀r,ZQ ws r≠[]->r∈ns
def ZeK(cn ca cl ce:Addr)(n:Nat)(C:Addr):Sp:=fun vs H Q _=>∃(a:Addr) (day:Int) (s:Hs) (F:List Addr),vs=[.ref a,.int day]/\0<n/\ZL cn ca cl ce C H a s F/\Zg6 s/\Zfs s.ws/\
 ∀L us zs H',H L=none->Zy H H'->H' L=some (.lst us)->Paired (Zg7 s day H') zs us->zs.Pairwise (fun a b=>Xl a b=true)->(∀r,r∈zs↔r∉s.gs.map (·.1)/\ZaD s day r)->Q (.ref L) H'
theorem Zm0{cn ca cl ce C:Addr}:∀vs H Q E,¬ZeK cn ca cl ce 0 C vs H Q E:=fun _ _ _ _ ⟨_,_,_,_,_,z,_⟩=>Nat.lt_irrefl 0 z
def Zg8(gs:List Gn)(kv:Key×V):List V:=match kv.1 with
 | .inr r=>if r∈gs.map (·.1) then[] else[V.str r]
 | .inl _=>[]
theorem Zir(gs:List Gn):∀os:List (Str×Addr),(okv os).flatMap (Zg8 gs)=((os.map (·.1)).filter fun r=> !decide (r∈gs.map (·.1))).map V.str
 |[]=>rfl
 |x::os=>by
  show Zg8 gs (Sum.inr x.1,V.ref x.2)++(okv os).flatMap (Zg8 gs)=_;rw[Zir gs os,List.map_cons];show(if x.1∈gs.map (·.1) then[] else[V.str x.1])++_=_
  by_cases h:x.1∈gs.map (·.1)
  ·rw[if_pos h,List.filter_cons_of_neg (by rw[decide_eq_true h];exact Bool.false_ne_true)]
   rfl
  ·rw[if_neg h,List.filter_cons_of_pos (by rw[decide_eq_false h];rfl)]
   rfl
theorem Zna{H:Hp}:∀{gs:List Gn} {kvs:List (Key×V)},Paired (ZmO H) gs kvs->∀r,(Yp kvs (Sum.inr r)).isSome=decide (r∈gs.map (·.1))
 |_,_,.nil,r=>rfl
 |_,_,.cons (a:=g) ⟨p,e,hp⟩ t,r=>by
  subst e
  by_cases z:g.1=r
  ·rw[Yr (by rw[z])];exact(decide_eq_true (by rw[List.map_cons,z];exact List.mem_cons_self ..)).symm
  ·rw[Yn (by exact fun y=>z (by injection y)),Zna t r];refine decide_eq_decide.mpr ⟨fun m=> ?_,fun m=> ?_⟩
   ·rw[List.map_cons];exact List.mem_cons_of_mem _ m
   ·rw[List.map_cons] at m
    exact(List.mem_cons.mp m).elim (fun y=>absurd y.symm z) id
theorem Zei{s:Hs}{day:Int}{H H':Hp}(sm:∀b xs,H b=some (.tup xs)->H' b=some (.tup xs)):∀{zs:List Str} {us:List V},Paired (Zg7 s day H) zs us->Paired (Zg7 s day H') zs us
 |_,_,.nil=> .nil
 |_,_,.cons ⟨p,j,v5,e,h,is,wd,wy⟩ t=> .cons ⟨p,j,v5,e,sm _ _ h,is,wd,⟨wy.no,fun z=>by
   obtain⟨y,r0,t,top,ow,ht,no,yes⟩:=wy.yes z;refine⟨y,r0,t,top,ow,ht,no,fun D e=> ?_⟩;obtain⟨a,k,d,n,e1,ha,r⟩:=yes D e;exact⟨a,k,d,n,e1,sm _ _ ha,r⟩⟩⟩ (Zei sm t)
theorem Zht{s:Hs}{day:Int}{r:Str}(h:ZaD s day r):ZQ s.ws r≠[]:=fun z=>by
 obtain⟨j,is,e⟩:=h;have np:Xm (ZR s.ws day) r=false:=by
  obtain⟨a1,_⟩:=ZeH (ws:=s.ws) (r:=r) (x:=day) (s:=day) rfl;rw[a1,z]
  rfl
 rw[is.no np] at e
 exact absurd e (by decide+kernel:¬Str.ofString "absent"=Str.ofString "due")
theorem Zej{zs xs:List Str}(p:zs.Perm xs)(nd:xs.Nodup)(h:M4.Asc Xl zs):zs.Pairwise fun a b=>Xl a b=true:=by
 have nz:zs.Pairwise (· ≠ ·):=List.nodup_iff_pairwise_ne.mp (p.nodup_iff.mpr nd);have h:zs.Pairwise fun a b=>Xl b a=false:=h;refine(h.and nz).imp fun{a b} ⟨h1,h2⟩=> ?_;rcases Xo.tri a b with q|q|q
 ·exact q
 ·exact absurd q h2
 ·rw[h1] at q;cases q
theorem ZbS{α:Type}{zs:List α}{i:Nat}{x:α}(nd:zs.Nodup)(e:zs[i]? =some x):x∉zs.take i:=fun m=>by
 obtain⟨hi,ei⟩:=List.getElem?_eq_some_iff.mp e;obtain⟨k,hk,ek⟩:=List.getElem_of_mem m;have hk2:k<i:=by rw[List.length_take] at hk;omega
 rw[List.getElem_take] at ek
 have:=(List.pairwise_iff_getElem.mp (List.nodup_iff_pairwise_ne.mp nd)) k i (by omega) hi hk2;rw[ek,ei] at this
 exact this rfl
theorem XF:ZC ["self","day","found","stays","record","rows","told"] ["self","day"] (Zt ZbG):=⟨rfl,rfl,rfl,by decide+kernel,rfl,by decide+kernel,by decide+kernel⟩
theorem Zhe{f:Addr}{fd:FuncData}(F:Fun K "due_on" "House.due_on" ZbG f fd)(T:Txt K mg Zh Zf Zg Zb Zo)(n:Nat)(XD:Cal P w K mg base CX0 1 "counted" ["rows","day"] Zax)(Zam:Cal P w K mg base CX0 14 "judged" ["book","rows","record","day"] (ZcO Zh Zf Zg Zb))(Zis:Cal P w K mg base CX0 14 "reason" ["book","rows","record","day"] (Zgq Zh Zf Zg Zb))(Jq:Cal P w K mg base CX0 1 "standing" ["rows"] ZaR):Yl P w K mg base CX0 (14+n+1+1) f fd ["self","day"] (ZeK Zh Zf Zg Zb (n+1) Zo):=by
 refine F.ok XF (fun vs H Q E h=> ?_) (fun cdv A outer s H vs Q E hr h=> ?_)
 ·obtain⟨a,day,s,F,rfl,_⟩:=h
  rfl
 ·obtain⟨a,day,s,F,rfl,_,⟨dx,b,t,o,h,r,k,wd,os,kvs,ha,hb,ht,ho,oa,hh,hr',hk,pk,hw,eF,nd,nb⟩,ok,l64,q⟩:=h;have l5:=Xe;have hu:=Zbg hr;have few:=ok.few;refine⟨_,(Ze (Zu (i:=2) XF.nd rfl (Or.inl rfl) (Yk Zj)) (Ze (Zu (i:=3) XF.nd rfl (Or.inl rfl) (ZV Jq (hr.mono (by omega)) rfl ZJ (Za (ZV XD (hr.mono (by omega)) rfl ZJ (Za (Yg (pv 0) rfl) (Za (pv 1) Zj))) Zj))) (Ze (Xi PassesOwn.never rfl (Yb (ZS Zd8 (by rfl) T.z_sorted Jt (Za (ZhO (Jc ["name"] [("self",0)] rfl (Znn (Yg (pv 0) rfl)) (by rfl) (by exact⟨rfl,trivial⟩) (by rfl) (by exact⟨⟨rfl,rfl,rfl⟩,trivial⟩) (fun _ _ _ _=>(ZF (i:=0) (show(nmY ["name"] [("self",0)]).Nodup by decide+kernel) rfl (Or.inl rfl))) (fun _ _ _ _=>(Jw (ZcY (Zbr hu (pv 0) (Znt (K:=K) rfl (pv 1) rfl))))) (fun _ _ _ _=>(pv 0)))) Zj))) (ZF (i:=4) XF.nd rfl (Or.inl rfl)) (Ze (Zu (i:=5) XF.nd rfl (Or.inl rfl) (Zw Zd4 (Za9 hu (Yg (pv 0) rfl) (pv 4) (fun _ _=>rfl)) (pv 3))) (Ze (Zu (i:=6) XF.nd rfl (Or.inl rfl) (ZV Zam (hr.mono (by omega)) rfl ZJ (Za (Yg (pv 0) rfl) (Za (pv 5) (Za (pv 4) (Za (pv 1) Zj)))))) (Zn (ZZ (Zq Ym (Zx ZG (pv 6) Zi (fun _ _=>rfl)) ZK (Zv _)) (Zn (Xh (ZaL PySem.F.plainAttrs_list PySem.F.slot_list_append PySem.F.type_list_append YC (pv 2) (Za (YK (Za (pv 4) (Za (Zx ZG (pv 6) Zi (fun _ _=>rfl)) (Za (Zx ZG (pv 6) Zi (fun _ _=>rfl)) (Za (Zx ZG (pv 6) Zi (fun _ _=>rfl)) (Za (ZV Zis (hr.mono (by omega)) rfl ZJ (Za (Yg (pv 0) rfl) (Za (pv 5) (Za (pv 4) (Za (pv 1) Zj))))) Zj)))))) Zj)))) ZD))))) (Zn (Zz (pv 2)))))), ?_⟩
  refine⟨Nat.zero_le _,fun Fd hFd=> ?_⟩;have sF:=Zk hFd (o:=.lst []);have hF1:upd H Fd (.lst []) Fd=some (.lst []):=Zc;generalize upd H Fd (.lst [])=H1 at sF hF1
  have lh:(s.ws.filter JR).length<=s.ws.length:=List.length_filter_le _ _;refine⟨_,rfl,a,_,dx,_,_,rfl,sF _ _ ha,T.cl_House,T.n_House_holdings,Zc7 ..,_,rfl,h,s.ws.filter JR,day,rfl,Yh sF hh,by omega,fun C H2 hC s2 rc=> ?_⟩;have lu:(ZR (s.ws.filter JR) day).length<=(s.ws.filter JR).length:=List.length_filter_le _ _;refine⟨C,_,rfl,rc,by omega,fun St H3 hSt s3 rl=> ?_⟩;have s03:=sF.trans (s2.trans s3)
  have hF3:=s3 _ _ (s2 _ _ hF1);have ho3:=s03 _ _ ho;have los:os.length<64:=by
   obtain⟨ns,l,sub⟩:=l64;have:=oa.one.length_le_of_subset fun r hr=>sub r ((oa.mem r).mp hr);rw[List.length_map] at this
   omega
  have nSF:St≠Fd:=fun z=>by rw[z,s2 _ _ hF1] at hSt;cases hSt
  have lok:(okv os).length=os.length:=List.length_map ..;refine⟨_,rfl,a,_,dx,_,_,rfl,s03 _ _ ha,T.cl_House,T.n_House_own,Zik ..,o,okv os,rfl,ho3,fun ob=> ?_⟩;refine Xa (okv os).length (fun i=>(((okv os)[i]?).map (Zg8 s.gs)).getD []) (by omega) (fun i=> ?_) (fun i H2 s lt=>⟨s _ _ Zc,lt⟩) (fun H2 s=>⟨s _ _ Zc,Nat.le_refl _⟩) (fun i x H4 H5 s4 lt y RT RF rt rf=> ?_) fun D H4 hD s4 d4=> ?_
  ·cases(okv os)[i]? with
   |none=>exact Nat.zero_le _
   |some kv=>
    show(Zg8 s.gs kv).length<=1;unfold Zg8;cases kv.1 with
    |inl _=>exact Nat.zero_le _
    |inr z=>
     show(if z∈s.gs.map (·.1) then[] else[V.str z]).length<=1
     split
     ·exact Nat.zero_le _
     ·exact Nat.le_refl _
  ·obtain⟨rfl,kv,e2,rfl⟩:=y;rw[e2] at rt rf
   have rt:∀v H6,Zg8 s.gs kv=[v]->_:=rt;have rf:∀H5,Zg8 s.gs kv=[]->_:=rf;obtain⟨x0,_,rfl⟩:=List.mem_map.mp (List.mem_of_getElem? e2);have nko:k≠o:=by
    rw[eF] at nd
    simp only [List.nodup_cons,List.mem_cons,not_or] at nd
    exact Ne.symm nd.2.1.2.2.1
   have hk5:=s4 _ _ (show upd H3 o (.frz ob (.dK (okv os))) k=some (.dK kvs) by rw[Zm nko];exact s03 _ _ hk)
   have ha5:=s4 _ _ (show upd H3 o (.frz ob (.dK (okv os))) a=some (.ins Zo dx (fH b t o h r k wd)) by rw[Zm (Yj ha ho (fun z=>nomatch z))];exact s03 _ _ ha)
   refine⟨⟨rfl,trivial⟩,_,rfl,_,rfl,a,_,dx,_,_,rfl,ha5,T.cl_House,T.n_House_taken,Zil ..,k,_,rfl,.inl ⟨kvs,Sum.inr x0.1,.inl hk5,rfl,rfl⟩,_,rfl, ?_⟩;rw[Zna pk]
   by_cases z:x0.1∈s.gs.map (·.1)
   ·rw[decide_eq_true z];exact Yt (rf _ (if_pos z) (Zy.refl _))
   ·rw[decide_eq_false z];exact JZ ⟨_,rfl,rt _ _ (if_neg z) (Zy.refl _)⟩
  ·rw[Xq (Zg8 s.gs) (okv os),Zir] at d4
   have hDo:D≠o:=fun e=>by rw[e,Zc] at hD;cases hD
   obtain⟨t1,t2⟩:=(Zjj.of s4).thaw (H₀:=H) ho3 (fun ob u z=>by rw[ho] at z;cases z)
   have hD3:H3 D=none:=by rw[Zm hDo] at hD;exact hD
   have dD:upd H4 o (.dK (okv os)) D=some (.lst (((os.map (·.1)).filter fun r=> !decide (r∈s.gs.map (·.1))).map V.str)):=by rw[Zm hDo];exact d4
   refine⟨o,_,t1, ?_⟩;generalize upd H4 o (.dK (okv os))=H5 at t1 t2 dD
   have ln:((os.map (·.1)).filter fun r=> !decide (r∈s.gs.map (·.1))).length<=(os.map (·.1)).length:=List.length_filter_le _ _;rw[List.length_map] at ln
   refine⟨D,_,rfl,SqL.of dD,by omega,fun zs pz sz D2 hD2=> ?_⟩;have s05:=s03.trans (t2.trans (Zk hD2 (o:=.lst (zs.map V.str))));have hF6:=(t2.trans (Zk hD2 (o:=.lst (zs.map V.str)))) _ _ hF3;have rl6:=Yh (t2.trans (Zk hD2 (o:=.lst (zs.map V.str)))) rl;have z6:upd H5 D2 (.lst (zs.map V.str)) D2=some (.lst (zs.map V.str)):=Zc;have nD2F:D2≠Fd:=fun y=>by rw[y,t2 _ _ hF3] at hD2;cases hD2
   generalize upd H5 D2 (.lst (zs.map V.str))=H6 at s05 hF6 rl6 z6
   have nds:((os.map (·.1)).filter fun r=> !decide (r∈s.gs.map (·.1))).Nodup:=oa.one.filter _;have strict:=Zej pz nds (ZbR sz);have lzs:zs.length<=64:=by rw[pz.length_eq];omega
   have mz:∀rc,rc∈zs↔rc∈os.map (·.1)/\rc∉s.gs.map (·.1):=fun rc=>by
    rw[pz.mem_iff,List.mem_filter];exact⟨fun⟨x,y⟩=>⟨x,fun z=>by rw[decide_eq_true z] at y;cases y⟩,fun⟨x,y⟩=>⟨x,by rw[decide_eq_false y];rfl⟩⟩
   refine⟨D2,rfl,⟨_,SqL.of z6⟩,YH (xs:=zs.map V.str) (fun i σ H'=>∃(v4 v5 v6:Option V) (us:List V) (ys:List Str),σ=[some (.ref a),some (.int day),some (.ref Fd),some (.ref St),v4,v5,v6]/\H' Fd=some (.lst us)/\Paired (Zg7 s day H') ys us/\ys.Sublist (zs.take i)/\(∀rc∈zs.take i,rc∈ys↔ZaD s day rc)/\∀c u,c≠Fd->H6 c=some u->H' c=some u) ?_ ?_ ?_ ?_⟩
   ·exact⟨none,none,none,[],[],rfl,hF6,.nil,List.Sublist.refl _,(fun rc hrc=>nomatch hrc),fun c u _ e=>e⟩
   ·rintro i σ H7 _ ⟨v4,v5,v6,us,ys,rfl,_,_,_,_,fr⟩;exact SqL.of (fr _ _ nD2F z6)
   ·rintro i x σ H7 hx ⟨v4,v5,v6,us,ys,rfl,hF7,po,sl1,iff,fr⟩;obtain⟨rc,rfl,erc⟩:∃rc,x=V.str rc/\zs[i]? =some rc:=by
     rw[List.getElem?_map] at hx
     cases e:zs[i]? with
     |none=>rw[e] at hx;cases hx
     |some y=>rw[e] at hx;exact⟨y,(Option.some.inj hx).symm,rfl⟩
    have hrc:=(mz rc).mp (List.mem_of_getElem? erc);obtain⟨⟨xo,xl⟩,hxo,e2⟩:=List.mem_map.mp hrc.1;have e2:xo=rc:=e2;subst e2;have tkz:zs.take (i+1)=zs.take i++[xo]:=by rw[List.take_add_one,erc];rfl
    have s07:Zy H H7:=fun c u e=>fr c u (Zd e hFd) (s05 _ _ e);obtain⟨ps,hz,pz2⟩:=Yh s07 (oa.at_ _ hxo);obtain⟨yy,hy,py⟩:=rl6;have hy7:=fr _ _ nSF hy;have py7:Paired (ZcL H7) yy (XR s.ws day):=YT (fun c xs e=>fr _ _ (fun z=>by rw[z,hF6] at e;cases e) e) py
    have vo:=Zgw oa.one _ hxo;have lz2:(ZQ s.ws xo).length<=s.ws.length:=List.length_filter_le _ _;have lps:ps.length=(ZQ s.ws xo).length:=Paired.length pz2;have lyy:=Paired.length py7;have rof:=Zin (r:=xo) (day:=day) ok.rows (by omega);have lyr:=rof.len;have elen:(Xy s.ws xo day).length=(ZQ s.ws xo).length+(XR s.ws day).length:=List.length_append;refine⟨_,rfl,a,_,dx,_,_,rfl,s07 _ _ ha,T.cl_House,T.n_House_own,Zik ..,_,rfl,o,_,rfl,.inl ⟨okv os,Sum.inr xo,.inl (s07 _ _ ho),rfl,vo.symm⟩,_,rfl,xl,St,_,_,rfl,rfl,SqL.of hz,SqL.of hy7,by rw[List.length_map,List.length_map];omega,fun R hR=> ?_⟩
    have s8:=Zk hR (o:=.lst (ps.map V.ref++yy.map V.ref));have hR8:YF (upd H7 R (.lst (ps.map V.ref++yy.map V.ref))) R (Xy s.ws xo day):=⟨ps++yy,by rw[Zc,List.map_append],Zg1 (ZM s8 pz2) (ZM s8 py7)⟩
    generalize upd H7 R (.lst (ps.map V.ref++yy.map V.ref))=H8 at s8 hR8
    have s08:=s07.trans s8;refine⟨_,rfl,a,_,dx,_,_,rfl,s08 _ _ ha,T.cl_House,T.n_House_book,ZeI ..,_,rfl,_,rfl,_,rfl,b,R,s.rs,Xy s.ws xo day,xo,day,rfl,Jf s08 hb,ok.bk,ok.lr,hR8,rof,fun ja j H9 hja0 s9 ⟨Lh,hja,_⟩ _ is=> ?_⟩;have isj:=ZjF is;have s89:=s8.trans s9;have next:(ZaD s day xo->False)->∃(v4 v5 v6:Option V) (us:List V) (ys:List Str),[some (V.ref a),some (.int day),some (.ref Fd),some (.ref St),some (.str xo),some (.ref R),some (.ref ja)]=[some (V.ref a),some (.int day),some (.ref Fd),some (.ref St),v4,v5,v6]/\H9 Fd=some (.lst us)/\Paired (Zg7 s day H9) ys us/\ys.Sublist (zs.take (i+1))/\(∀rc∈zs.take (i+1),rc∈ys↔ZaD s day rc)/\∀c u,c≠Fd->H6 c=some u->H9 c=some u:=fun no=>by
     refine⟨_,_,_,us,ys,rfl,s89 _ _ hF7,Zei (fun c xs e=>s89 _ _ e) po,by rw[tkz];exact sl1.trans (List.sublist_append_left _ _),fun rc m=> ?_,fun c u n e=>s89 _ _ (fr c u n e)⟩
     rw[tkz] at m
     rcases List.mem_append.mp m with old|new
     ·exact iff rc old
     ·rw[List.mem_singleton.mp new];exact⟨fun y=>absurd (sl1.subset y) (ZbS (pz.nodup_iff.mpr nds) erc),fun y=>(no y).elim⟩
    refine(ixT rfl (SqT.of hja) rfl ⟨rfl,_,rfl,YQ (fun e=> ?_) (fun e=>next fun⟨j',is',e'⟩=>e (decide_eq_true (by rw[isj.one is',e'])))⟩);have e:j.word="due":=by injection of_decide_eq_true e
    have s09:=s08.trans s9;have hF9:=s89 _ _ hF7;have lus:us.length<=64:=by
     have h1:=Paired.length po;have h2:=sl1.length_le;have h3:=List.length_take_le' i zs;omega
    refine⟨_,rfl,.inl ⟨rfl,_,SqL.of hF9⟩,_,rfl,ixT rfl (SqT.of hja) rfl (ixT rfl (SqT.of hja) rfl (ixT rfl (SqT.of hja) rfl ⟨_,rfl,a,_,dx,_,_,rfl,s09 _ _ ha,T.cl_House,T.n_House_book,ZeI ..,_,rfl,_,rfl,_,rfl,b,R,s.rs,Xy s.ws xo day,xo,day,rfl,Jf s09 hb,ok.bk,ok.lr,Yh s9 hR8,rof,fun v5 H10 s10 why=>⟨show 5<=sizeLine from sl,fun tt htt=> ?_⟩⟩))⟩;have hF10:=s10 _ _ hF9;have s810:=s89.trans s10;refine⟨Fd,_,V.ref tt,rfl,rfl,Zk htt _ _ hF10,by omega, ?_⟩
    have nF:Fd≠tt:=Zd hF10 htt;have kp:∀c u,c≠Fd->H10 c=some u->upd (upd H10 tt (.tup [.str xo,oS j.ser,oS j.own,oV j.due,v5])) Fd (.lst (us++[.ref tt])) c=some u:=fun c u n e=>by rw[Zm n,Zm (Zd e htt)];exact e
    have kt:∀c xs,H10 c=some (.tup xs)->upd (upd H10 tt (.tup [.str xo,oS j.ser,oS j.own,oV j.due,v5])) Fd (.lst (us++[.ref tt])) c=some (.tup xs):=fun c xs e=>kp c _ (Yj e hF10 (fun z=>nomatch z)) e;have why2:=ZlX why;refine⟨_,_,_,us++[.ref tt],ys++[xo],rfl,Zc,Paired.snoc (Zei (fun c xs e=>kt _ _ (s810 _ _ e)) po) ⟨tt,j,v5,rfl,by rw[Zm (Ne.symm nF),Zc],isj,e,⟨why2.no,fun z=> ?_⟩⟩,by rw[tkz];exact List.Sublist.append sl1 (List.Sublist.refl _),fun rc m=> ?_,fun c u n y=>kp c u n (s810 _ _ (fr c u n y))⟩
    ·obtain⟨y,r0,t,top,ow,ht,no,yes⟩:=why2.yes z;refine⟨y,r0,t,top,ow,ht,no,fun D e=> ?_⟩;obtain⟨a,k,d,n,e1,ha,r⟩:=yes D e;exact⟨a,k,d,n,e1,kt _ _ ha,r⟩
    ·rw[tkz] at m
     rcases List.mem_append.mp m with old|new
     ·have ne:rc≠xo:=fun z=>ZbS (pz.nodup_iff.mpr nds) erc (z▸old);rw[List.mem_append,iff rc old];exact⟨fun y=>y.elim id fun z=>absurd (List.mem_singleton.mp z) ne,fun y=> .inl y⟩
     ·rw[List.mem_singleton.mp new];exact⟨fun _=>⟨j,isj,e⟩,fun _=>List.mem_append_right _ (List.mem_singleton_self _)⟩
   ·rintro σ H7 ⟨v4,v5,v6,us,ys,rfl,hF7,po,sl1,iff,fr⟩;rw[List.length_map,List.take_length] at sl1 iff
    refine⟨_,rfl,q Fd us ys H7 hFd (fun c u e=>fr c u (Zd e hFd) (s05 _ _ e)) hF7 po (strict.sublist sl1) fun rc=> ?_⟩
    constructor
    ·intro m;have mzs:=sl1.subset m;exact⟨((mz rc).mp mzs).2,(iff rc mzs).mp m⟩
    ·rintro⟨n1,dn⟩;exact(iff rc ((mz rc).mpr ⟨(oa.mem rc).mpr (Zht dn),n1⟩)).mpr dn
def Zh0(s:Hs)(day:Int)(zs:List Str):Hs:={s with runs:=s.runs++[day],gs:=s.gs++zs.map fun r=>(r,((s.runs.length+1:Nat):Int),day),wd:=s.wd++zs.map fun r=>(r,Str.ofString "due")}
def ZkJ(cn ca cl ce:Addr)(n:Nat)(C:Addr):Sp:=fun vs H Q _=>∃(a:Addr) (day:Int) (s:Hs) (F:List Addr),vs=[.ref a,.int day]/\0<n/\ZL cn ca cl ce C H a s F/\Zg6 s/\Zfs s.ws/\s.wd.map (·.1)=s.gs.map (·.1)/\s.runs.length<=900/\s.gs.length<=900/\(∀d,s.runs.getLast? =some d->d<=day)/\
 ∀L us zs H',ZeO F H H'->ZL cn ca cl ce C H' a (Zh0 s day zs) F->H L=none->L∉F->H' L=some (.lst us)->Paired (Zg7 s day H') zs us->zs.Pairwise (fun a b=>Xl a b=true)->(∀r,r∈zs↔r∉s.gs.map (·.1)/\ZaD s day r)->Q (.ref L) H'
theorem Zq4{cn ca cl ce C:Addr}:∀vs H Q E,¬ZkJ cn ca cl ce 0 C vs H Q E:=fun _ _ _ _ ⟨_,_,_,_,_,z,_⟩=>Nat.lt_irrefl 0 z
theorem Zit{kvs:List (Key×V)}{k:Key}{v:V}(h:(Yp kvs k).isSome=false):Js kvs k v=kvs++[(k,v)]:=by
 unfold Js;rw[Za8,h,if_neg Bool.false_ne_true]
theorem Zr3{xs:List Int}{x:Int}(h:xs.getLast? =some x):atI (xs.map V.int) (-1)=some (.int x):=by
 obtain⟨ys,rfl⟩:=List.getLast?_eq_some_iff.mp h;rw[List.map_append];exact Zp1 _ _
theorem ZjG{cn ca cl ce C a dx b t o h r k w:Addr}{H H':Hp}{s:Hs}{F:List Addr}{os:List (Str×Addr)}{kvs kvs':List (Key×V)}{rn':List Int}{gs':List Gn}{wd':List (Str×Str)}
  (ha:H a=some (.ins C dx (fH b t o h r k w)))(hb:ZeN cn ca cl ce H b s.rs)(ht:YF H t s.ws)(ho:H o=some (.dK (okv os)))(oa:ZpF H os s.ws)(hh:YF H h (s.ws.filter JR))(hr:H r=some (.lst (s.runs.map V.int)))(hk:H k=some (.dK kvs))(hw:H w=some (.dK (wkv s.wd)))
  (eF:F=t::o::h::r::k::w::os.map (·.2))(nd:F.Nodup)(nb:b∉F)(mv:∀c u,c≠r->c≠k->c≠w->H c=some u->H' c=some u)(hr':H' r=some (.lst (rn'.map V.int)))(hk':H' k=some (.dK kvs'))(pk':Paired (ZmO H') gs' kvs')(hw':H' w=some (.dK (wkv wd'))):
  ZL cn ca cl ce C H' a {s with runs:=rn',gs:=gs',wd:=wd'} F:=by
 subst eF;have n:=nd;simp only [List.nodup_cons,List.mem_cons,not_or] at n
 obtain⟨⟨_,_,ntr,ntk,ntw,nts⟩,⟨_,nor,nok,now_,nos⟩,⟨nhr,nhk,nhw,nhs⟩,⟨nrk,nrw,nrs⟩,⟨nkw,nks⟩,nws,ndo⟩:=n;have n2:=nb;simp only [List.mem_cons,not_or] at n2
 obtain⟨_,_,_,nbr,nbk,nbw,_⟩:=n2;have kt:∀c xs,H c=some (.tup xs)->H' c=some (.tup xs):=fun c xs e=>mv c _ (Yj e hr (fun z=>nomatch z)) (Yj e hk (fun z=>nomatch z)) (Yj e hw (fun z=>nomatch z)) e;have ki:∀c C dx fs,H c=some (.ins C dx fs)->H' c=some (.ins C dx fs):=fun c C dx fs e=>mv c _ (Yj e hr (fun z=>nomatch z)) (Yj e hk (fun z=>nomatch z)) (Yj e hw (fun z=>nomatch z)) e;have rw_:∀{p:Addr} {us:List Rw},p≠r->p≠k->p≠w->YF H p us->YF H' p us:=fun n1 n2 n3 ⟨ds,e,pp⟩=>⟨ds,mv _ _ n1 n2 n3 e,YT kt pp⟩
 exact⟨dx,b,t,o,h,r,k,w,os,kvs',ki _ _ _ _ ha,Zdq kt ki (fun u e=>mv _ _ nbr nbk nbw e) hb,rw_ ntr ntk ntw ht,mv _ _ nor nok now_ ho,⟨oa.one,oa.mem,fun x hx=>rw_ (fun z=>nrs (z▸List.mem_map_of_mem hx)) (fun z=>nks (z▸List.mem_map_of_mem hx)) (fun z=>nws (z▸List.mem_map_of_mem hx)) (oa.at_ x hx)⟩,rw_ nhr nhk nhw hh,hr',hk',pk',hw',rfl,nd,nb⟩
theorem Znb{s:Hs}{day:Int}{H:Hp}:∀{zs:List Str} {us:List V},Paired (Zg7 s day H) zs us->∀(i:Nat) (u:V),us[i]? =some u->∃r,zs[i]? =some r/\Zg7 s day H r u
 |_,_,.nil,i,u,h=>by simp at h
 |_,_,.cons (a:=r) (b:=v) x t,0,u,h=>by
  have h:v=u:=by simpa using h
  subst h;exact⟨r,rfl,x⟩
 |_,_,.cons _ t,i+1,u,h=>by
  obtain⟨r,e,z⟩:=Znb t i u (by simpa using h);exact⟨r,by simpa using e,z⟩
theorem Zdu:ZC ["self","day","leaving","told"] ["self","day"] (Zt ZdX):=⟨rfl,rfl,rfl,by decide+kernel,rfl,by decide+kernel,by decide+kernel⟩
theorem ZkK{f:Addr}{fd:FuncData}(F:Fun K "run" "House.run" ZdX f fd)(T:Txt K mg Zh Zf Zg Zb Zo)(n:Nat)(Ziu:Zbj P w K mg base CX0 27 "due_on" ["self","day"] (ZeK Zh Zf Zg Zb 12) (fun C=>C=Zo)):Yl P w K mg base CX0 (27+n+1+1) f fd ["self","day"] (ZkJ Zh Zf Zg Zb (n+1) Zo):=by
 refine F.ok Zdu (fun vs H Q E h=> ?_) (fun cdv A outer s H vs Q E hr h=> ?_)
 ·obtain⟨a,day,s,F,rfl,_⟩:=h
  rfl
 ·obtain⟨a,day,s,F,rfl,_,hA,ok,l64,ek,lru,lgs,lst_,q⟩:=h;have l5:=Xe;have hu:=Zbg hr;obtain⟨dx,b,t,o,h,r,k,wd,os,kvs,ha,hb,ht,ho,oa,hh,hr',hk,pk,hw,eF,nd,nb⟩:=id hA;have ki:=hA.kinds;refine⟨_,(Ze (ZZ (PW.pt (Xz (Zq ZeS (ZS JP (by rfl) T.z_len Zce (Za (Yg (pv 0) rfl) Zj)) Zi (Zv _)) (YX (Zq ZfG (pv 1) (Zx YZ (Yg (pv 0) rfl) (Zrg ZoQ Zi) (fun _ _=>rfl)) (Zv _))))) (Zn ZfF) ZD) (Ze (Xh (ZaL PySem.F.plainAttrs_list PySem.F.slot_list_append PySem.F.type_list_append YC (Yg (pv 0) rfl) (Za (pv 1) Zj))) (Ze (Zu (i:=2) Zdu.nd rfl (Or.inl rfl) (Zaa (pv 0) Ziu (hr.mono (by omega)) ZJ (Za (pv 1) Zj))) (Ze (Xi PassesOwn.never rfl (Yb (pv 2)) (ZF (i:=3) Zdu.nd rfl (Or.inl rfl)) (Ze (ZaE hu (Yg (pv 0) rfl) (Zx ZG (pv 3) Zi (fun _ _=>rfl)) (YK (Za (ZS JP (by rfl) T.z_len Zce (Za (Yg (pv 0) rfl) Zj)) (Za (pv 1) Zj))) rfl) (Zn (ZaE hu (Yg (pv 0) rfl) (Zx ZG (pv 3) Zi (fun _ _=>rfl)) ZK rfl)))) (Zn (Zz (pv 2))))))), ?_⟩
  refine(fun(rest:∀σ':L2.St,σ'=[some (.ref a),some (.int day),none,none]->(_:L2.St->Hp->Prop) σ' H)=>
   ⟨_,rfl,a,_,dx,_,_,rfl,ha,T.cl_House,T.n_House_run_days,Zc8 ..,_,_,rfl,.inl ⟨_,SqL.of hr',rfl⟩,_,_,rfl,rfl,_,rfl,YQ (fun e=> ?yes) (fun e=>Yt (rest _ rfl))⟩) ?rest
  case yes=>
   have ne:s.runs≠[]:=fun z=>by rw[z] at e;cases e
   obtain⟨d,ed⟩:∃d,s.runs.getLast? =some d:=⟨_,List.getLast?_eq_some_getLast ne⟩
   have le:=lst_ d ed;refine⟨_,rfl,_,rfl,a,_,dx,_,_,rfl,ha,T.cl_House,T.n_House_run_days,Zc8 ..,_,rfl,r,_,_,_,rfl,rfl,SqL.of hr',Zr3 ed,_,_,rfl,rfl,_,rfl, ?_⟩;rw[decide_eq_false (by omega)];exact Yt (rest _ rfl)
  case rest=>
   rintro σ' rfl;refine⟨_,rfl,a,_,dx,_,_,rfl,ha,T.cl_House,T.n_House_run_days,Zc8 ..,.inl ⟨rfl,_,SqL.of hr'⟩,_,rfl,r,_,V.int day,rfl,rfl,hr',by rw[List.length_map];omega, ?_⟩
   have n:=nd;rw[eF] at n
   simp only [List.nodup_cons,List.mem_cons,not_or] at n
   obtain⟨⟨_,_,ntr,ntk,ntw,nts⟩,⟨_,nor,nok,now_,nos⟩,⟨nhr,nhk,nhw,nhs⟩,⟨nrk,nrw,nrs⟩,⟨nkw,nks⟩,nws,ndo⟩:=n;have e1:s.runs.map V.int++[V.int day]=(s.runs++[day]).map V.int:=by rw[List.map_append];rfl
   rw[e1];have fr1:∀c u,c≠r->H c=some u->upd H r (.lst ((s.runs++[day]).map V.int)) c=some u:=fun c u n e=>by rw[Zm n];exact e
   have hr1:upd H r (.lst ((s.runs++[day]).map V.int)) r=some (.lst ((s.runs++[day]).map V.int)):=Zc;have bk1:∀{c:Addr},upd H r (.lst ((s.runs++[day]).map V.int)) c=none->H c=none:=fun{c} z=>by
    by_cases y:c=r
    ·rw[y,hr1] at z;cases z
    ·rwa [Zm y] at z
   show Zqm _ _ _ _ (upd H r (.lst ((s.runs++[day]).map V.int)));generalize upd H r (.lst ((s.runs++[day]).map V.int))=H1 at fr1 hr1 bk1
   have k1:=fr1 _ _ (Ne.symm nrk) hk;have w1:=fr1 _ _ (Ne.symm nrw) hw;have kt1:∀c xs,H c=some (.tup xs)->H1 c=some (.tup xs):=fun c xs e=>fr1 c _ (Yj e hr' (fun z=>nomatch z)) e;have hA1:ZL Zh Zf Zg Zb Zo H1 a {s with runs:=s.runs++[day]} F:=ZjG ha hb ht ho oa hh hr' hk hw eF nd nb (fun c u n _ _ e=>fr1 c u n e) hr1 k1 (JM kt1 pk) w1;have ha1:=fr1 _ _ (Yj ha hr' (fun z=>nomatch z)) ha;refine⟨_,rfl,a,_,dx,_,rfl,ha1,rfl,ZgY (by decide+kernel),_,rfl,a,day,{s with runs:=s.runs++[day]},F,rfl,by decide,hA1,⟨ok.bk,ok.lr,ok.rows,ok.few,ok.one,ok.own⟩,l64,fun L us zs H2 hL s2 hl2 po st iff=> ?_⟩
   have po:Paired (Zg7 s day H2) zs us:=po;have ndz:zs.Nodup:=List.nodup_iff_pairwise_ne.mpr (st.imp fun{x y} h z=>by rw[z,Xo.irr] at h;cases h)
   have h2:∀c u,c≠r->H c=some u->H2 c=some u:=fun c u n e=>s2 _ _ (fr1 c u n e);have hk2:=s2 _ _ k1;have hw2:=s2 _ _ w1;have hr2:=s2 _ _ hr1;have ha2:=s2 _ _ ha1;have lz:=Paired.length po;have lzs:zs.length<=64:=by
    obtain⟨ns,l,sub⟩:=l64;have:=ndz.length_le_of_subset fun x hx=>sub x (Zht ((iff x).mp hx).2);omega
   have lwd:s.wd.length=s.gs.length:=by
    have:=congrArg List.length ek
    rwa [List.length_map,List.length_map] at this
   have lkv:=Paired.length pk;have nL:H L=none:=bk1 hL;have nLF:L∉F:=fun m=>by
    rcases ki L m with ⟨_,y⟩|⟨_,y⟩<;>rw[nL] at y<;>cases y
   refine⟨_,rfl,L,rfl,⟨_,SqL.of hl2⟩,YH (xs:=us) (fun i σ H'=>∃(v3:Option V) (kv:List (Key×V)),σ=[some (.ref a),some (.int day),some (.ref L),v3]/\H' k=some (.dK kv)/\Paired (ZmO H') (s.gs++(zs.take i).map fun r=>(r,((s.runs.length+1:Nat):Int),day)) kv/\H' wd=some (.dK (wkv (s.wd++(zs.take i).map fun r=>(r,Str.ofString "due"))))/\∀c u,c≠k->c≠wd->H2 c=some u->H' c=some u) ?_ ?_ ?_ ?_⟩
   ·exact⟨none,kvs,rfl,hk2,by rw[List.take_zero,List.map_nil,List.append_nil];exact JM (fun b xs e=>s2 _ _ (kt1 _ _ e)) pk,by rw[List.take_zero,List.map_nil,List.append_nil];exact hw2,fun c u _ _ e=>e⟩
   ·rintro i σ H3 _ ⟨v3,kv,rfl,_,_,_,fr⟩;exact SqL.of (fr _ _ (Yj hl2 hk2 (fun z=>nomatch z)) (Yj hl2 hw2 (fun z=>nomatch z)) hl2)
   ·rintro i x σ H3 hx ⟨v3,kv,rfl,hk3,pk3,hw3,fr⟩;obtain⟨rc,erc,p,j,v5,rfl,hp,_⟩:=Znb po i x hx;have hi:i<zs.length:=(List.getElem?_eq_some_iff.mp erc).1;have tkz:zs.take (i+1)=zs.take i++[rc]:=by rw[List.take_add_one,erc];rfl
    have nin:rc∉zs.take i:=ZbS ndz erc;have ngs:rc∉s.gs.map (·.1):=((iff rc).mp (List.mem_of_getElem? erc)).1;have ha3:=fr _ _ (Yj ha2 hk2 (fun z=>nomatch z)) (Yj ha2 hw2 (fun z=>nomatch z)) ha2;have hr3:=fr _ _ nrk nrw hr2;have hp3:=fr _ _ (Yj hp hk2 (fun z=>nomatch z)) (Yj hp hw2 (fun z=>nomatch z)) hp;have l3:=Paired.length pk3;have ltk:=List.length_take_le' i zs;rw[List.length_append,List.length_map] at l3
    have nk:(Yp kv (Sum.inr rc)).isSome=false:=by
     rw[Zna pk3];refine decide_eq_false fun m=> ?_;rw[List.map_append,List.map_map] at m
     rcases List.mem_append.mp m with m|m
     ·exact ngs m
     ·obtain⟨y,hy,e⟩:=List.mem_map.mp m;exact nin (e▸hy)
    have nw:(Yp (wkv (s.wd++(zs.take i).map fun r=>(r,Str.ofString "due"))) (Sum.inr rc)).isSome=false:=by
     rw[ZeJ];refine decide_eq_false fun m=> ?_;rw[List.map_append,List.map_map] at m
     rcases List.mem_append.mp m with m|m
     ·exact ngs (ek▸m)
     ·obtain⟨y,hy,e⟩:=List.mem_map.mp m;exact nin (e▸hy)
    refine⟨_,rfl,a,_,dx,_,_,rfl,ha3,T.cl_House,T.n_House_run_days,Zc8 ..,_,_,rfl,.inl ⟨_,SqL.of hr3,rfl⟩,_,rfl,show 2<=sizeLine by omega,fun tt htt=> ?_⟩;have s4:=Zk htt (o:=.tup [.int ((s.runs++[day]).map V.int).length,.int day]);have ht4:upd H3 tt (.tup [.int ((s.runs++[day]).map V.int).length,.int day]) tt=some (.tup [.int ((s.runs++[day]).map V.int).length,.int day]):=Zc;show ZrE _ _ _ _ (upd H3 tt (.tup [.int ((s.runs++[day]).map V.int).length,.int day])) _
    generalize upd H3 tt (.tup [.int ((s.runs++[day]).map V.int).length,.int day])=H4 at s4 ht4
    have hk4:=s4 _ _ hk3;have ha4:=s4 _ _ ha3;refine⟨_,rfl,a,_,dx,_,_,rfl,ha4,T.cl_House,T.n_House_taken,Zil ..,ixT rfl (SqT.of (s4 _ _ hp3)) rfl ⟨k,_,rfl,ZfL.k (k:=Sum.inr rc) hk4 (by omega), ?_⟩⟩;rw[Zit nk];have fr5:∀c u,c≠k->H4 c=some u->upd H4 k (.dK (kv++[(Sum.inr rc,V.ref tt)])) c=some u:=fun c u n e=>by rw[Zm n];exact e
    have hk5:upd H4 k (.dK (kv++[(Sum.inr rc,V.ref tt)])) k=some (.dK (kv++[(Sum.inr rc,V.ref tt)])):=Zc;generalize upd H4 k (.dK (kv++[(Sum.inr rc,V.ref tt)]))=H5 at fr5 hk5
    have kt5:∀c xs,H4 c=some (.tup xs)->H5 c=some (.tup xs):=fun c xs e=>fr5 c _ (Yj e hk4 (fun z=>nomatch z)) e;have hw5:=fr5 _ _ (Ne.symm nkw) (s4 _ _ hw3);refine⟨_,rfl,a,_,dx,_,_,rfl,fr5 _ _ (Yj ha4 hk4 (fun z=>nomatch z)) ha4,T.cl_House,T.n_House_words,ZaU ..,ixT rfl (SqT.of (kt5 _ _ (s4 _ _ hp3))) rfl ⟨wd,_,rfl,ZfL.k (k:=Sum.inr rc) hw5 (by unfold wkv;rw[List.length_map,List.length_append,List.length_map];omega), ?_⟩⟩
    rw[Zit nw];have kt6:∀c xs,H5 c=some (.tup xs)->upd H5 wd (.dK (wkv (s.wd++(zs.take i).map fun r=>(r,Str.ofString "due"))++[(Sum.inr rc,V.str (Str.ofString "due"))])) c=some (.tup xs):=fun c xs e=>by rw[Zm (Yj e hw5 (fun z=>nomatch z))];exact e
    refine⟨_,_,rfl,by rw[Zm nkw];exact hk5, ?_, ?_,fun c u n1 n2 e=>by rw[Zm n2];exact fr5 _ _ n1 (s4 _ _ (fr c u n1 n2 e))⟩
    ·rw[tkz,List.map_append,<-List.append_assoc];refine Paired.snoc (JM (fun b xs e=>kt6 _ _ (kt5 _ _ (s4 _ _ e))) pk3) ⟨tt,rfl, ?_⟩;rw[kt6 _ _ (kt5 _ _ ht4),List.length_map,List.length_append]
     rfl
    ·rw[tkz,Zc,List.map_append,<-List.append_assoc];unfold wkv;rw[List.map_append (l₁:=s.wd++_)]
     rfl
   ·rintro σ H3 ⟨v3,kv,rfl,hk3,pk3,hw3,fr⟩;rw[<-lz,List.take_length] at pk3 hw3
    refine⟨_,rfl,q L us zs H3 (fun c u m e=> ?_) ?_ nL nLF (fr _ _ (Yj hl2 hk2 (fun z=>nomatch z)) (Yj hl2 hw2 (fun z=>nomatch z)) hl2) ?_ st iff⟩
    ·rw[eF] at m
     simp only [List.mem_cons,not_or] at m
     exact fr c u m.2.2.2.2.1 m.2.2.2.2.2.1 (h2 c u m.2.2.2.1 e)
    ·exact ZjG ha hb ht ho oa hh hr' hk hw eF nd nb (fun c u n1 n2 n3 e=>fr c u n2 n3 (h2 c u n1 e)) (fr _ _ nrk nrw hr2) hk3 pk3 hw3
    ·exact Zei (fun b xs e=>fr _ _ (Yj e hk2 (fun z=>nomatch z)) (Yj e hw2 (fun z=>nomatch z)) e) po
theorem ZkL:(Str.ofString "abcdefghijklmnopqrstuvwxyz").length=26:=by decide+kernel
theorem ZjH{c:Bool}{A B:Prop}(hb:¬c=true->B)(ha:c=true->A):if c=true then A else B:=YQ ha hb
theorem Zr4:∀k<26,(Str.ofString "abcdefghijklmnopqrstuvwxyz").cps.toList[k]? =some (97+k):=by decide+kernel
theorem Zq5{i:Int}(h0:0<=i)(h1:i<26):atI (Str.ofString "abcdefghijklmnopqrstuvwxyz").cps.toList i=some (97+i.toNat):=by
 have l:(Str.ofString "abcdefghijklmnopqrstuvwxyz").cps.toList.length=26:=by rw[Array.length_toList];exact ZkL
 unfold atI ixN;rw[if_pos h0,l,if_pos (by omega)];exact Zr4 i.toNat (by omega)
theorem ZjI(f:Nat->Nat):∀l:List Nat,((l.map fun j=>(⟨#[f j]⟩:Str)).map cs).flatten=l.map f
 |[]=>rfl
 |j::l=>by
  rw[List.map_cons,List.map_cons,List.flatten_cons,ZjI f l,Zpa]
  rfl
theorem Zm1(f:Nat->Nat):∀l:List Nat,((l.map fun j=>(⟨#[f j]⟩:Str)).map (·.length)).sum=l.length
 |[]=>rfl
 |j::l=>by
  rw[List.map_cons,List.map_cons,List.sum_cons,Zm1 f l,List.length_cons];show 1+_=_;omega
theorem Yo:ZC ["_law_cell","_law_k","_law_letters","_law_size","_law_at","_law_way","_law_name","_law_j","_law_place"] ["_law_cell","_law_k"] (Zt Zcg):=⟨rfl,rfl,rfl,by decide+kernel,rfl,by decide+kernel,by decide+kernel⟩
theorem Ziv{f:Addr}{fd:FuncData}(F:Fun K "_law_name_by" "_law_name_by" Zcg f fd)(T:Txt K mg Zh Zf Zg Zb Zo):Yl P w K mg base CX0 1 f fd ["_law_cell","_law_k"] Jg:=by
 refine F.ok Yo (fun vs H Q E h=> ?_) (fun cdv A outer s H vs Q E hr h=> ?_)
 ·obtain⟨n,k,rfl,_⟩:=h
  rfl
 ·obtain⟨n,k,rfl,q⟩:=h;have l5:=Xe;have m1:=Int.emod_nonneg n (show(12:Int)≠0 by decide);have m2:=Int.emod_lt_of_pos n (show(0:Int)<12 by decide);have m3:=Int.emod_nonneg k (show(12:Int)≠0 by decide);have m4:=Int.emod_lt_of_pos k (show(0:Int)<12 by decide);have q:∀z:Str,cs z=ZfT n k->∀H',Zy H H'->Q (.str z) H':=fun z e H' s=>by
   have e:z=Zbh n k:=ext (e.trans (ZfU n k).symm);rw[e];exact q H' s
  unfold ZfT at q
  refine⟨_,(Ze (Zu (i:=2) Yo.nd rfl (Or.inr rfl) ZK) (Ze (Zu (i:=3) Yo.nd rfl (Or.inl rfl) (Zw XX Zi (Zw ZW (pv 0) Zi))) (Ze (Zu (i:=4) Yo.nd rfl (Or.inl rfl) (Zw ZW (Zw Yq (pv 0) Zi) (pv 3))) (Ze (Zu (i:=5) Yo.nd rfl (Or.inl rfl) (Zw ZW (Zw Yq (pv 0) Zi) Zi)) (Ze (ZZ (Zq Ym (pv 5) Zi (Zv _)) (Ze (Zu (i:=3) Yo.nd rfl (Or.inl rfl) (Zw XX Zi (Zw ZW (pv 1) Zi))) (Zn (Zu (i:=4) Yo.nd rfl (Or.inl rfl) Zi))) ZD) (Ze (ZZ (Zq Ym (pv 5) Zi (Zv _)) (Zn (Zz (ZaL PySem.F.plainAttrs_str PySem.F.slot_str_join PySem.F.type_str_join Zo0 ZK (Za (Jc ["_law_j"] [("_law_letters",2),("_law_k",1),("_law_cell",0)] rfl (ZcB rfl T.z_range (Za Zi Zj)) (by rfl) (by exact⟨rfl,⟨rfl,⟨rfl,trivial⟩⟩⟩) (by rfl) (by exact⟨⟨rfl,rfl,rfl⟩,⟨⟨rfl,rfl,rfl⟩,⟨⟨rfl,rfl,rfl⟩,trivial⟩⟩⟩) (fun _ _ _ _=>(ZF (i:=0) (show(nmY ["_law_j"] [("_law_letters",2),("_law_k",1),("_law_cell",0)]).Nodup by decide+kernel) rfl (Or.inl rfl))) (fun _ _ _ _=>Zc1) (fun _ _ _ _=>(Zx ZjS (pv 1) (Zw XX (Zw ZW (Zw XX (pv 0) (pv 2)) Zi) (Zw ZW (Zw Yq (pv 3) Zi) Zi)) (fun _ _=>rfl)))) Zj)))) ZD) (Ze (Zu (i:=6) Yo.nd rfl (Or.inl rfl) ZK) (Ze (Xi PassesOwn.never rfl (ZcB rfl T.z_range (Za (pv 3) Zj)) (ZF (i:=7) Yo.nd rfl (Or.inl rfl)) (Ze (Zu (i:=8) Yo.nd rfl (Or.inl rfl) (Zw XX (Zw XX (Zw Yq (pv 0) (Zw XX (pv 7) Zi)) (Zw ZaF (pv 7) (pv 7))) (Zw ZaF (pv 1) (Zbq Zey (by rfl) T.z_int Zk3 (Za (Za7 Ym (pv 7) (pv 4) (Zv _)) Zj))))) (Zn (Zu (i:=6) Yo.nd rfl (Or.inl rfl) (Zw ZeY (pv 6) (Zx ZjS (pv 2) (Zw ZW (pv 8) Zi) (fun _ _=>rfl))))))) (Zn (Zz (pv 6))))))))))), ?_⟩
  refine(vI rfl (by show(0:Int)<12;decide) ⟨_,_,rfl,rfl, ?_⟩)
  refine(vI rfl ⟨by decide,by decide⟩ ⟨_,rfl,_,_,rfl,rfl,(by show 0<1+n%12;omega), ?_⟩)
  refine(vI rfl ⟨by decide,by decide⟩ ⟨_,_,rfl,rfl,(by show(0:Int)<3;decide), ?_⟩)
  refine(fun(rest:∀σ':L2.St,(∃sz at_:Int,1<=sz/\sz<=12/\(n/144%3=0->sz=1+k%12/\at_=12)/\(¬n/144%3=0->sz=1+n%12/\at_=n/12%(1+n%12))/\σ'=[some (.int n),some (.int k),some (.str (Str.ofString "abcdefghijklmnopqrstuvwxyz")),some (.int sz),some (.int at_),some (.int (n/144%3)),none,none,none])->(_:L2.St->Hp->Prop) σ' H)=>
   ⟨_,rfl,rfl,_,rfl,ZjH (fun e=>rest _ ⟨1+n%12,_,by omega,by omega,fun z=>absurd (decide_eq_true (congrArg V.int z)) e,fun _=>⟨rfl,rfl⟩,rfl⟩) (fun e=>(vI rfl (by show(0:Int)<12;decide) ⟨_,_,rfl,rfl,rest _ ⟨1+k%12,12,by omega,by omega,fun _=>⟨rfl,rfl⟩,fun z=>absurd (by injection of_decide_eq_true e) z,rfl⟩⟩))⟩) ?rest
  case rest=>
   rintro σ' ⟨sz,at_,p1,p2,ez,enz,rfl⟩;refine⟨_,rfl,rfl,_,rfl,YQ (fun e=> ?_) (fun e=> ?_)⟩
   ·have e:n/144%3=1:=by injection of_decide_eq_true e
    rw[if_pos e] at q
    refine⟨rfl,12,rfl,by decide,by decide,Xa 12 (fun j=>[V.str ⟨#[ZdY n k j]⟩]) (by omega) (fun j=>Nat.le_refl 1) (fun j H2 s2 lt=>lt) (fun H2 s2=>Nat.le_refl _) (fun j y H2 H3 s2 lt yl RT RF rt rf=> ?_) fun D H2 hD s2 d2=> ?_⟩
    ·obtain⟨rfl,rfl⟩:=yl;have a1:=Int.emod_nonneg (0+(j:Int)+k) (show(12:Int)≠0 by decide);have a2:=Int.emod_lt_of_pos (0+(j:Int)+k) (show(0:Int)<12 by decide);have a3:=Int.emod_nonneg (n/432) (show(14:Int)≠0 by decide);have a4:=Int.emod_lt_of_pos (n/432) (show(0:Int)<14 by decide);have ec:=Zq5 (i:=(0+(j:Int)+k)%12+n/432%14) (by omega) (by omega);refine⟨⟨rfl,rfl,rfl,trivial⟩,Zji ?_⟩;refine⟨_,rfl,_,rfl,_,rfl,_,_,rfl,rfl,_,_,rfl,rfl,(by show(0:Int)<12;decide),vI rfl ⟨by decide,by decide⟩ ⟨_,_,rfl,rfl,(by show(0:Int)<14;decide),_,_,rfl,rfl,_,_,_,rfl,rfl, ?_,ec,rt _ _ ?_ (Zy.refl _)⟩⟩
     ·rw[ZkL];omega
     ·unfold ZdY;rw[show(0:Int)+(j:Int)=(j:Int) by omega]
    ·rw[Jm] at d2
     have d3:H2 D=some (.lst (((List.range 12).map fun j=>(⟨#[ZdY n k j]⟩:Str)).map V.str)):=by rw[d2,List.map_map];rfl
     refine⟨Str.empty,D,(List.range 12).map fun j=>(⟨#[ZdY n k j]⟩:Str),rfl,rfl,SqL.of d3, ?_,q _ ?_ H2 s2⟩
     ·rw[Zm1,List.length_map,List.length_range]
      decide
     ·rw[Zpi,ZjI]
   ·have e:¬n/144%3=1:=fun z=>e (decide_eq_true (congrArg V.int z));rw[if_neg e] at q
    refine⟨_,rfl,_,rfl,by omega,by omega,Zj6 (fun i σ H'=>∃(x:Str) (s3 s5 v v8:Option V),σ=[some (.int n),some (.int k),some (.str (Str.ofString "abcdefghijklmnopqrstuvwxyz")),s3,some (.int at_),s5,some (.str x),v,v8]/\cs x=(List.range i).map (ZcJ n k at_)/\H'=H) ?_ ?_ ?_⟩
    ·exact⟨Str.empty,_,_,none,none,rfl,rfl,rfl⟩
    ·rintro i σ H1 hi ⟨x,s3,s5,v,v8,rfl,hc,rfl⟩;have hi':(i:Int)<12:=by omega
     have lx:x.length=i:=by rw[Zmx,hc,List.length_map,List.length_range]
     have ib:Builtin.Int.intBits (0+(i:Int))<=64:=intBits_le_64 (by omega) (by omega);refine⟨_,rfl,_,rfl,_,_,rfl,rfl,_,_,rfl,rfl,⟨by omega,by omega⟩,_,rfl,_,rfl,_,_,rfl,rfl,IntMulOk.of_left ib,_,_,rfl,rfl,_,rfl,_,rfl,_,rfl,rfl,.inr ⟨_,rfl,_,_,rfl,rfl,IntMulOk.of_right (intBits_le_64 (by split<;>decide) (by split<;>decide)),_,_,rfl,rfl, ?_⟩⟩
     have ec:=Zq5 (i:=(n/(0+(i:Int)+3)+(0+(i:Int))*(0+(i:Int))+k*if decide (V.int (0+(i:Int))=V.int at_)=true then 1 else 0)%26) (Int.emod_nonneg _ (by decide)) (Int.emod_lt_of_pos _ (by decide));refine⟨_,rfl,_,rfl,vI rfl (by show(0:Int)<26;decide) ⟨_,_,_,rfl,rfl, ?_,ec,_,_,rfl,rfl, ?_, ?_⟩⟩
     ·rw[ZkL];omega
     ·show x.length+1<=sizeLine;omega
     ·refine⟨_,_,_,_,_,rfl, ?_,rfl⟩;rw[Zmw,Zpa,hc,List.range_succ,List.map_append]
      congr 1
      show[97+_]=[ZcJ n k at_ i];unfold ZcJ;rw[show(0:Int)+(i:Int)=(i:Int) by omega]
      by_cases z:(i:Int)=at_
      ·rw[if_pos z,if_pos (decide_eq_true (congrArg V.int z))]
      ·rw[if_neg z,if_neg (fun w=>z (by injection of_decide_eq_true w))]
    ·rintro σ H1 ⟨x,s3,s5,v,v8,rfl,hc,rfl⟩;refine⟨_,rfl,q x ?_ _ (Zy.refl _)⟩
     by_cases z:n/144%3=0
     ·obtain⟨rfl,rfl⟩:=ez z;rw[if_pos z];exact hc
     ·obtain⟨rfl,rfl⟩:=enz z;rw[if_neg z];exact hc
theorem Jp.same{H H':Hp}(s:Zy H H'):∀{t:Tr} {a:Addr},Jp H t a->Jp H' t a
 | .never,a,h=>s _ _ h
 | .after k d,a,h=>s _ _ h
 | .later x y,a,⟨p,q,h,h1,h2⟩=>⟨p,q,s _ _ h,h1.same s,h2.same s⟩
 | .earlier x y,a,⟨p,q,h,h1,h2⟩=>⟨p,q,s _ _ h,h1.same s,h2.same s⟩
theorem w1:¬V.str (Str.ofString "after")=V.str (Str.ofString "never"):=by decide+kernel
theorem w2:¬V.str (Str.ofString "later")=V.str (Str.ofString "never"):=by decide+kernel
theorem w3:¬V.str (Str.ofString "earlier")=V.str (Str.ofString "never"):=by decide+kernel
theorem w4:¬V.str (Str.ofString "later")=V.str (Str.ofString "after"):=by decide+kernel
theorem w5:¬V.str (Str.ofString "earlier")=V.str (Str.ofString "after"):=by decide+kernel
theorem w6:¬V.str (Str.ofString "earlier")=V.str (Str.ofString "later"):=by decide+kernel
theorem Zm2:ZC ["_law_tree"] ["_law_tree"] (Zt Zfb):=⟨rfl,rfl,rfl,by decide+kernel,rfl,by decide+kernel,by decide+kernel⟩
theorem Zm3{f:Addr}{fd:FuncData}(F:Fun K "_law_made" "_law_made" Zfb f fd)(T:Txt K mg Zh Zf Zg Zb Zo)(n:Nat)(JB:Cal P w K mg base CX0 (3+n+1) "_law_made" ["_law_tree"] (ZaQ Zh Zf Zg Zb n))(ZkM:Cal P w K mg base CX0 3 "after" ["kind","days"] (Zi0 Zh Zf Zg Zb))(ZgA:Cal P w K mg base CX0 3 "earlier" ["one","other"] (Zfd Zh Zf Zg Zb))(ZkN:Cal P w K mg base CX0 3 "later" ["one","other"] (Zi1 Zh Zf Zg Zb))(ZkO:Cal P w K mg base CX0 1 "never" [] (ZhZ Zh Zf Zg Zb)):Yl P w K mg base CX0 (3+n+1+1) f fd ["_law_tree"] (ZaQ Zh Zf Zg Zb (n+1)):=by
 refine F.ok Zm2 (fun vs H Q E h=> ?_) (fun cdv A outer s H vs Q E hr h=> ?_)
 ·obtain⟨a,t,rfl,_⟩:=h
  rfl
 ·obtain⟨a,t,rfl,ht,hd,q⟩:=h;refine⟨_,(Ze (ZZ (Zq Ym (Zx ZG (pv 0) Zi (fun _ _=>rfl)) ZK (Zv _)) (Zn (Zz (ZrM ZkO (hr.mono (by omega)) rfl ZJ))) ZD) (Ze (ZZ (Zq Ym (Zx ZG (pv 0) Zi (fun _ _=>rfl)) ZK (Zv _)) (Zn (Zz (ZV ZkM (hr.mono (by omega)) rfl ZJ (Za (Zx ZG (pv 0) Zi (fun _ _=>rfl)) (Za (Zx ZG (pv 0) Zi (fun _ _=>rfl)) Zj))))) ZD) (Ze (ZZ (Zq Ym (Zx ZG (pv 0) Zi (fun _ _=>rfl)) ZK (Zv _)) (Zn (Zz (ZV ZkN (hr.mono (by omega)) rfl ZJ (Za (ZV JB (hr.mono (by omega)) rfl ZJ (Za (Zx ZG (pv 0) Zi (fun _ _=>rfl)) Zj)) (Za (ZV JB (hr.mono (by omega)) rfl ZJ (Za (Zx ZG (pv 0) Zi (fun _ _=>rfl)) Zj)) Zj))))) ZD) (Zn (Zz (ZV ZgA (hr.mono (by omega)) rfl ZJ (Za (ZV JB (hr.mono (by omega)) rfl ZJ (Za (Zx ZG (pv 0) Zi (fun _ _=>rfl)) Zj)) (Za (ZV JB (hr.mono (by omega)) rfl ZJ (Za (Zx ZG (pv 0) Zi (fun _ _=>rfl)) Zj)) Zj)))))))), ?_⟩
  cases t with
  |never=>
   have ha:H a=some _:=ht;exact(ixT rfl (SqT.of ha) rfl ⟨rfl,_,rfl,Zcl rfl ⟨rfl,fun p H' s _ t=>q p H' s t⟩⟩)
  |after k d=>
   have ha:H a=some _:=ht;refine(ixT rfl (SqT.of ha) rfl ⟨rfl,_,rfl,YJ w1 (ixT rfl (SqT.of ha) rfl ⟨rfl,_,rfl,Zcl rfl ?_⟩)⟩);exact(ixT rfl (SqT.of ha) rfl (ixT rfl (SqT.of ha) rfl ⟨k,d,rfl,fun p H' s _ t=>q p H' s t⟩))
  |later x y=>
   obtain⟨p1,p2,ha,t1,t2⟩:=ht;have hdeep:max x.deep y.deep+1<n+1:=hd;refine(ixT rfl (SqT.of ha) rfl ⟨rfl,_,rfl,YJ w2 (ixT rfl (SqT.of ha) rfl ⟨rfl,_,rfl,YJ w4 (ixT rfl (SqT.of ha) rfl ⟨rfl,_,rfl,Zcl rfl ?_⟩)⟩)⟩);refine(ixT rfl (SqT.of ha) rfl ⟨p1,x,rfl,t1,by omega,fun m1 H1 s1 tm1=> ?_⟩);refine(ixT rfl (SqT.of (s1 _ _ ha)) rfl ⟨p2,y,rfl,t2.same s1,by omega,fun m2 H2 s2 tm2=> ?_⟩);exact⟨m1,m2,x,y,rfl,tm1.same s2,tm2,fun p H3 s3 _ t3=>q p H3 (s1.trans (s2.trans s3)) t3⟩
  |earlier x y=>
   obtain⟨p1,p2,ha,t1,t2⟩:=ht;have hdeep:max x.deep y.deep+1<n+1:=hd;refine(ixT rfl (SqT.of ha) rfl ⟨rfl,_,rfl,YJ w3 (ixT rfl (SqT.of ha) rfl ⟨rfl,_,rfl,YJ w5 (ixT rfl (SqT.of ha) rfl ⟨rfl,_,rfl,YJ w6 ?_⟩)⟩)⟩);refine(ixT rfl (SqT.of ha) rfl ⟨p1,x,rfl,t1,by omega,fun m1 H1 s1 tm1=> ?_⟩);refine(ixT rfl (SqT.of (s1 _ _ ha)) rfl ⟨p2,y,rfl,t2.same s1,by omega,fun m2 H2 s2 tm2=> ?_⟩);exact⟨m1,m2,x,y,rfl,tm1.same s2,tm2,fun p H3 s3 _ t3=>q p H3 (s1.trans (s2.trans s3)) t3⟩
theorem Zsb(k:Int)(h0:0<=k)(h1:k<3):∃m u:Int,atI [V.int 40,.int 12,.int 9] k=some (.int m)/\atI [V.int 1,.int 30,.int 360] k=some (.int u)/\0<m/\m<=40/\0<=u/\u<=360:=by
 have e:k=0\/k=1\/k=2:=by omega
 rcases e with rfl|rfl|rfl
 ·exact⟨40,1,rfl,rfl,by decide,by decide,by decide,by decide⟩
 ·exact⟨12,30,rfl,rfl,by decide,by decide,by decide,by decide⟩
 ·exact⟨9,360,rfl,rfl,by decide,by decide,by decide,by decide⟩
theorem ZcR:ZC ["_law_cell","_law_way"] ["_law_cell"] (Zt Zb3):=⟨rfl,rfl,rfl,by decide+kernel,rfl,by decide+kernel,by decide+kernel⟩
theorem ZgB{f:Addr}{fd:FuncData}(F:Fun K "_law_length_by" "_law_length_by" Zb3 f fd)(T:Txt K mg Zh Zf Zg Zb Zo):Yl P w K mg base CX0 1 f fd ["_law_cell"] Zaw:=by
 refine F.ok ZcR (fun vs H Q E h=> ?_) (fun cdv A outer s H vs Q E hr h=> ?_)
 ·obtain⟨c,rfl,_⟩:=h
  rfl
 ·obtain⟨c,rfl,q⟩:=h;have l5:=Xe;have m0:=Int.emod_nonneg c (show(4:Int)≠0 by decide);have m1:=Int.emod_lt_of_pos c (show(0:Int)<4 by decide);refine⟨_,(Ze (Zu (i:=1) ZcR.nd rfl (Or.inl rfl) (Zw ZW (pv 0) Zi)) (Ze (ZZ (Zq Ym (pv 1) Zi (Zv _)) (Zn (Zz (Zw ZW (Zw ZaF (Zw Yq (pv 0) Zi) Zi) (Zw ZoP Zi Zi)))) ZD) (Zn (Zz (Zw ZaF (Zw ZW (Zw Yq (pv 0) Zi) (Zx YZ (Yk (Za Zi (Za Zi (Za Zi Zj)))) (pv 1) (fun _ _=>rfl))) (Zx YZ (Yk (Za Zi (Za Zi (Za Zi Zj)))) (pv 1) (fun _ _=>rfl))))))), ?_⟩
  refine(vI rfl (by show(0:Int)<4;decide) (vEq rfl rfl (YQ (fun e=> ?_) (fun e=> ?_))))
  ·refine(vI rfl ⟨by decide,by decide⟩ ⟨_,_,rfl,rfl,IntMulOk.of_right (intBits_le_64 (by decide) (by decide)),_,_,rfl,rfl,ZpB (by decide) (by decide),_,_,rfl,rfl,pow_pos _, ?_⟩);have p40:(0:Int)<10^(40:Int).toNat:=pow_pos _;exact q _ H (Int.emod_nonneg _ (Int.ne_of_gt p40)) (Int.emod_lt_of_pos _ p40) (Zy.refl H)
  ·have e:¬c%4=3:=fun z=>e (decide_eq_true (by show V.int (c%4)=V.int 3;rw[z]))
   obtain⟨m,u,e1,e2,b1,b2,b3,b4⟩:=Zsb (c%4) m0 (by omega);refine(vI rfl ⟨by decide,by decide⟩ ⟨(show 3<=sizeLine from sl),fun p1 hp1=>⟨_,rfl,p1,_,_,_,rfl,rfl,SqL.of Zc,e1,_,_,rfl,rfl,b1,(show 3<=sizeLine from sl),fun p2 hp2=>⟨_,rfl,p2,_,_,_,rfl,rfl,SqL.of Zc,e2,_,_,rfl,rfl,IntMulOk.of_right (intBits_le_64 (by omega) (by omega)), ?_⟩⟩⟩);have d0:=Int.emod_nonneg (c/4) (Int.ne_of_gt b1);have d1:=Int.emod_lt_of_pos (c/4) b1
   have p:(14400:Int)<10^40:=by decide+kernel
   have z1:0<=c/4%m*u:=Int.mul_nonneg d0 b3;have z2:c/4%m*u<=40*360:=Int.mul_le_mul (by omega) b4 b3 (by decide);exact q _ _ z1 (by omega) ((Zk hp1).trans (Zk hp2))
theorem Jp.keep{H H':Hp}(s:∀b xs,H b=some (.tup xs)->H' b=some (.tup xs)):∀{t:Tr} {a:Addr},Jp H t a->Jp H' t a
 | .never,a,h=>s _ _ h
 | .after k d,a,h=>s _ _ h
 | .later x y,a,⟨p,q,h,h1,h2⟩=>⟨p,q,s _ _ h,h1.keep s,h2.keep s⟩
 | .earlier x y,a,⟨p,q,h,h1,h2⟩=>⟨p,q,s _ _ h,h1.keep s,h2.keep s⟩
structure Stk (H:Hp) (S:Addr) (ts:List (Tr×Addr)):Prop where
 at_:H S=some (.lst (ts.map fun t=>V.ref t.2))
 all:∀t∈ts,Jp H t.1 t.2
 gd:∀t∈ts,t.1.good
def ZgC(ts:List (Tr×Addr)):Nat:=(ts.map fun t=>t.1.cnt).sum
theorem Stk.same{H H':Hp}{S:Addr}{ts:List (Tr×Addr)}(h:Stk H S ts)(s:Zy H H'):Stk H' S ts:=⟨s _ _ h.at_,fun t ht=>(h.all t ht).same s,h.gd⟩
theorem two_last{α:Type}(l:List α)(h:1<l.length):∃us x y,l=us++[x,y]:=by
 have hr:l.reverse.length=l.length:=List.length_reverse;cases e:l.reverse with
 |nil=>rw[e] at hr;simp at hr;omega
 |cons y r=>
  cases r with
  |nil=>rw[e] at hr;simp at hr;omega
  |cons x r=>
   refine⟨r.reverse,x,y, ?_⟩;have:=congrArg List.reverse e
   simpa using this
theorem Zr5{α:Type}(us:List α)(y:α):(us++[y])[(us++[y]).length-1]? =some y:=by
 rw[List.length_append];simp
theorem ZoB{α:Type}(us:List α)(y:α):(us++[y]).dropLast=us:=by simp
theorem Zek(us ts:List (Tr×Addr)):ZgC (us++ts)=ZgC us+ZgC ts:=by
 unfold ZgC;rw[List.map_append,List.sum_append]
theorem Stk.push{H H':Hp}{S t:Addr}{us:List (Tr×Addr)}{z:Tr}(hu:∀u∈us,Jp H u.1 u.2)(kp:∀b xs,H b=some (.tup xs)->H' b=some (.tup xs))(hS:H' S=some (.lst (us.map (fun t=>V.ref t.2)++[.ref t])))(hz:Jp H' z t)(hg:∀u∈us,u.1.good)(gz:z.good):Stk H' S (us++[(z,t)]):=by
 refine⟨by rw[hS,List.map_append];rfl,fun u hm=> ?_,fun u hm=>(List.mem_append.mp hm).elim (hg u) fun m=>by rw[show u=(z,t) by simpa using m];exact gz⟩
 rcases List.mem_append.mp hm with m|m
 ·exact(hu u m).keep kp
 ·have e:u=(z,t):=by simpa using m
  rw[e];exact hz
theorem two_tree{H':Hp}{t:Addr}{x y:Tr×Addr}{w:Str}{z:Tr}(hx:Jp H' x.1 x.2)(hy:Jp H' y.1 y.2)(ht:H' t=some (.tup [.str w,.ref x.2,.ref y.2]))(hz:(w=Str.ofString "later"/\z=.later x.1 y.1)\/(w=Str.ofString "earlier"/\z=.earlier x.1 y.1)):
  Jp H' z t/\z.cnt=x.1.cnt+y.1.cnt/\(x.1.good->y.1.good->z.good):=by
 rcases hz with ⟨rfl,rfl⟩|⟨rfl,rfl⟩
 ·exact⟨⟨x.2,y.2,ht,hx,hy⟩,rfl,fun a b=>⟨a,b⟩⟩
 ·exact⟨⟨x.2,y.2,ht,hx,hy⟩,rfl,fun a b=>⟨a,b⟩⟩
theorem ZjJ{H1:Hp}{S p t:Addr}{o1 o2 o3 o4 o5:HO}(hp:upd H1 S o1 p=none)(ht:upd (upd (upd H1 S o1) p o2) S o3 t=none):∀b u,b≠S->H1 b=some u->upd (upd (upd (upd (upd H1 S o1) p o2) S o3) t o4) S o5 b=some u:=fun b u n e=>by
 have e1:upd H1 S o1 b=some u:=by rw[Zm n];exact e
 have e2:upd (upd H1 S o1) p o2 b=some u:=by rw[Zm (Zd e1 hp)];exact e1
 have e3:upd (upd (upd H1 S o1) p o2) S o3 b=some u:=by rw[Zm n];exact e2
 rw[Zm n,Zm (Zd e3 ht)];exact e3
theorem Zq6{H1:Hp}{S t:Addr}{o3 o4 o5:HO}(ht:upd H1 S o3 t=none):upd (upd (upd H1 S o3) t o4) S o5 t=some o4:=by
 rw[Zm (Ne.symm (Zd Zc ht)),Zc]
theorem Zq7(k:Int)(h0:0<=k)(h1:k<2)(x y:Tr):∃(w:Str) (z:Tr),atI [V.str (Str.ofString "later"),.str (Str.ofString "earlier")] k=some (.str w)/\((w=Str.ofString "later"/\z=.later x y)\/(w=Str.ofString "earlier"/\z=.earlier x y)):=by
 have e:k=0\/k=1:=by omega
 rcases e with rfl|rfl
 ·exact⟨_,_,rfl,.inl ⟨rfl,rfl⟩⟩
 ·exact⟨_,_,rfl,.inr ⟨rfl,rfl⟩⟩
theorem Zsc:Nm (Str.ofString "put"):=by
 exact⟨by decide+kernel,by decide+kernel,by decide+kernel⟩
theorem Zsd(z:Str)(b:Bool)(hz:Nm z):∃w:Str,Nm w/\atI [V.str z,.str (Str.ofString "put")] (if b=true then 1 else 0)=some (.str w):=by
 cases b
 ·exact⟨z,hz,rfl⟩
 ·exact⟨_,Zsc,rfl⟩
theorem Ziw:∀l:List (Tr×Addr),l.length<=ZgC l
 |[]=>Nat.zero_le _
 |t::r=>by
  have:=t.1.deep_cnt;have:=Ziw r;show r.length+1<=t.1.cnt+ZgC r;omega
theorem Zr6{S:Addr}{H:Hp}{Q:VK}{us:List V}{y:V}(h:H S=some (.lst (us++[y])))(q:Q y (upd H S (.lst us))):ZsE (.ref S) [] H Q:=⟨S,_,y,rfl,rfl,h,Zr5 us y,by rw[ZoB];exact q⟩
theorem Xg:ZC ["_law_cells","_law_names_by","_law_most","_law_some","_law_many","_law_cell","_law_other","_law_kind"] ["_law_cells","_law_names_by","_law_most"] (Zt Zch):=⟨rfl,rfl,rfl,by decide+kernel,rfl,by decide+kernel,by decide+kernel⟩
theorem Zix{f:Addr}{fd:FuncData}(F:Fun K "_law_tree_by" "_law_tree_by" Zch f fd)(T:Txt K mg Zh Zf Zg Zb Zo)(Zb8:Cal P w K mg base CX0 1 "_law_length_by" ["_law_cell"] Zaw)(Yi:Cal P w K mg base CX0 1 "_law_name_by" ["_law_cell","_law_k"] Jg):Yl P w K mg base CX0 2 f fd ["_law_cells","_law_names_by","_law_most"] ZbH:=by
 refine F.ok Xg (fun vs H Q E h=> ?_) (fun cdv A outer s H vs Q E hr h=> ?_)
 ·obtain⟨a,ns,b,mo,rfl,_⟩:=h
  rfl
 ·obtain⟨a,ns,b,mo,rfl,ha,hn,lo,hi_,q⟩:=h;have l5:=Xe;have hu3:=Zk5 hr;refine⟨_,(Ze (Zu (i:=3) Xg.nd rfl (Or.inl rfl) (Yk Zj)) (Ze (Zu (i:=4) Xg.nd rfl (Or.inl rfl) Zi) (Ze (Xi PassesOwn.never rfl (Yb (pv 0)) (ZF (i:=5) Xg.nd rfl (Or.inl rfl)) (Zn (ZZ (PW.pt (Xz (Zq ZfG (Zw ZW (pv 5) Zi) Zi (Zv _)) (YX (Zq ZeS (ZS JP (by rfl) T.z_len Zce (Za (pv 3) Zj)) Zi (Zv _))))) (Ze (Zu (i:=6) Xg.nd rfl (Or.inl rfl) (ZjW PySem.F.plainAttrs_list PySem.F.slot_list_pop PySem.F.type_list_pop ZjX (pv 3))) (Zn (Xh (ZaL PySem.F.plainAttrs_list PySem.F.slot_list_append PySem.F.type_list_append YC (pv 3) (Za (YK (Za (Zx YZ (Yk (Za ZK (Za ZK Zj))) (Zw ZW (pv 5) Zi) (fun _ _=>rfl)) (Za (ZjW PySem.F.plainAttrs_list PySem.F.slot_list_pop PySem.F.type_list_pop ZjX (pv 3)) (Za (pv 6) Zj)))) Zj))))) (Zn (ZZ (Zq ZfG (pv 4) (pv 2) (Zv _)) (Ze (Zu (i:=4) Xg.nd rfl (Or.inl rfl) (Zw XX (pv 4) Zi)) (Zn (ZZ (Zq Ym (Zw ZW (Zw Yq (pv 5) Zi) Zi) Zi (Zv _)) (Zn (Xh (ZaL PySem.F.plainAttrs_list PySem.F.slot_list_append PySem.F.type_list_append YC (pv 3) (Za (YK (Za ZK Zj)) Zj)))) (Ze (Zu (i:=7) Xg.nd rfl (Or.inl rfl) (ZV Yi (hr.mono (by omega)) rfl ZJ (Za (pv 1) (Za (Zw ZW (Zw Yq (pv 5) Zi) Zi) Zj)))) (Zn (Xh (ZaL PySem.F.plainAttrs_list PySem.F.slot_list_append PySem.F.type_list_append YC (pv 3) (Za (YK (Za ZK (Za (Zx YZ (Yk (Za (pv 7) (Za ZK Zj))) (Zbq Zey (by rfl) T.z_int Zk3 (Za (Za7 Ym (Zw ZW (Zw Yq (pv 5) Zi) Zi) Zi (Zv _)) Zj)) (fun _ _=>rfl)) (Za (ZV Zb8 (hr.mono (by omega)) rfl ZJ (Za (Zw Yq (pv 5) Zi) Zj)) Zj)))) Zj)))))))) ZD))))) (Ze (ZZ (Zq (Zpl hu3) (pv 3) (Yk Zj) (Zv _)) (Zn (Zz (YK (Za ZK Zj)))) ZD) (Ze (ZoN PassesOwn.never (Zq ZeS (ZS JP (by rfl) T.z_len Zce (Za (pv 3) Zj)) Zi (Zv _)) (Ze (Zu (i:=6) Xg.nd rfl (Or.inl rfl) (ZjW PySem.F.plainAttrs_list PySem.F.slot_list_pop PySem.F.type_list_pop ZjX (pv 3))) (Zn (Xh (ZaL PySem.F.plainAttrs_list PySem.F.slot_list_append PySem.F.type_list_append YC (pv 3) (Za (YK (Za (Zx YZ (Yk (Za ZK (Za ZK Zj))) (Zw ZW (ZS JP (by rfl) T.z_len Zce (Za (pv 3) Zj)) Zi) (fun _ _=>rfl)) (Za (ZjW PySem.F.plainAttrs_list PySem.F.slot_list_pop PySem.F.type_list_pop ZjX (pv 3)) (Za (pv 6) Zj)))) Zj)))))) (Zn (Zz (Zx YZ (pv 3) Zi (fun _ _=>rfl))))))))), ?_⟩
  refine⟨Nat.zero_le _,fun S hS=>⟨_,rfl,a,rfl,⟨_,SqL.of (Zk hS _ _ ha)⟩,YH (xs:=ns.map V.int) (fun i σ H'=>∃(ts:List (Tr×Addr)) (m:Nat) (v5 v6 v7:Option V),σ=[some (.ref a),some (.int b),some (.int (mo:Int)),some (.ref S),some (.int (m:Int)),v5,v6,v7]/\Stk H' S ts/\ZgC ts=m/\m<=mo/\Zy H H') ?_ ?_ ?_ ?_⟩⟩
  ·exact⟨[],0,none,none,none,rfl,⟨Zc,(fun t ht=>nomatch ht),fun t ht=>nomatch ht⟩,rfl,Nat.zero_le _,Zk hS⟩
  ·rintro i σ H1 _ ⟨ts,m,v5,v6,v7,rfl,st,hc,hm,s1⟩;exact SqL.of (s1 _ _ ha)
  ·rintro i x σ H1 hx ⟨ts,m,v5,v6,v7,rfl,st,hc,hm,s1⟩;obtain⟨c,rfl⟩:∃c,x=V.int c:=by
    rw[List.getElem?_map] at hx
    cases q:ns[i]? with
    |none=>rw[q] at hx;cases hx
    |some c=>rw[q] at hx;cases hx;exact⟨c,rfl⟩
   have lts:ts.length<=mo:=by
    have:=Ziw ts;omega
   have c0:=Int.emod_nonneg c (show(5:Int)≠0 by decide);refine(vI rfl (by show(0:Int)<5;decide) ⟨_,_,rfl,rfl,_,rfl, ?_⟩)
   refine(fun both=>YQ (fun e1=>⟨_,rfl,_,_,rfl,.inl ⟨_,SqL.of st.at_,rfl⟩,_,_,rfl,rfl,_,rfl,YQ (fun e2=> ?b1) (fun e2=>both)⟩) (fun e1=>Yt both)) ?b2
   case b1=>
    have e1:c%5<2:=of_decide_eq_true e1;have e2:(1:Int)<(((ts.map fun t=>V.ref t.2).length:Nat):Int):=of_decide_eq_true e2;rw[List.length_map] at e2
    obtain⟨us,x,y,rfl⟩:=two_last ts (by omega);obtain⟨w,z,ew,hz⟩:=Zq7 (c%5) c0 e1 x.1 y.1;have A1:H1 S=some (.lst ((us++[x]).map (fun t=>V.ref t.2)++[V.ref y.2])):=by rw[st.at_];simp
    refine⟨_,rfl,.inl ⟨rfl,_,SqL.of A1⟩,Zr6 A1 ?_⟩;refine⟨_,rfl,.inl ⟨rfl,_,SqL.of Zc⟩,(show 2<=sizeLine from sl),fun p hp=> ?_⟩;have nSp:S≠p:=Zd Zc hp;have A2:upd (upd H1 S (.lst ((us++[x]).map fun t=>V.ref t.2))) p (.lst [.str (Str.ofString "later"),.str (Str.ofString "earlier")]) S=some (.lst (us.map (fun t=>V.ref t.2)++[V.ref x.2])):=by rw[Zm nSp,Zc];simp
    refine(vI rfl (by show(0:Int)<5;decide) ⟨p,_,_,_,rfl,rfl,SqL.of Zc,ew,_,rfl,.inl ⟨rfl,_,SqL.of A2⟩,Zr6 A2 ?_⟩)
    refine⟨_,rfl,(show 3<=sizeLine from sl),fun t ht=> ?_⟩;have nSt:S≠t:=Zd Zc ht;refine⟨S,_,V.ref t,rfl,rfl,by rw[Zm nSt];exact Zc, ?_, ?_⟩
    ·rw[List.length_map];have:(us++[x,y]).length=us.length+2:=by simp
     omega
    ·have kp:=ZjJ (o1:=.lst ((us++[x]).map fun t=>V.ref t.2)) (o2:=.lst [.str (Str.ofString "later"),.str (Str.ofString "earlier")]) (o3:=.lst (us.map fun t=>V.ref t.2)) (o4:=.tup [.str w,.ref x.2,.ref y.2]) (o5:=.lst (us.map (fun t=>V.ref t.2)++[.ref t])) hp ht;have kt:∀b xs,H1 b=some (.tup xs)->_:=fun b xs e=>kp b _ (Yj e st.at_ (fun z=>nomatch z)) e;obtain⟨tz,cz,gz⟩:=two_tree ((st.all x (by simp)).keep kt) ((st.all y (by simp)).keep kt) (Zq6 ht) hz
     refine⟨us++[(z,t)],m,_,_,_,rfl,Stk.push (fun u hu=>st.all u (List.mem_append_left _ hu)) kt Zc tz (fun u hu=>st.gd u (List.mem_append_left _ hu)) (gz (st.gd x (by simp)) (st.gd y (by simp))), ?_,hm,fun b u e=>kp b u (Zd e hS) (s1 b u e)⟩;rw[<-hc,Zek,Zek];show ZgC us+(z.cnt+0)=ZgC us+(x.1.cnt+(y.1.cnt+0));omega
   case b2=>
    refine⟨_,rfl,_,rfl,_,_,rfl,rfl,_,rfl,YQ (fun e3=> ?_) (fun e3=>⟨ts,m,_,_,_,rfl,st,hc,hm,s1⟩)⟩;have e3:(m:Int)<(mo:Int):=of_decide_eq_true e3;refine⟨_,rfl,_,_,rfl,rfl,vI rfl ⟨by decide,by decide⟩ ⟨_,_,rfl,rfl,(by show(0:Int)<11;decide),rfl,_,rfl,YQ (fun _=> ?_) (fun _=> ?_)⟩⟩
    ·refine⟨_,rfl,.inl ⟨rfl,_,SqL.of st.at_⟩,(show 1<=sizeLine from sl),fun t ht=> ?_⟩;have nSt:S≠t:=Zd st.at_ ht;refine⟨S,_,V.ref t,rfl,rfl,by rw[Zm nSt];exact st.at_,(by rw[List.length_map];omega), ?_⟩
     have kp:∀b u,b≠S->H1 b=some u->upd (upd H1 t (.tup [.str (Str.ofString "never")])) S (.lst (ts.map (fun t=>V.ref t.2)++[.ref t])) b=some u:=fun b u n e=>by
      rw[Zm n,Zm (Zd e ht)];exact e
     refine⟨ts++[(.never,t)],m+1,_,_,_,rfl,Stk.push st.all (fun b xs e=>kp b _ (Yj e st.at_ (fun z=>nomatch z)) e) Zc ?_ st.gd trivial, ?_,by omega,fun b u e=>kp b u (Zd e hS) (s1 b u e)⟩
     ·show upd _ S _ t=_;rw[Zm (Ne.symm nSt),Zc]
     ·rw[Zek,hc]
      rfl
    ·refine⟨_,rfl,vI rfl ⟨by decide,by decide⟩ ⟨_,_,rfl,rfl,(by show(0:Int)<6;decide),_,_,rfl,fun H2 s2=> ?_⟩⟩
     have nz:=Zlt b (c/5%6);have st2:=st.same s2;refine⟨_,rfl,.inl ⟨rfl,_,SqL.of st2.at_⟩,_,rfl,(show 2<=sizeLine from sl),fun p hp=> ?_⟩;obtain⟨w,nw,ew⟩:=Zsd (Zbh b (c/5%6)) (decide (V.int (c/5%9)=V.int 4)) nz;refine(vI rfl ⟨by decide,by decide⟩ ⟨_,_,rfl,rfl,(by show(0:Int)<9;decide),rfl,.inr ⟨_,rfl,p,_,_,_,rfl,rfl,SqL.of Zc,ew, ?_⟩⟩)
     refine(vI rfl ⟨by decide,by decide⟩ ⟨_,rfl,fun d H4 d0 d1 s4=>⟨show 3<=sizeLine from sl,fun t ht=> ?_⟩⟩);have s24:=s2.trans ((Zk hp).trans s4);have st4:=st.same s24;have nSt:S≠t:=Zd st4.at_ ht;refine⟨S,_,V.ref t,rfl,rfl,by rw[Zm nSt];exact st4.at_,(by rw[List.length_map];omega), ?_⟩
     have kp:∀b u,b≠S->H4 b=some u->upd (upd H4 t (.tup [.str (Str.ofString "after"),.str w,.int d])) S (.lst (ts.map (fun t=>V.ref t.2)++[.ref t])) b=some u:=fun b u n e=>by
      rw[Zm n,Zm (Zd e ht)];exact e
     refine⟨ts++[(.after w d,t)],m+1,_,_,_,rfl,Stk.push st4.all (fun b xs e=>kp b _ (Yj e st4.at_ (fun z=>nomatch z)) e) Zc ?_ st4.gd ⟨nw,d0,d1⟩, ?_,by omega,fun b u e=>kp b u (Zd e hS) (s24 _ _ (s1 b u e))⟩
     ·show upd _ S _ t=_;rw[Zm (Ne.symm nSt),Zc]
     ·rw[Zek,hc]
      rfl
  ·rintro σ H1 ⟨ts,m,v5,v6,v7,rfl,st,hc,hm,s1⟩;refine⟨_,rfl,Nat.zero_le _,fun D hD=>⟨S,D,_,rfl,rfl,SqL.of (Zk hD _ _ st.at_),SqL.of Zc,_,rfl,YQ (fun e=> ?_) (fun e=> ?_)⟩⟩
   ·exact⟨show 1<=sizeLine from sl,fun p hp=>q p .never _ (s1.trans ((Zk hD).trans (Zk hp))) Zc lo trivial⟩
   ·have ne:ts≠[]:=fun z=>e (decide_eq_true (by rw[z];rfl))
    refine⟨fun k σ H'=>∃(us:List (Tr×Addr)) (v5 v6 v7:Option V),σ=[some (.ref a),some (.int b),some (.int (mo:Int)),some (.ref S),some (.int (m:Int)),v5,v6,v7]/\Stk H' S us/\us≠[]/\ZgC us<=mo/\k=us.length/\Zy H H',⟨ts.length,ts,v5,v6,v7,rfl,st.same (Zk hD),ne,by omega,rfl,s1.trans (Zk hD)⟩, ?_⟩;rintro k σ H2 ⟨us,v5,v6,v7,rfl,st2,ne2,hc2,rfl,s2⟩;refine⟨_,rfl,_,_,rfl,.inl ⟨_,SqL.of st2.at_,rfl⟩,_,_,rfl,rfl,_,rfl,YQ (fun e=> ?_) (fun e=> ?_)⟩
    ·have e:(1:Int)<(((us.map fun t=>V.ref t.2).length:Nat):Int):=of_decide_eq_true e;rw[List.length_map] at e
     refine⟨fun σ' H'=>∃(us':List (Tr×Addr)) (v5 v6 v7:Option V),σ'=[some (.ref a),some (.int b),some (.int (mo:Int)),some (.ref S),some (.int (m:Int)),v5,v6,v7]/\Stk H' S us'/\us'≠[]/\ZgC us'<=mo/\us'.length<us.length/\Zy H H',
      fun σ' H' ⟨us',w5,w6,w7,e',st',ne',hc',hl',s'⟩=>⟨us'.length,hl',us',w5,w6,w7,e',st',ne',hc',rfl,s'⟩, ?_⟩
     obtain⟨vs,x,y,rfl⟩:=two_last us (by omega);have lv:(vs++[x,y]).length=vs.length+2:=by simp
     have lv2:vs.length<=1000:=by
      have:=Ziw (vs++[x,y]);omega
     obtain⟨w,z,ew,hz⟩:=Zq7 ((((((vs++[x]).map fun t=>V.ref t.2).length:Nat):Int))%2) (Int.emod_nonneg _ (by decide)) (Int.emod_lt_of_pos _ (by decide)) x.1 y.1;have A1:H2 S=some (.lst ((vs++[x]).map (fun t=>V.ref t.2)++[V.ref y.2])):=by rw[st2.at_];simp
     refine⟨_,rfl,.inl ⟨rfl,_,SqL.of A1⟩,Zr6 A1 ?_⟩;refine⟨_,rfl,.inl ⟨rfl,_,SqL.of Zc⟩,(show 2<=sizeLine from sl),fun p hp=> ?_⟩;have nSp:S≠p:=Zd Zc hp;have A2:upd (upd H2 S (.lst ((vs++[x]).map fun t=>V.ref t.2))) p (.lst [.str (Str.ofString "later"),.str (Str.ofString "earlier")]) S=some (.lst ((vs++[x]).map (fun t=>V.ref t.2))):=by rw[Zm nSp,Zc]
     have A3:upd (upd H2 S (.lst ((vs++[x]).map fun t=>V.ref t.2))) p (.lst [.str (Str.ofString "later"),.str (Str.ofString "earlier")]) S=some (.lst (vs.map (fun t=>V.ref t.2)++[V.ref x.2])):=by rw[A2];simp
     refine⟨_,rfl,_,_,rfl,.inl ⟨_,SqL.of A2,rfl⟩,_,_,rfl,rfl,(by show(0:Int)<2;decide),p,_,_,_,rfl,rfl,SqL.of Zc,ew,_,rfl,.inl ⟨rfl,_,SqL.of A3⟩,Zr6 A3 ?_⟩
     refine⟨_,rfl,(show 3<=sizeLine from sl),fun t ht=> ?_⟩;have nSt:S≠t:=Zd Zc ht;refine⟨S,_,V.ref t,rfl,rfl,by rw[Zm nSt];exact Zc,(by rw[List.length_map];omega), ?_⟩
     have kp:=ZjJ (o1:=.lst ((vs++[x]).map fun t=>V.ref t.2)) (o2:=.lst [.str (Str.ofString "later"),.str (Str.ofString "earlier")]) (o3:=.lst (vs.map fun t=>V.ref t.2)) (o4:=.tup [.str w,.ref x.2,.ref y.2]) (o5:=.lst (vs.map (fun t=>V.ref t.2)++[.ref t])) hp ht;have kt:∀b xs,H2 b=some (.tup xs)->_:=fun b xs e=>kp b _ (Yj e st2.at_ (fun z=>nomatch z)) e;obtain⟨tz,cz,gz⟩:=two_tree ((st2.all x (by simp)).keep kt) ((st2.all y (by simp)).keep kt) (Zq6 ht) hz
     refine⟨vs++[(z,t)],_,_,_,rfl,Stk.push (fun u hu=>st2.all u (List.mem_append_left _ hu)) kt Zc tz (fun u hu=>st2.gd u (List.mem_append_left _ hu)) (gz (st2.gd x (by simp)) (st2.gd y (by simp))),by simp, ?_,by rw[lv,List.length_append];show vs.length+1<_;omega,fun b u e=>kp b u (Zd e hS) (s2 b u e)⟩
     rw[Zek] at hc2⊢
     have h2:ZgC vs+(x.1.cnt+(y.1.cnt+0))<=mo:=hc2;show ZgC vs+(z.cnt+0)<=mo;omega
    ·have e:¬(1:Int)<(((us.map fun t=>V.ref t.2).length:Nat):Int):=fun z=>e (decide_eq_true z);rw[List.length_map] at e
     obtain⟨t,rfl⟩:∃t,us=[t]:=by
      cases us with
      |nil=>exact absurd rfl ne2
      |cons t r=>
       cases r with
       |nil=>exact⟨t,rfl⟩
       |cons u r=>simp only [List.length_cons] at e;omega
     refine⟨_,rfl,S,_,_,V.ref t.2,rfl,rfl,SqL.of st2.at_,rfl,q t.2 t.1 H2 s2 (st2.all t (by simp)) ?_ (st2.gd t (by simp))⟩;have h2:t.1.cnt+0<=mo:=hc2;omega
theorem ZkP:ZC ["self","life"] ["self","life"] (Zt ZdU):=⟨rfl,rfl,rfl,by decide+kernel,rfl,by decide+kernel,by decide+kernel⟩
theorem ZkQ{f:Addr}{fd:FuncData}(F:Fun K "due" "Never.due" ZdU f fd)(T:Txt K mg Zh Zf Zg Zb Zo)(n:Nat):Yl P w K mg base CX0 (0+n+1+1) f fd ["self","life"] (Zcn Zh Zf Zg Zb (n+1) Zh):=by
 refine F.ok ZkP (fun vs H Q E h=> ?_) (fun cdv A outer s H vs Q E hr h=> ?_)
 ·obtain⟨a,b,t,l,rfl,_⟩:=h
  rfl
 ·obtain⟨a,b,t,l,rfl,ht,hd,hC,hb,q⟩:=h;refine⟨_,(Zn (Zz YB)), ?_⟩;cases t with
  |never=>exact q H (Zy.refl H)
  |after k d=>exact absurd hC.symm T.ne_Never_After
  |later x y=>exact absurd hC.symm T.ne_Never_Later
  |earlier x y=>exact absurd hC.symm T.ne_Never_Earlier
theorem ZkR:ZC ["self","life"] ["self","life"] (Zt ZdV):=⟨rfl,rfl,rfl,by decide+kernel,rfl,by decide+kernel,by decide+kernel⟩
theorem ZkS{f:Addr}{fd:FuncData}(F:Fun K "due" "After.due" ZdV f fd)(T:Txt K mg Zh Zf Zg Zb Zo)(n:Nat):Yl P w K mg base CX0 (0+n+1+1) f fd ["self","life"] (Zcn Zh Zf Zg Zb (n+1) Zf):=by
 refine F.ok ZkR (fun vs H Q E h=> ?_) (fun cdv A outer s H vs Q E hr h=> ?_)
 ·obtain⟨a,b,t,l,rfl,_⟩:=h
  rfl
 ·obtain⟨a,b,t,l,rfl,ht,hd,hC,hb,q⟩:=h;have hu:=Zbg hr;cases t with
  |never=>exact absurd hC T.ne_Never_After
  |later x y=>exact absurd hC.symm T.ne_After_Later
  |earlier x y=>exact absurd hC.symm T.ne_After_Earlier
  |after k d=>
   obtain⟨dx,ha⟩:=ht;have hg:=Zfh hb k;refine⟨_,(Ze (ZZ (ZcY (Zbr hu (Yg (pv 0) rfl) (pv 1))) (Zn (Zz YB)) ZD) (Zn (Zz (Zw XX (Za9 hu (pv 1) (Yg (pv 0) rfl) (fun _ _=>rfl)) (Yg (pv 0) rfl))))), ?_⟩;refine⟨_,rfl,a,_,dx,_,_,rfl,ha,T.cl_After,T.n_After_kind,Zko k d,_,rfl,b,_,rfl,hg,_,rfl, ?_⟩;rw[Zi3];have q1:=q H (Zy.refl H);unfold Tr.due at q1
   cases ev:lk l k with
   |none=>
    rw[ev] at q1
    exact JZ q1
   |some u=>
    rw[ev] at q1 hg
    exact Yt ⟨_,rfl,_,rfl,a,_,dx,_,_,rfl,ha,T.cl_After,T.n_After_kind,Zko k d,b,_,rfl,hg,_,rfl,a,_,dx,_,_,rfl,ha,T.cl_After,T.n_After_days,Znv k d,_,_,rfl,rfl,q1⟩
theorem Zdv:ZC ["self","life","one_day","other_day"] ["self","life"] (Zt ZdW):=⟨rfl,rfl,rfl,by decide+kernel,rfl,by decide+kernel,by decide+kernel⟩
theorem ZkT{f:Addr}{fd:FuncData}(F:Fun K "due" "Later.due" ZdW f fd)(T:Txt K mg Zh Zf Zg Zb Zo)(n:Nat)(ZdC:Zbj P w K mg base CX0 (0+n+1) "due" ["self","life"] (Zcn Zh Zf Zg Zb n) (fun C=>C=Zh\/C=Zf\/C=Zg\/C=Zb)):Yl P w K mg base CX0 (0+n+1+1) f fd ["self","life"] (Zcn Zh Zf Zg Zb (n+1) Zg):=by
 refine F.ok Zdv (fun vs H Q E h=> ?_) (fun cdv A outer s H vs Q E hr h=> ?_)
 ·obtain⟨a,b,t,l,rfl,_⟩:=h
  rfl
 ·obtain⟨a,b,t,l,rfl,ht,hd,hC,hb,q⟩:=h;cases t with
  |never=>exact absurd hC T.ne_Never_Later
  |after k d=>exact absurd hC T.ne_After_Later
  |earlier x y=>exact absurd hC.symm T.ne_Later_Earlier
  |later x y=>
   obtain⟨dx,p1,p2,ha,t1,t2⟩:=ht;obtain⟨dx1,f1,i1,l1⟩:=ZcP t1;obtain⟨n1,n2,n3,n4⟩:=Znx "due" (.inl rfl);have hdeep:max x.deep y.deep+1<n+1:=hd;refine⟨_,(Ze (Zu (i:=2) Zdv.nd rfl (Or.inl rfl) (Zaa (Yg (pv 0) rfl) ZdC (hr.mono (by omega)) ZJ (Za (pv 1) Zj))) (Ze (Zu (i:=3) Zdv.nd rfl (Or.inl rfl) (Zaa (Yg (pv 0) rfl) ZdC (hr.mono (by omega)) ZJ (Za (pv 1) Zj))) (Ze (ZZ (PW.pt (ZgO (Zq Zcd (pv 2) YB (Zv _)) (ZeX (Zq Zcd (pv 3) YB (Zv _))))) (Zn (Zz YB)) ZD) (Zn (Zz (ZS (Zgg rfl) (by rfl) T.z_max Zk2 (Za (pv 2) (Za (pv 3) Zj)))))))), ?_⟩
   refine⟨_,rfl,a,_,dx,_,_,rfl,ha,T.cl_Later,T.n_Later_one,Zkp p1 p2,p1,_,dx1,f1,rfl,i1,Zfg x,l1 _ n1 n2 n3 n4,_,rfl,p1,b,x,l,rfl,t1,by omega,rfl,hb,fun H2 s2=> ?_⟩;obtain⟨dx2,f2,i2,l2⟩:=ZcP (t2.same s2);refine⟨_,rfl,a,_,dx,_,_,rfl,s2 _ _ ha,T.cl_Later,T.n_Later_other,ZfW p1 p2,p2,_,dx2,f2,rfl,i2,Zfg y,l2 _ n1 n2 n3 n4,_,rfl,p2,b,y,l,rfl,t2.same s2,by omega,rfl,Znw s2 hb,fun H3 s3=> ?_⟩;have q1:=q H3 (s2.trans s3)
   unfold Tr.due at q1
   cases e1:x.due l with
   |none=>
    rw[e1] at q1
    exact⟨_,rfl,rfl,_,rfl,JZ (JZ q1)⟩
   |some i=>
    cases e2:y.due l with
    |none=>
     rw[e1,e2] at q1
     exact⟨_,rfl,rfl,_,rfl,Yt ⟨_,rfl,rfl,_,rfl,JZ q1⟩⟩
    |some j=>
     rw[e1,e2] at q1
     exact⟨_,rfl,rfl,_,rfl,Yt ⟨_,rfl,rfl,_,rfl,Yt ⟨_,rfl,_,rfl,i,j,rfl,q1⟩⟩⟩
theorem ZbT:ZC ["self","life","one_day","other_day"] ["self","life"] (Zt Zck):=⟨rfl,rfl,rfl,by decide+kernel,rfl,by decide+kernel,by decide+kernel⟩
theorem Ziy{f:Addr}{fd:FuncData}(F:Fun K "due" "Earlier.due" Zck f fd)(T:Txt K mg Zh Zf Zg Zb Zo)(n:Nat)(ZdC:Zbj P w K mg base CX0 (0+n+1) "due" ["self","life"] (Zcn Zh Zf Zg Zb n) (fun C=>C=Zh\/C=Zf\/C=Zg\/C=Zb)):Yl P w K mg base CX0 (0+n+1+1) f fd ["self","life"] (Zcn Zh Zf Zg Zb (n+1) Zb):=by
 refine F.ok ZbT (fun vs H Q E h=> ?_) (fun cdv A outer s H vs Q E hr h=> ?_)
 ·obtain⟨a,b,t,l,rfl,_⟩:=h
  rfl
 ·obtain⟨a,b,t,l,rfl,ht,hd,hC,hb,q⟩:=h;cases t with
  |never=>exact absurd hC T.ne_Never_Earlier
  |after k d=>exact absurd hC T.ne_After_Earlier
  |later x y=>exact absurd hC T.ne_Later_Earlier
  |earlier x y=>
   obtain⟨dx,p1,p2,ha,t1,t2⟩:=ht;obtain⟨dx1,f1,i1,l1⟩:=ZcP t1;obtain⟨n1,n2,n3,n4⟩:=Znx "due" (.inl rfl);have hdeep:max x.deep y.deep+1<n+1:=hd;refine⟨_,(Ze (Zu (i:=2) ZbT.nd rfl (Or.inl rfl) (Zaa (Yg (pv 0) rfl) ZdC (hr.mono (by omega)) ZJ (Za (pv 1) Zj))) (Ze (Zu (i:=3) ZbT.nd rfl (Or.inl rfl) (Zaa (Yg (pv 0) rfl) ZdC (hr.mono (by omega)) ZJ (Za (pv 1) Zj))) (Ze (ZZ (Zq Zcd (pv 2) YB (Zv _)) (Zn (Zz (pv 3))) ZD) (Ze (ZZ (Zq Zcd (pv 3) YB (Zv _)) (Zn (Zz (pv 2))) ZD) (Zn (Zz (ZS (Zj7 rfl) (by rfl) T.z_min Zmv (Za (pv 2) (Za (pv 3) Zj))))))))), ?_⟩
   refine⟨_,rfl,a,_,dx,_,_,rfl,ha,T.cl_Earlier,T.n_Earlier_one,Zkp p1 p2,p1,_,dx1,f1,rfl,i1,Zfg x,l1 _ n1 n2 n3 n4,_,rfl,p1,b,x,l,rfl,t1,by omega,rfl,hb,fun H2 s2=> ?_⟩;obtain⟨dx2,f2,i2,l2⟩:=ZcP (t2.same s2);refine⟨_,rfl,a,_,dx,_,_,rfl,s2 _ _ ha,T.cl_Earlier,T.n_Earlier_other,ZfW p1 p2,p2,_,dx2,f2,rfl,i2,Zfg y,l2 _ n1 n2 n3 n4,_,rfl,p2,b,y,l,rfl,t2.same s2,by omega,rfl,Znw s2 hb,fun H3 s3=> ?_⟩;have q1:=q H3 (s2.trans s3)
   unfold Tr.due at q1
   cases e1:x.due l with
   |none=>
    rw[e1] at q1
    exact⟨_,rfl,rfl,_,rfl,JZ ⟨_,rfl,q1⟩⟩
   |some i=>
    cases e2:y.due l with
    |none=>
     rw[e1,e2] at q1
     exact⟨_,rfl,rfl,_,rfl,Yt ⟨_,rfl,rfl,_,rfl,JZ ⟨_,rfl,q1⟩⟩⟩
    |some j=>
     rw[e1,e2] at q1
     exact⟨_,rfl,rfl,_,rfl,Yt ⟨_,rfl,rfl,_,rfl,Yt ⟨_,rfl,_,rfl,i,j,rfl,q1⟩⟩⟩
theorem Ziz:ZC ["_law_script","_law_k"] ["_law_script","_law_k"] (Zt Zcf):=⟨rfl,rfl,rfl,by decide+kernel,rfl,by decide+kernel,by decide+kernel⟩
theorem ZiA{f:Addr}{fd:FuncData}(F:Fun K "_law_cell_at" "_law_cell_at" Zcf f fd)(T:Txt K mg Zh Zf Zg Zb Zo):Yl P w K mg base CX0 1 f fd ["_law_script","_law_k"] (Zaf K):=by
 refine F.ok Ziz (fun vs H Q E h=> ?_) (fun cdv A outer s H vs Q E hr h=> ?_)
 ·obtain⟨a,ns,k,rfl,_⟩:=h
  rfl
 ·obtain⟨a,ns,k,rfl,hS,q⟩:=h;refine⟨_,(Ze (ZZ (Zq ZfG (pv 1) (ZS JP (by rfl) T.z_len Zce (Za (pv 0) Zj)) (Zv _)) (Zn (Zz (Zx YZ (pv 0) (pv 1) (fun _ _=>rfl)))) ZD) (Zn (Zz Zi))), ?_⟩;have q1:=q H (Zy.refl H);refine⟨_,rfl,_,rfl,_,_,rfl,.inl ⟨_,hS,rfl⟩,_,_,rfl,rfl,_,rfl,YQ (fun e=> ?_) (fun e=> ?_)⟩
  ·have e:(k:Int)<((ns.map V.int).length:Int):=of_decide_eq_true e;rw[List.length_map] at e
   have lt:k<ns.length:=by omega
   have ec:atI (ns.map V.int) (k:Int)=some (.int (ns[k]?.getD 0)):=by
    unfold atI ixN;rw[if_pos (by omega),List.length_map,if_pos e,Int.toNat_natCast];show(ns.map V.int)[k]? =_;rw[List.getElem?_map,List.getElem?_eq_getElem lt]
    rfl
   exact⟨_,rfl,_,rfl,a,_,_,_,rfl,rfl,hS,ec,q1⟩
  ·have e:¬(k:Int)<((ns.map V.int).length:Int):=fun z=>e (decide_eq_true z);rw[List.length_map] at e
   rw[List.getElem?_eq_none (by omega)] at q1
   exact q1
theorem ZcS:ZC ["_law_cell","_law_names_by","_law_number"] ["_law_cell","_law_names_by"] (Zt Zb5):=⟨rfl,rfl,rfl,by decide+kernel,rfl,by decide+kernel,by decide+kernel⟩
theorem ZgD{f:Addr}{fd:FuncData}(F:Fun K "_law_number_by" "_law_number_by" Zb5 f fd)(T:Txt K mg Zh Zf Zg Zb Zo):Yl P w K mg base CX0 1 f fd ["_law_cell","_law_names_by"] Zaz:=by
 refine F.ok ZcS (fun vs H Q E h=> ?_) (fun cdv A outer s H vs Q E hr h=> ?_)
 ·obtain⟨c,b,rfl,_⟩:=h
  rfl
 ·obtain⟨c,b,rfl,q⟩:=h;refine⟨_,(Ze (ZZ (Zq Ym (Zw ZW (Zw Yq (pv 1) Zi) Zi) Zi (Zv _)) (Zn (Zz (ZS Zhz (by rfl) T.z_abs Zmu (Za (pv 0) Zj)))) ZD) (Ze (Zu (i:=2) ZcS.nd rfl (Or.inl rfl) (Zw ZW (Zw XX (Zw ZaF (pv 0) Zi) Zi) Zi)) (Zn (Zz (Zw ZW (Zw ZaF (pv 2) Zi) Zi))))), ?_⟩;refine(vI rfl ⟨by decide,by decide⟩ ⟨_,_,rfl,rfl,(by show(0:Int)<2;decide),rfl,_,rfl,YQ (fun e=> ?_) (fun e=> ?_)⟩)
  ·exact⟨_,rfl,_,rfl,q _ H (by split<;>omega) (Zy.refl H)⟩
  ·refine(vI rfl (IntMulOk.of_right (intBits_le_64 (by decide) (by decide))) ⟨_,_,rfl,rfl,_,_,rfl,rfl,(by show(0:Int)<2305843009213693951;decide), ?_⟩)
   refine(vI rfl (IntMulOk.of_right (intBits_le_64 (by decide) (by decide))) ⟨_,_,rfl,rfl,(by show(0:Int)<2305843009213693951;decide), ?_⟩)
   exact q _ H (Int.emod_nonneg _ (by decide)) (Zy.refl H)
theorem ZnK:(Str.ofString "abcdefghijklmnopqrst").length=20:=by decide+kernel
theorem Zq8:(Str.ofString "xy").length=2:=by decide+kernel
theorem Zq9{z:Str}{i:Int}(h0:0<=i)(h1:i<z.length):∃c,atI z.cps.toList i=some c:=ZfS (xs:=z.cps.toList) (by omega) (by rw[Array.length_toList];exact h1)
theorem ZgE:ZC ["_law_number","_law_names_by"] ["_law_number","_law_names_by"] (Zt Zb4):=⟨rfl,rfl,rfl,by decide+kernel,rfl,by decide+kernel,by decide+kernel⟩
theorem ZgF{f:Addr}{fd:FuncData}(F:Fun K "_law_record_by" "_law_record_by" Zb4 f fd)(T:Txt K mg Zh Zf Zg Zb Zo)(Yi:Cal P w K mg base CX0 1 "_law_name_by" ["_law_cell","_law_k"] Jg):Yl P w K mg base CX0 2 f fd ["_law_number","_law_names_by"] Zay:=by
 refine F.ok ZgE (fun vs H Q E h=> ?_) (fun cdv A outer s H vs Q E hr h=> ?_)
 ·obtain⟨n,b,rfl,_⟩:=h
  rfl
 ·obtain⟨n,b,rfl,q⟩:=h;have l5:=Xe;refine⟨_,(Ze (ZZ (Zq Ym (Zw ZW (pv 1) Zi) Zi (Zv _)) (Zn (Zz (Zw ZeY (Zw ZeY ZK (Zx ZjS ZK (Zw ZW (pv 0) Zi) (fun _ _=>rfl))) (Zx ZjS ZK (Zw ZW (Zw Yq (pv 0) Zi) Zi) (fun _ _=>rfl))))) ZD) (Zn (Zz (ZV Yi (hr.mono (by omega)) rfl ZJ (Za (pv 1) (Za (Zw ZW (pv 0) Zi) Zj)))))), ?_⟩;refine(vI rfl (by show(0:Int)<4;decide) ⟨rfl,_,rfl,YQ (fun e=> ?_) (fun e=> ?_)⟩)
  ·obtain⟨c1,e1⟩:=Zq9 (z:=Str.ofString "abcdefghijklmnopqrst") (i:=n%20) (Int.emod_nonneg _ (by decide)) (by rw[ZnK];exact Int.emod_lt_of_pos _ (by decide))
   obtain⟨c2,e2⟩:=Zq9 (z:=Str.ofString "xy") (i:=n/20%2) (Int.emod_nonneg _ (by decide)) (by rw[Zq8];exact Int.emod_lt_of_pos _ (by decide))
   refine(vI rfl (by show(0:Int)<20;decide) ⟨_,_,_,rfl,rfl, ?_,e1,_,_,rfl,rfl, ?_, ?_⟩)
   ·rw[ZnK];omega
   ·show 1+1<=sizeLine;omega
   refine(vI rfl ⟨by decide,by decide⟩ ⟨_,_,rfl,rfl,(by show(0:Int)<2;decide),_,_,_,rfl,rfl, ?_,e2,_,_,rfl,rfl, ?_,q _ H (Zy.refl H)⟩)
   ·rw[Zq8];omega
   ·show _<=sizeLine;rw[ZqP];show 1+1+1<=sizeLine;omega
  ·exact⟨_,rfl,vI rfl (by show(0:Int)<5;decide) ⟨_,_,rfl,fun H' s=>q _ H' s⟩⟩
theorem Zm4{H H':Hp}{a:Addr}{xs:List V}(s:Zy H H')(h:SqL K H a xs):SqL K H' a xs:=h.imp (fun r=>r.imp (fun e=>s _ _ e) fun⟨o,e⟩=>⟨o,s _ _ e⟩) id
theorem ZnL:∀{rs:List Sr} {ns:List Str} {r:Sr},Zad ns rs->r.good->r.nm∉ns++rs.map Sr.nm->(∀e,r.el=some e->e∈ns++rs.map Sr.nm)->Zad ns (rs++[r])
 |[],ns,r,_,g,n,e=>by
  rw[List.map_nil,List.append_nil] at n e
  exact⟨g,n,e,trivial⟩
 |x::rs,ns,r,⟨h1,h2,h3,h4⟩,g,n,e=>by
  rw[List.map_cons,List.append_cons] at n e
  exact⟨h1,h2,h3,ZnL h4 g n e⟩
theorem Zlv.keep{H H':Hp}(s:∀b xs,H b=some (.tup xs)->H' b=some (.tup xs)){d:Addr}{r:Sr}:Zlv H d r->Zlv H' d r
 |⟨v,h,t⟩=>by
  refine⟨v,s _ _ h, ?_⟩
  revert t
  cases r.tm with
  |none=>exact fun t=>t
  |some x=>exact fun⟨a,e,t⟩=>⟨a,e,t.keep s⟩
theorem Zdw{H H':Hp}(s:∀b xs,H b=some (.tup xs)->H' b=some (.tup xs)):∀{ds:List Addr} {rs:List Sr},Paired (Zlv H) ds rs->Paired (Zlv H') ds rs
 |_,_,.nil=> .nil
 |_,_,.cons h t=> .cons (h.keep s) (Zdw s t)
theorem ZcT{α β:Type}{R:α->β->Prop}:∀{as:List α} {bs:List β} {a:α} {b:β},Paired R as bs->R a b->Paired R (as++[a]) (bs++[b])
 |_,_,_,_,.nil,r=> .cons r .nil
 |_,_,_,_,.cons h t,r=> .cons h (ZcT t r)
theorem ZnM(xs:List Int)(k:Int)(h:xs.length=3)(h0:0<=k)(h1:k<3):∃c∈xs,atI (xs.map V.int) k=some (.int c):=by
 obtain⟨c,m,e⟩:=ZhY (ns:=xs) (i:=k) (by omega) (by omega);exact⟨c,m,e⟩
theorem Yx:ZC ["_law_script","_law_names_by","_law_book","_law_shift","_law_most","_law_k","_law_cells","_law_tree","_law_elder"] ["_law_script","_law_names_by"] (Zt Zci):=⟨rfl,rfl,rfl,by decide+kernel,rfl,by decide+kernel,by decide+kernel⟩
theorem ZiB{f:Addr}{fd:FuncData}(F:Fun K "_law_book_by" "_law_book_by" Zci f fd)(T:Txt K mg Zh Zf Zg Zb Zo)(Xn:Cal P w K mg base CX0 1 "_law_cell_at" ["_law_script","_law_k"] (Zaf K))(Yi:Cal P w K mg base CX0 1 "_law_name_by" ["_law_cell","_law_k"] Jg)(Zcs:Cal P w K mg base CX0 2 "_law_tree_by" ["_law_cells","_law_names_by","_law_most"] ZbH):Yl P w K mg base CX0 3 f fd ["_law_script","_law_names_by"] (ZbJ K):=by
 refine F.ok Yx (fun vs H Q E h=> ?_) (fun cdv A outer s H vs Q E hr h=> ?_)
 ·obtain⟨a,ns,b,rfl,_⟩:=h
  rfl
 ·obtain⟨a,ns,b,rfl,hS,q⟩:=h;have l5:=Xe;have ha:=hS;refine⟨_,(Ze (Zu (i:=2) Yx.nd rfl (Or.inl rfl) (Yk Zj)) (Ze (Zu (i:=3) Yx.nd rfl (Or.inl rfl) (Zx YZ (Yk (Za Zi (Za Zi (Za Zi Zj)))) (Zw ZW (Zw Yq (pv 1) Zi) Zi) (fun _ _=>rfl))) (Ze (Zu (i:=4) Yx.nd rfl (Or.inl rfl) (Zx YZ (Yk (Za Zi (Za Zi (Za Zi Zj)))) (Zw ZW (Zw Yq (pv 1) Zi) Zi) (fun _ _=>rfl))) (Ze (Xi PassesOwn.never rfl (ZcB rfl T.z_range (Za (Zw XX Zi (Zw ZW (ZV Xn (hr.mono (by omega)) rfl ZJ (Za (pv 0) (Za Zi Zj))) Zi)) Zj)) (ZF (i:=5) Yx.nd rfl (Or.inr rfl)) (Ze (ZeC (i:=6) ["_law_j"] [("_law_script",0),("_law_k",5)] Yx.nd rfl (Or.inl rfl) rfl (ZcB rfl T.z_range (Za (Zw ZaF Zi (pv 4)) Zj)) (by rfl) (by exact⟨rfl,⟨rfl,trivial⟩⟩) (by rfl) (by exact⟨⟨rfl,rfl,rfl⟩,⟨⟨rfl,rfl,rfl⟩,trivial⟩⟩) (fun _ _ _ _=>(ZF (i:=0) (show(nmY ["_law_j"] [("_law_script",0),("_law_k",5)]).Nodup by decide+kernel) rfl (Or.inl rfl))) (fun _ _ _ _=>Zc1) (fun _ _ _ _=>(Zw Yq (ZV Xn (hr.mono (by omega)) rfl ZJ (Za (pv 1) (Za (Zw XX (Zw XX Zi (pv 2)) (Zw ZaF Zi (pv 0))) Zj))) (Zw XX Zi (pv 0))))) (Ze (Zu (i:=7) Yx.nd rfl (Or.inl rfl) (ZV Zcs (hr.mono (by omega)) rfl ZJ (Za (pv 6) (Za (pv 1) (Za (pv 4) Zj))))) (Ze (Zu (i:=8) Yx.nd rfl (Or.inl rfl) YB) (Ze (ZZ (PW.pt (Xz (Zq ZeS (pv 5) Zi (Zv _)) (YX (Zq ZeS (Zw ZW (Zw Yq (Zx YZ (pv 6) Zi (fun _ _=>rfl)) Zi) Zi) Zi (Zv _))))) (Zn (Zu (i:=8) Yx.nd rfl (Or.inl rfl) (Zx ZG (Zx YZ (pv 2) (Zw Zmg (Zw Zmg (pv 5) Zi) (Zw ZaF (Zw ZW (Zw Yq (Zx YZ (pv 6) Zi (fun _ _=>rfl)) Zi) (pv 5)) (Zbq Zey (by rfl) T.z_int Zk3 (Za (Za7 Ym (Zw ZW (Zx YZ (pv 6) Zi (fun _ _=>rfl)) Zi) Zi (Zv _)) Zj)))) (fun _ _=>rfl)) Zi (fun _ _=>rfl)))) ZD) (Ze (ZZ (PW.pt (Xz (Zq ZfH (pv 8) YB (Zv _)) (YX (Zq Ym (Zw ZW (Zw Yq (Zx YZ (pv 6) Zi (fun _ _=>rfl)) Zi) Zi) Zi (Zv _))))) (Zn (Zu (i:=7) Yx.nd rfl (Or.inl rfl) YB)) ZD) (Zn (Xh (ZaL PySem.F.plainAttrs_list PySem.F.slot_list_append PySem.F.type_list_append YC (pv 2) (Za (YK (Za (ZV Yi (hr.mono (by omega)) rfl ZJ (Za (pv 1) (Za (Zw XX (pv 3) (pv 5)) Zj))) (Za (pv 8) (Za (pv 7) Zj)))) Zj)))))))))) (Zn (Zz (pv 2))))))), ?_⟩
  obtain⟨sh,msh,esh⟩:=ZnM [0,3,4] (b/7%3) rfl (Int.emod_nonneg _ (by decide)) (Int.emod_lt_of_pos _ (by decide));obtain⟨mo,mmo,emo⟩:=ZnM [3,3,9] (b/21%3) rfl (Int.emod_nonneg _ (by decide)) (Int.emod_lt_of_pos _ (by decide));refine⟨Nat.zero_le _,fun L hL=> ?_⟩;obtain⟨mo,rfl,lo,hi⟩:∃m:Nat,mo=(m:Int)/\3<=m/\m<=9:=by
   simp only [List.mem_cons,List.mem_nil_iff,or_false] at mmo
   rcases mmo with rfl|rfl|rfl
   ·exact⟨3,rfl,by decide,by decide⟩
   ·exact⟨3,rfl,by decide,by decide⟩
   ·exact⟨9,rfl,by decide,by decide⟩
  have hsh:0<=sh/\sh<=4:=by
   simp only [List.mem_cons,List.mem_nil_iff,or_false] at msh
   rcases msh with rfl|rfl|rfl<;>decide
  refine⟨(show 3<=sizeLine from sl),fun p1 hp1=>vI rfl ⟨by decide,by decide⟩ ⟨_,_,rfl,rfl,(by show(0:Int)<3;decide),p1,_,_,_,rfl,rfl,SqL.of Zc,esh, ?_⟩⟩
  refine⟨(show 3<=sizeLine from sl),fun p2 hp2=>vI rfl ⟨by decide,by decide⟩ ⟨_,_,rfl,rfl,(by show(0:Int)<3;decide),p2,_,_,_,rfl,rfl,SqL.of Zc,emo, ?_⟩⟩
  have s0:=(Zk hL (o:=.lst [])).trans ((Zk hp1 (o:=.lst [.int 0,.int 3,.int 4])).trans (Zk hp2 (o:=.lst [.int 3,.int 3,.int 9])));refine⟨_,rfl,a,ns,1,rfl,Zm4 s0 hS,fun H1 s1=>⟨_,_,rfl,rfl,(by show(0:Int)<8;decide),_,_,rfl,rfl, ?_⟩⟩
  have c0:=Int.emod_nonneg (ns[1]?.getD 0) (show(8:Int)≠0 by decide);have c1:=Int.emod_lt_of_pos (ns[1]?.getD 0) (show(0:Int)<8 by decide);have hL1:=s1 _ _ ((Zk hp2 (o:=.lst [.int 3,.int 3,.int 9])) _ _ ((Zk hp1 (o:=.lst [.int 0,.int 3,.int 4])) _ _ (Zc (H:=H) (a:=L) (o:=.lst []))));refine⟨_,rfl,by omega,by omega,Zj6 (fun i σ H'=>∃(ds:List Addr) (rs:List Sr) (v5 v6 v7 v8:Option V),σ=[some (.ref a),some (.int b),some (.ref L),some (.int sh),some (.int (mo:Int)),v5,v6,v7,v8]/\H' L=some (.lst (ds.map V.ref))/\Paired (Zlv H') ds rs/\rs.length=i/\Zad [] rs/\(∀(j:Nat) r,rs[j]? =some r->r.nm=Zbh b (sh+(j:Int)))/\Zy H H') ?_ ?_ ?_⟩
  ·exact⟨[],[],none,none,none,none,rfl,hL1,.nil,rfl,trivial,(fun j r hj=>by simp at hj),s0.trans s1⟩
  ·rintro i σ H2 hi2 ⟨ds,rs,v5,v6,v7,v8,rfl,hl2,pr,lr,bk,nms,s2⟩;have hi3:i<8:=by omega
   have le:=Paired.length pr;refine⟨_,rfl,_,_,rfl,rfl,IntMulOk.of_right (intBits_le_64 (by omega) (by omega)),_,rfl,by omega,by omega,Xa (2*mo) (fun j=>[V.int (ns[2+i+5*j]?.getD 0/(1+(j:Int)))]) (by omega) (fun j=>Nat.le_refl 1) (fun j H3 s3 lt=> ?_) (fun H3 s3=> ?_) (fun j y H3 H4 s3 lt yl RT RF rt rf=> ?_) fun D H3 hD s3 d3=> ?_⟩
   ·show j<(2*(mo:Int)).toNat;omega
   ·show(2*(mo:Int)).toNat<=2*mo;omega
   ·obtain⟨rfl,rfl⟩:=yl;refine⟨⟨rfl,rfl,trivial⟩,Zji ?_⟩;refine⟨_,rfl,_,rfl,_,_,rfl,rfl,_,rfl,_,_,rfl,rfl,IntMulOk.of_right (intBits_le_64 (by omega) (by omega)),_,_,rfl,rfl,a,ns,2+i+5*j, ?_,Zm4 (s2.trans s3) hS,fun H5 s5=>⟨_,rfl,_,_,rfl,rfl,_,_,rfl,rfl,⟨by omega,by omega⟩,rt _ _ ?_ s5⟩⟩
    ·have z:2+(0+(i:Int))+5*(0+(j:Int))=((2+i+5*j:Nat):Int):=by omega
     show[V.ref a,V.int (2+(0+(i:Int))+5*(0+(j:Int)))]=_;rw[z]
    ·rw[show 0+(j:Int)=(j:Int) by omega]
   ·rw[Jm] at d3
    have d4:H3 D=some (.lst (((List.range (2*mo)).map fun j=>ns[2+i+5*j]?.getD 0/(1+(j:Int))).map V.int)):=by rw[d3,List.map_map];rfl
    generalize ecs:((List.range (2*mo)).map fun j=>ns[2+i+5*j]?.getD 0/(1+(j:Int)))=cells at d4
    have lcs:cells.length=2*mo:=by rw[<-ecs,List.length_map,List.length_range]
    refine⟨_,rfl,_,rfl,_,rfl,D,cells,b,mo,rfl,d4,by omega,by omega,by omega,fun tp t H4 s4 ht hc hg=> ?_⟩;have hl4:=s4 _ _ (s3 _ _ hl2);have d5:=s4 _ _ d4;have pr4:Paired (Zlv H4) ds rs:=Zdw (fun b xs e=>s4 _ _ (s3 _ _ e)) pr;obtain⟨x0,_,e0⟩:=ZhY (ns:=cells) (i:=0) (by omega) (by omega);obtain⟨x1,_,e1⟩:=ZhY (ns:=cells) (i:=1) (by omega) (by omega);refine(fun(rest:∀σ':L2.St,(∃o:Option Str,(∀e,o=some e->e∈rs.map Sr.nm)/\σ'=[some (.ref a),some (.int b),some (.ref L),some (.int sh),some (.int (mo:Int)),some (.int (0+(i:Int))),some (.ref D),some (.ref tp),some (oS o)])->(_:L2.St->Hp->Prop) σ' H4)=>
     (⟨_,rfl,_,_,rfl,rfl,_,rfl,ZjH (fun e=>Yt (rest _ ⟨none,(fun _ z=>nomatch z),rfl⟩)) (fun e=> ?_)⟩)) ?rest
    case rest=>
     rintro σ' ⟨o,ho,rfl⟩;refine(fun(rest:∀σ':L2.St,(∃(tm:Option Tr) (v:V),Zt4 H4 tm v/\(o=none->tm≠none)/\(∀t,tm=some t->t.good/\t.cnt<=9)/\σ'=[some (.ref a),some (.int b),some (.ref L),some (.int sh),some (.int (mo:Int)),some (.int (0+(i:Int))),some (.ref D),some v,some (oS o)])->(_:L2.St->Hp->Prop) σ' H4)=>
      (⟨_,rfl,rfl,_,rfl,ZjH (fun e=>Yt (rest _ ⟨some t,.ref tp,⟨tp,rfl,ht⟩,(fun _ z=>nomatch z),(fun t' z=>by cases z;exact⟨hg,by omega⟩),rfl⟩)) (fun e=> ?_)⟩)) ?rest
     case rest=>
      rintro σ' ⟨tm,v,hv,hn,hgd,rfl⟩;refine⟨_,rfl,.inl ⟨rfl,_,SqL.of hl4⟩,_,rfl,_,rfl,_,rfl,_,_,rfl,rfl,b,sh+(0+(i:Int)),rfl,fun H5 s5=>⟨_,rfl,_,rfl,(show 3<=sizeLine from sl),fun d hd=> ?_⟩⟩;have hl5:=s5 _ _ hl4;have nLd:L≠d:=Zd hl5 hd;refine⟨L,_,V.ref d,rfl,rfl,by rw[Zm nLd];exact hl5,(by rw[List.length_map];omega), ?_⟩
      have kp:∀c u,c≠L->H4 c=some u->upd (upd H5 d (.tup [.str (Zbh b (sh+(0+(i:Int)))),oS o,v])) L (.lst (ds.map V.ref++[.ref d])) c=some u:=fun c u n e=>by
       rw[Zm n,Zm (Zd (s5 _ _ e) hd)];exact s5 _ _ e
      have kt:∀c xs,H4 c=some (.tup xs)->upd (upd H5 d (.tup [.str (Zbh b (sh+(0+(i:Int)))),oS o,v])) L (.lst (ds.map V.ref++[.ref d])) c=some (.tup xs):=fun c xs e=>kp c _ (Yj e hl4 (fun z=>nomatch z)) e;have nmE:Zbh b (sh+(0+(i:Int)))=Zbh b (sh+(i:Int)):=by rw[show(0:Int)+(i:Int)=(i:Int) by omega]
      refine⟨ds++[d],rs++[⟨Zbh b (sh+(i:Int)),o,tm⟩],_,_,_,_,rfl,by rw[Zc,List.map_append];rfl,ZcT (Zdw kt pr4) ⟨v, ?_, ?_⟩, ?_,ZnL bk ⟨Zlt _ _, ?_,hgd,hn⟩ ?_ ?_, ?_, ?_⟩
      ·rw[Zm (Ne.symm nLd),Zc,nmE]
      ·revert hv
       cases tm with
       |none=>exact fun z=>z
       |some x=>exact fun⟨a,e,z⟩=>⟨a,e,z.keep kt⟩
      ·rw[List.length_append,lr];rfl
      ·intro e he;obtain⟨r,hr,rfl⟩:=List.mem_map.mp (ho e he);exact(ZfY bk r hr).nm
      ·rw[List.nil_append];intro z;obtain⟨r,hr,er⟩:=List.mem_map.mp z;obtain⟨j,hj⟩:=List.getElem?_of_mem hr;have lj:j<rs.length:=(List.getElem?_eq_some_iff.mp hj).1;have:=nms j r hj;have:=Zoh (n:=b) (by omega) (by omega) (by omega) (by omega) (er.symm.trans this);omega
      ·rw[List.nil_append];exact ho
      ·intro j r hj
       by_cases lj:j<rs.length
       ·rw[List.getElem?_append_left lj] at hj
        exact nms j r hj
       ·rw[List.getElem?_append_right (by omega)] at hj
        have z:j-rs.length=0:=by
         have:=(List.getElem?_eq_some_iff.mp hj).1;rw[List.length_singleton] at this
         omega
        rw[z] at hj
        cases hj;rw[show j=i by omega]
      ·exact fun c u e=>kp c u (Zd e hL) (s4 _ _ (s3 _ _ (s2 _ _ e)))
     ·refine⟨_,rfl,D,_,_,_,rfl,rfl,SqL.of d5,e1,_,_,rfl,rfl,⟨by decide,by decide⟩,_,_,rfl,rfl,(by show(0:Int)<2;decide),rfl,_,rfl,ZjH (fun e=>rest _ ⟨some t,.ref tp,⟨tp,rfl,ht⟩,(fun _ z=>nomatch z),(fun t' z=>by cases z;exact⟨hg,by omega⟩),rfl⟩) (fun _=> ?_)⟩
      refine rest _ ⟨none,.non,rfl, ?_,(fun _ z=>nomatch z),rfl⟩;rintro rfl;cases e
    ·have ei:(0:Int)<0+(i:Int):=of_decide_eq_true e;refine⟨_,rfl,D,_,_,_,rfl,rfl,SqL.of d5,e0,_,_,rfl,rfl,⟨by decide,by decide⟩,_,_,rfl,rfl,(by show(0:Int)<4;decide),_,_,rfl,rfl,_,rfl,ZjH (fun e=>rest _ ⟨none,(fun _ z=>nomatch z),rfl⟩) (fun e=> ?_)⟩
     have m0:=Int.emod_nonneg (x0/12) (show(0+(i:Int))≠0 by omega);have m1:=Int.emod_lt_of_pos (x0/12) ei;have b0:0<=x0/12%(0+(i:Int))*(if decide (V.int (x1%3)=V.int 0)=true then 1 else 0):=by split<;>omega
     have b1:x0/12%(0+(i:Int))*(if decide (V.int (x1%3)=V.int 0)=true then 1 else 0)<(i:Int):=by split<;>omega
     obtain⟨v,ev⟩:=ZfS (xs:=ds.map V.ref) (i:=0+(i:Int)-1-x0/12%(0+(i:Int))*(if decide (V.int (x1%3)=V.int 0)=true then 1 else 0)) (by rw[List.length_map];omega) (by rw[List.length_map];omega)
     obtain⟨j,_,hj,_⟩:=ZeA ev;obtain⟨dd,rfl,hdd⟩:=Xb hj;obtain⟨r,er,u,row,_⟩:=Ye pr4 j dd hdd;exact⟨_,rfl,_,rfl,_,_,rfl,rfl,_,rfl,D,_,_,_,rfl,rfl,SqL.of d5,e0,_,_,rfl,rfl,⟨by decide,by decide⟩,_,rfl,_,_,rfl,rfl,ei,_,rfl,D,_,_,_,rfl,rfl,SqL.of d5,e1,_,_,rfl,rfl,(by show(0:Int)<3;decide),rfl,.inr ⟨_,rfl,_,_,rfl,rfl,IntMulOk.of_right (intBits_le_64 (by split<;>decide) (by split<;>decide)),_,_,rfl,rfl,L,_,_,_,rfl,rfl,SqL.of hl4,ev,dd,_,_,_,rfl,rfl,SqT.of row,rfl,rest _ ⟨some r.nm,(fun z hz=>by cases hz;exact List.mem_map_of_mem (List.mem_of_getElem? er)),rfl⟩⟩⟩
  ·rintro σ H2 ⟨ds,rs,v5,v6,v7,v8,rfl,hl2,pr,lr,bk,nms,s2⟩;exact⟨_,rfl,q L rs H2 hL s2 ⟨ds,hl2,pr⟩ bk (by omega) (by omega)⟩
theorem Zap:ZC ["_law_book","_law_some","_law_name","_law_elder","_law_tree"] ["_law_book"] (Zt ZdT):=⟨rfl,rfl,rfl,by decide+kernel,rfl,by decide+kernel,by decide+kernel⟩
theorem ZkU{f:Addr}{fd:FuncData}(F:Fun K "_law_terms" "_law_terms" ZdT f fd)(T:Txt K mg Zh Zf Zg Zb Zo)(JB:Cal P w K mg base CX0 16 "_law_made" ["_law_tree"] (ZaQ Zh Zf Zg Zb 12)):Yl P w K mg base CX0 17 f fd ["_law_book"] (Zdk Zh Zf Zg Zb):=by
 refine F.ok Zap (fun vs H Q E h=> ?_) (fun cdv A outer s H vs Q E hr h=> ?_)
 ·obtain⟨p,rs,rfl,_⟩:=h
  rfl
 ·obtain⟨p,rs,rfl,⟨ds,hp,pr⟩,lr,gd,q⟩:=h;have l5:=Xe;have le:=Paired.length pr;refine⟨_,(Ze (Zu (i:=1) Zap.nd rfl (Or.inl rfl) (Yk Zj)) (Ze (Xi PassesOwn.never rfl (Yb (pv 0)) (Zgf rfl (Xp (ZF (i:=2) Zap.nd rfl (Or.inl rfl)) (Xp (ZF (i:=3) Zap.nd rfl (Or.inl rfl)) (Xp (ZF (i:=4) Zap.nd rfl (Or.inl rfl)) ZcZ)))) (Zn (Xh (ZaL PySem.F.plainAttrs_list PySem.F.slot_list_append PySem.F.type_list_append YC (pv 1) (Za (YK (Za (pv 2) (Za (pv 3) (Za (Zl8 (Zq Zcd (pv 4) YB (Zv _)) YB (ZV JB (hr.mono (by omega)) rfl ZJ (Za (pv 4) Zj))) Zj)))) Zj))))) (Zn (Zz (pv 1))))), ?_⟩
  refine⟨Nat.zero_le _,fun S hS=>⟨_,rfl,p,rfl,⟨_,SqL.of (Zk hS _ _ hp)⟩,YH (xs:=ds.map V.ref) (fun i σ H'=>∃(es:List Addr) (v2 v3 v4:Option V),σ=[some (.ref p),some (.ref S),v2,v3,v4]/\H' S=some (.lst (es.map V.ref))/\Paired (ZcK Zh Zf Zg Zb H') es (rs.take i)/\Zy H H') ?_ ?_ ?_ ?_⟩⟩
  ·exact⟨[],none,none,none,rfl,Zc,.nil,Zk hS⟩
  ·rintro i σ H1 _ ⟨es,v2,v3,v4,rfl,_,_,s1⟩;exact SqL.of (s1 _ _ hp)
  ·rintro i x σ H1 hx ⟨es,v2,v3,v4,rfl,hs,ps,s1⟩;obtain⟨d,rfl,ed⟩:=Xb hx;obtain⟨r,er,v,row,tr⟩:=Ye (Zdw (fun b xs e=>s1 _ _ e) pr) i d ed;have hi:i<rs.length:=(List.getElem?_eq_some_iff.mp er).1;have tk:rs.take (i+1)=rs.take i++[r]:=by rw[List.take_add_one,er];rfl
   have lt:=List.length_take_le i rs;have les:=Paired.length ps;rw[tk];have fin:∀v H2 dd,Zy H1 H2->Zt3 Zh Zf Zg Zb H2 r.tm v->H2 dd=none->∃H3,H3=upd (upd H2 dd (.tup [.str r.nm,oS r.el,v])) S (.lst (es.map V.ref++[.ref dd]))/\H3 S=some (.lst ((es++[dd]).map V.ref))/\Paired (ZcK Zh Zf Zg Zb H3) (es++[dd]) (rs.take i++[r])/\Zy H H3:=fun v H2 dd s2 tv hd=>by
    have nS:S≠dd:=Zd (s2 _ _ hs) hd;have kp:∀c u,c≠S->H2 c=some u->upd (upd H2 dd (.tup [.str r.nm,oS r.el,v])) S (.lst (es.map V.ref++[.ref dd])) c=some u:=fun c u n e=>by
     rw[Zm n,Zm (Zd e hd)];exact e
    refine⟨_,rfl,by rw[Zc,List.map_append];rfl,ZcT (ZeF (fun c xs e=>kp c _ (Yj e hs (fun z=>nomatch z)) (s2 _ _ e)) (fun c C dx fs e=>kp c _ (Yj e hs (fun z=>nomatch z)) (s2 _ _ e)) ps) ⟨v,by rw[Zm (Ne.symm nS),Zc], ?_⟩,fun c u e=>kp c u (Zd e hS) (s2 _ _ (s1 _ _ e))⟩
    revert tv
    cases r.tm with
    |none=>exact fun z=>z
    |some x=>exact fun⟨a,e,z⟩=>⟨a,e,z.keep fun c C dx fs e=>kp c _ (Yj e (s2 _ _ hs) (fun z=>nomatch z)) e⟩
   refine⟨d,_,rfl,SqT.of row,rfl,_,_,rfl,_,_,rfl,_,_,rfl,rfl, ?_⟩;have lse:(es.map V.ref).length<sizeLine:=by rw[List.length_map];omega
   refine⟨_,rfl,.inl ⟨rfl,_,SqL.of hs⟩,_,rfl,_,rfl, ?_⟩;cases et:r.tm with
   |none=>
    rw[et] at tr
    have tr:v=.non:=tr;subst tr;refine⟨_,rfl,rfl,_,rfl,Zcl rfl ⟨(show 3<=sizeLine from sl),fun dd hd=> ?_⟩⟩;obtain⟨H3,e3,f1,f2,f3⟩:=fin .non H1 dd (Zy.refl _) (by rw[et];rfl) hd
    refine⟨S,_,V.ref dd,rfl,rfl,by rw[Zm (Zd hs hd)];exact hs,lse, ?_⟩
    rw[<-e3];exact⟨es++[dd],_,_,_,rfl,f1,f2,f3⟩
   |some t=>
    rw[et] at tr
    obtain⟨a,rfl,ta⟩:=tr;have g:=((gd r (List.mem_of_getElem? er)).tm t et)
    have dc:=Tr.deep_cnt t;refine⟨_,rfl,rfl,_,rfl,YJ (fun z=>nomatch z) ⟨_,rfl,a,t,rfl,ta,by omega,fun p2 H2 s2 ht=>⟨(show 3<=sizeLine from sl),fun dd hd=> ?_⟩⟩⟩;obtain⟨H3,e3,f1,f2,f3⟩:=fin (.ref p2) H2 dd s2 (by rw[et];exact⟨p2,rfl,ht⟩) hd
    refine⟨S,_,V.ref dd,rfl,rfl,by rw[Zm (Zd (s2 _ _ hs) hd)];exact s2 _ _ hs,lse, ?_⟩
    rw[<-e3];exact⟨es++[dd],_,_,_,rfl,f1,f2,f3⟩
  ·rintro σ H1 ⟨es,v2,v3,v4,rfl,hs,ps,s1⟩;rw[List.length_map,le,List.take_length] at ps
   exact⟨_,rfl,q S H1 hS s1 ⟨es,hs,ps⟩⟩
theorem Zft{H H':Hp}(s:Zy H H'):∀{ds:List Addr} {rs:List Sr},Paired (ZqS H) ds rs->Paired (ZqS H') ds rs
 |_,_,.nil=> .nil
 |_,_,.cons ⟨v,h,z⟩ t=> .cons ⟨v,s _ _ h,z⟩ (Zft s t)
theorem Zm5{cn ca cl ce:Addr}{H:Hp}:∀{ds:List Addr} {rs:List Sr},Paired (ZcK cn ca cl ce H) ds rs->Paired (ZqS H) ds rs
 |_,_,.nil=> .nil
 |_,_,.cons ⟨v,h,_⟩ t=> .cons ⟨v,h,trivial⟩ (Zm5 t)
theorem two_ints(x y:Int){k:Int}(h0:0<=k)(h1:k<2):∃c,atI [V.int x,V.int y] k=some (.int c):=by
 have e:k=0\/k=1:=by omega
 rcases e with rfl|rfl
 ·exact⟨x,rfl⟩
 ·exact⟨y,rfl⟩
theorem two_strs(x y:Str)(b:Bool):∃c,atI [V.str x,V.str y] (if b=true then 1 else 0)=some (.str c):=by
 cases b
 ·exact⟨x,rfl⟩
 ·exact⟨y,rfl⟩
theorem Znc{s:Str}{ns:List Str}(h:s∈ns):∀n∈[s],n∈ns:=fun n m=>by rw[List.mem_singleton.mp m];exact h
theorem Xc:ZC ["_law_cell","_law_names_by","_law_far","_law_book","_law_number","_law_way","_law_record","_law_series","_law_kind","_law_hold","_law_day"] ["_law_cell","_law_names_by","_law_far","_law_book"] (Zt Zdb):=⟨rfl,rfl,rfl,by decide+kernel,rfl,by decide+kernel,by decide+kernel⟩
theorem Zj4{f:Addr}{fd:FuncData}(F:Fun K "_law_row_by" "_law_row_by" Zdb f fd)(T:Txt K mg Zh Zf Zg Zb Zo)(Yi:Cal P w K mg base CX0 1 "_law_name_by" ["_law_cell","_law_k"] Jg)(Zb9:Cal P w K mg base CX0 1 "_law_number_by" ["_law_cell","_law_names_by"] Zaz)(Zba:Cal P w K mg base CX0 2 "_law_record_by" ["_law_number","_law_names_by"] Zay):Yl P w K mg base CX0 3 f fd ["_law_cell","_law_names_by","_law_far","_law_book"] Zcr:=by
 refine F.ok Xc (fun vs H Q E h=> ?_) (fun cdv A outer s H vs Q E hr h=> ?_)
 ·obtain⟨c,b,far,p,rs,rfl,_⟩:=h
  rfl
 ·obtain⟨c,b,far,p,rs,rfl,⟨ds,hp,pr⟩,lo,hi,q⟩:=h;have l5:=Xe;have le:=Paired.length pr;refine⟨_,(Ze (Zu (i:=4) Xc.nd rfl (Or.inl rfl) (ZV Zb9 (hr.mono (by omega)) rfl ZJ (Za (pv 0) (Za (pv 1) Zj)))) (Ze (Zu (i:=5) Xc.nd rfl (Or.inl rfl) (Zw ZW (pv 4) Zi)) (Ze (Zu (i:=6) Xc.nd rfl (Or.inl rfl) (ZV Zba (hr.mono (by omega)) rfl ZJ (Za (Zw ZW (Zw Yq (pv 4) Zi) Zi) (Za (pv 1) Zj)))) (Ze (Zu (i:=7) Xc.nd rfl (Or.inl rfl) (Zx ZG (Zx YZ (pv 3) (Zw ZW (Zw Yq (pv 4) Zi) (ZS JP (by rfl) T.z_len Zce (Za (pv 3) Zj))) (fun _ _=>rfl)) Zi (fun _ _=>rfl))) (Ze (Zu (i:=4) Xc.nd rfl (Or.inl rfl) (Zw Yq (Zw Yq (pv 4) Zi) (ZS JP (by rfl) T.z_len Zce (Za (pv 3) Zj)))) (Ze (Zu (i:=8) Xc.nd rfl (Or.inl rfl) (ZV Yi (hr.mono (by omega)) rfl ZJ (Za (pv 1) (Za (Zw ZW (pv 4) Zi) Zj)))) (Ze (Zu (i:=9) Xc.nd rfl (Or.inl rfl) (ZV Yi (hr.mono (by omega)) rfl ZJ (Za (pv 1) (Za (Zw ZW (Zw Yq (pv 4) Zi) Zi) Zj)))) (Ze (Zu (i:=10) Xc.nd rfl (Or.inl rfl) (Zw XX (pv 2) (Zx YZ (Yk (Za (Zw ZW (Zw Yq (pv 4) Zi) Zi) (Za (Zw ZW (Zw Yq (pv 4) Zi) Zi) Zj))) (Zw ZW (Zw Yq (pv 4) Zi) Zi) (fun _ _=>rfl)))) (Ze (ZZ (PW.pt (ZgO (Zq ZfG (pv 5) Zi (Zv _)) (ZeX (PW.pt (Xz (Zq Ym (Zw ZW (pv 1) Zi) Zi (Zv _)) (YX (Zq ZfG (pv 5) Zi (Zv _)))))))) (Zn (Zz (YK (Za ZK (Za (pv 6) (Za (pv 7) (Za (pv 10) Zj))))))) ZD) (Ze (ZZ (Zq ZfG (pv 5) Zi (Zv _)) (Zn (Zz (YK (Za ZK (Za (pv 6) (Za (pv 7) (Za (pv 10) Zj))))))) ZD) (Ze (ZZ (Zq ZfG (pv 5) Zi (Zv _)) (Zn (Zz (YK (Za ZK (Za (pv 6) (Za (Zx YZ (Yk (Za (pv 8) (Za ZK Zj))) (Zbq Zey (by rfl) T.z_int Zk3 (Za (Za7 Ym (Zw ZW (Zw Yq (pv 4) Zi) Zi) Zi (Zv _)) Zj)) (fun _ _=>rfl)) (Za (pv 10) Zj))))))) ZD) (Ze (ZZ (Zq Ym (pv 5) Zi (Zv _)) (Zn (Zz (YK (Za ZK (Za (pv 9) (Za (pv 10) Zj)))))) ZD) (Ze (ZZ (Zq Ym (pv 5) Zi (Zv _)) (Zn (Zz (YK (Za ZK (Za (pv 9) (Za ZK (Za (pv 6) (Za (pv 10) Zj)))))))) ZD) (Zn (Zz (YK (Za ZK (Za (pv 9) (Za ZK (Za (pv 7) (Za (pv 10) Zj))))))))))))))))))))), ?_⟩
  refine⟨_,rfl,_,rfl,c,b,rfl,fun n H1 n0 s1=> ?_⟩;refine(vI rfl (by show(0:Int)<11;decide) ?_)
  refine(vI rfl ⟨by decide,by decide⟩ ⟨_,_,rfl,rfl,(by show(0:Int)<40;decide),_,rfl,_,_,rfl,fun z H2 s2=> ?_⟩)
  have hp2:=s2 _ _ (s1 _ _ hp);have pl:(0:Int)<(((ds.map V.ref).length:Nat):Int):=by rw[List.length_map];omega
  have i0:=Int.emod_nonneg (n/440) (Int.ne_of_gt pl);have i1:=Int.emod_lt_of_pos (n/440) pl;obtain⟨v,ev⟩:=ZfS (xs:=ds.map V.ref) (i:=n/440%(((ds.map V.ref).length:Nat):Int)) (by omega) i1;obtain⟨j,_,hj,_⟩:=ZeA ev;obtain⟨dd,rfl,hdd⟩:=Xb hj;obtain⟨r,er,u,row,_⟩:=Ye (Zft (s1.trans s2) pr) j dd hdd;have rin:r.nm∈rs.map Sr.nm:=List.mem_map_of_mem (List.mem_of_getElem? er);refine⟨_,rfl,vI rfl ⟨by decide,by decide⟩ ⟨_,rfl,_,_,rfl,.inl ⟨_,SqL.of hp2,rfl⟩,_,_,rfl,rfl,pl,p,_,_,_,rfl,rfl,SqL.of hp2,ev,dd,_,_,_,rfl,rfl,SqT.of row,rfl, ?_⟩⟩
  refine(vI rfl ⟨by decide,by decide⟩ ⟨_,rfl,_,_,rfl,.inl ⟨_,SqL.of hp2,rfl⟩,_,_,rfl,rfl,⟨pl,by rw[List.length_map];omega⟩, ?_⟩)
  refine⟨_,rfl,vI rfl (by show(0:Int)<9;decide) ⟨_,_,rfl,fun H3 s3=> ?_⟩⟩
  refine⟨_,rfl,vI rfl ⟨by decide,by decide⟩ ⟨_,_,rfl,rfl,(by show(0:Int)<5;decide),_,_,rfl,fun H4 s4=> ?_⟩⟩
  obtain⟨e,ee⟩:=two_ints ((n/440/(((ds.map V.ref).length:Nat):Int))/90%900) ((n/440/(((ds.map V.ref).length:Nat):Int))/90%4000) (Int.emod_nonneg ((n/440/(((ds.map V.ref).length:Nat):Int))/45) (by decide)) (Int.emod_lt_of_pos ((n/440/(((ds.map V.ref).length:Nat):Int))/45) (by decide));refine⟨_,rfl,vI rfl ⟨by decide,by decide⟩ ⟨_,_,rfl,rfl,(by show(0:Int)<900;decide),vI rfl ⟨by decide,by decide⟩ ⟨_,_,rfl,rfl,(by show(0:Int)<4000;decide),(show 2<=sizeLine from sl),fun t0 ht0=>vI rfl ⟨by decide,by decide⟩ ⟨_,_,rfl,rfl,(by show(0:Int)<2;decide),t0,_,_,_,rfl,rfl,SqL.of Zc,ee,_,_,rfl,rfl, ?_⟩⟩⟩⟩
  have s5:=s1.trans (s2.trans (s3.trans (s4.trans (Zk ht0 (o:=.lst [.int ((n/440/(((ds.map V.ref).length:Nat):Int))/90%900),.int ((n/440/(((ds.map V.ref).length:Nat):Int))/90%4000)])))));refine(fun put rest=>⟨_,rfl,_,_,rfl,rfl,_,rfl,YQ (fun _=>JZ put) (fun _=>vI rfl (by show(0:Int)<4;decide) ⟨rfl,_,rfl,YQ (fun _=>⟨_,rfl,_,_,rfl,rfl,_,rfl,YQ (fun _=>put) (fun _=>rest)⟩) (fun _=>Yt rest)⟩)⟩) ?put ?rest
  case put=>exact⟨_,rfl,_,rfl,_,rfl,(show 4<=sizeLine from sl),fun d hd=>q (.put z r.nm (far+e)) d _ (s5.trans (Zk hd)) Zc (Znc rin)⟩
  case rest=>
   refine⟨_,rfl,_,_,rfl,rfl,_,rfl,YQ (fun _=> ?_) (fun _=> ?_)⟩
   ·exact⟨_,rfl,_,rfl,_,rfl,(show 4<=sizeLine from sl),fun d hd=>q (.move z r.nm (far+e)) d _ (s5.trans (Zk hd)) Zc (Znc rin)⟩
   refine⟨_,rfl,_,_,rfl,rfl,_,rfl,YQ (fun _=> ?_) (fun _=> ?_)⟩
   ·obtain⟨kd,ek⟩:=two_strs (Zbh b ((n/440/(((ds.map V.ref).length:Nat):Int))%9)) (Str.ofString "put") (decide (V.int ((n/440/(((ds.map V.ref).length:Nat):Int))/360000%9)=V.int 7));refine⟨_,rfl,_,rfl,(show 2<=sizeLine from sl),fun t1 ht1=>vI rfl ⟨by decide,by decide⟩ ⟨_,_,rfl,rfl,(by show(0:Int)<9;decide),rfl,.inr ⟨_,rfl,t1,_,_,_,rfl,rfl,SqL.of Zc,ek,_,rfl,(show 4<=sizeLine from sl),fun d hd=>q (.deed z kd (far+e)) d _ (s5.trans ((Zk ht1).trans (Zk hd))) Zc (fun _ z=>nomatch z)⟩⟩⟩
   refine⟨_,rfl,rfl,_,rfl,YQ (fun _=> ?_) (fun _=> ?_)⟩
   ·exact⟨_,rfl,_,rfl,(show 3<=sizeLine from sl),fun d hd=>q (.lift _ (far+e)) d _ (s5.trans (Zk hd)) Zc (fun _ z=>nomatch z)⟩
   refine⟨_,rfl,rfl,_,rfl,YQ (fun _=> ?_) (fun _=> ?_)⟩
   ·exact⟨_,rfl,_,rfl,_,rfl,(show 5<=sizeLine from sl),fun d hd=>q (.hold _ true z (far+e)) d _ (s5.trans (Zk hd)) Zc (fun _ z=>nomatch z)⟩
   ·exact⟨_,rfl,_,rfl,_,rfl,(show 5<=sizeLine from sl),fun d hd=>q (.hold _ false r.nm (far+e)) d _ (s5.trans (Zk hd)) Zc (Znc rin)⟩
theorem Zqa:∀w:Rw,Jr w.vs none (some 2)=[.str w.word,.str w.one]
 | .put _ _ _=>rfl
 | .move _ _ _=>rfl
 | .deed _ _ _=>rfl
 | .lift _ _=>rfl
 | .hold _ _ _ _=>rfl
theorem ZjK:∀w:Rw,¬(HT.sIx w.vs.length 0 none=0/\HT.sIx w.vs.length w.vs.length (some 2)=w.vs.length)
 | .put _ _ _=>by show¬(HT.sIx 4 0 none=0/\HT.sIx 4 4 (some 2)=4);decide
 | .move _ _ _=>by show¬(HT.sIx 4 0 none=0/\HT.sIx 4 4 (some 2)=4);decide
 | .deed _ _ _=>by show¬(HT.sIx 4 0 none=0/\HT.sIx 4 4 (some 2)=4);decide
 | .lift _ _=>by show¬(HT.sIx 3 0 none=0/\HT.sIx 3 3 (some 2)=3);decide
 | .hold _ _ _ _=>by show¬(HT.sIx 5 0 none=0/\HT.sIx 5 5 (some 2)=5);decide
def Zel(H:Hp)(a:Addr)(w:Rw):Prop:=H a=some (.tup [.str w.word,.str w.one])
theorem ZiC{H H':Hp}(s:Zy H H'):∀{ds:List Addr} {ws:List Rw},Paired (Zel H) ds ws->Paired (Zel H') ds ws
 |_,_,.nil=> .nil
 |_,_,.cons h t=> .cons (s _ _ h) (ZiC s t)
def hdD(w:Rw):Dt:=.tup [.v (.str w.word),.v (.str w.one)]
theorem Zqb{H:Hp}{a:Addr}{w:Rw}(h:Zel H a w):Rep K H (hdD w) (.ref a):=.tup (SqT.of h) (.cons (.flat rfl) (.cons (.flat rfl) .nil))
theorem ZnN{H:Hp}:∀{ds:List Addr} {ws:List Rw},Paired (Zel H) ds ws->Zlk K H (ws.map hdD) (ds.map V.ref)
 |_,_,.nil=> .nil
 |_,_,.cons h t=> .cons (Zqb h) (ZnN t)
theorem ZiD{H H':Hp}(s:∀b xs,H b=some (.tup xs)->H' b=some (.tup xs)):∀{ds:List Addr} {ws:List Rw},Paired (ZcL H) ds ws->Paired (ZcL H') ds ws
 |_,_,.nil=> .nil
 |_,_,.cons h t=> .cons (s _ _ h) (ZiD s t)
theorem ZiE{H H':Hp}(s:∀b xs,H b=some (.tup xs)->H' b=some (.tup xs)):∀{ds:List Addr} {ws:List Rw},Paired (Zel H) ds ws->Paired (Zel H') ds ws
 |_,_,.nil=> .nil
 |_,_,.cons h t=> .cons (s _ _ h) (ZiE s t)
theorem YM.more{rs:List Sr}{i:Nat}{ns:List Str}{ws:List Rw}{w:Rw}(h:YM rs i ns ws)(nm:∀n∈Zaj w,n∈rs.map Sr.nm)(nc:∀a∈ws,¬Zi2 a w):YM rs (i+1) (ns++[w.one]) (ws++[w]):=by
 refine⟨?_, ?_,fun x hx=> ?_,List.pairwise_append.mpr ⟨h.one,List.pairwise_singleton ..,fun a ha b hb=> ?_⟩, ?_,fun x hx e=> ?_⟩
 ·have:=h.len;rw[List.length_append,List.length_singleton];omega
 ·have:=h.held;have l:=List.length_filter_le Jv [w];rw[List.filter_append,List.length_append];rw[List.length_singleton] at l
  omega
 ·rcases List.mem_append.mp hx with hx|hx
  ·exact h.named x hx
  ·rw[List.mem_singleton.mp hx];exact nm
 ·rw[List.mem_singleton.mp hb];exact nc a ha
 ·have:=h.nl;rw[List.length_append,List.length_singleton];omega
 ·rcases List.mem_append.mp hx with hx|hx
  ·exact List.mem_append_left _ (h.few x hx e)
  ·rw[List.mem_singleton.mp hx];exact List.mem_append_right _ (List.mem_singleton_self _)
theorem YM.stay{rs:List Sr}{i:Nat}{ns:List Str}{ws:List Rw}(x:Str)(h:YM rs i ns ws):YM rs (i+1) (ns++[x]) ws:=
 ⟨Nat.le_succ_of_le h.len,Nat.le_succ_of_le h.held,h.named,h.one,by have:=h.nl;rw[List.length_append,List.length_singleton];omega,fun w hw e=>List.mem_append_left _ (h.few w hw e)⟩
theorem ZoC{w:Rw}{ws:List Rw}(e:(if true=true then !inV (V.str w.word) [V.str (Str.ofString "put"),V.str (Str.ofString "hold")] else inV (V.str w.word) [V.str (Str.ofString "put"),V.str (Str.ofString "hold")])=true):∀a∈ws,¬Zi2 a w:=fun a _ ⟨h,_⟩=>by
 rw[if_pos rfl] at e
 have:inV (V.str w.word) [V.str (Str.ofString "put"),V.str (Str.ofString "hold")]=true:=by
  unfold inV;rcases h with h|h
  ·exact List.any_eq_true.mpr ⟨_,List.mem_cons_self ..,by rw[h];exact Jz rfl⟩
  ·exact List.any_eq_true.mpr ⟨_,List.mem_cons_of_mem _ (List.mem_singleton_self _),by rw[h];exact Jz rfl⟩
 rw[this] at e
 cases e
theorem ZoD{w:Rw}{ws:List Rw}{n:Nat}(l:n=ws.length)(e:(if true=true then !((ws.take n).map hdD).any fun e=>Jb 2 e (hdD w) else((ws.take n).map hdD).any fun e=>Jb 2 e (hdD w))=true):∀a∈ws,¬Zi2 a w:=fun a ha ⟨_,h1,h2⟩=>by
 rw[if_pos rfl,l,List.take_length] at e
 have:((ws.map hdD).any fun e=>Jb 2 e (hdD w))=true:=List.any_eq_true.mpr ⟨hdD a,List.mem_map_of_mem ha,by
  have h:hdD a=hdD w:=by unfold hdD;rw[h1,h2]
  rw[h];have a1:=Jz (x:=V.str w.word) rfl;have b1:=Jz (x:=V.str w.one) rfl;show((eqV (V.str w.word) (V.str w.word)&&(eqV (V.str w.one) (V.str w.one)&&true))&&(2==2))=true;rw[a1,b1]
  rfl⟩
 rw[this] at e
 cases e
def Zse(rs:List Sr)(H:Hp)(R d:Addr)(w:Rw)(m:Nat)(H':Hp):Prop:=∃(es:List Addr) (ws:List Rw) (xs:List Str),H' R=some (.lst (es.map V.ref))/\Paired (ZcL H') es ws/\H' d=some (.tup w.vs)/\YM rs m xs ws/\ws.length<=m/\Zy H H'
theorem Zaq:ZC ["_law_cells","_law_names_by","_law_far","_law_book","_law_rows","_law_cell","_law_row"] ["_law_cells","_law_names_by","_law_far","_law_book"] (Zt Zcj):=⟨rfl,rfl,rfl,by decide+kernel,rfl,by decide+kernel,by decide+kernel⟩
theorem ZiF{f:Addr}{fd:FuncData}(F:Fun K "_law_rows_by" "_law_rows_by" Zcj f fd)(T:Txt K mg Zh Zf Zg Zb Zo)(Zdx:Cal P w K mg base CX0 3 "_law_row_by" ["_law_cell","_law_names_by","_law_far","_law_book"] Zcr):Yl P w K mg base CX0 4 f fd ["_law_cells","_law_names_by","_law_far","_law_book"] ZbK:=by
 refine F.ok Zaq (fun vs H Q E h=> ?_) (fun cdv A outer s H vs Q E hr h=> ?_)
 ·obtain⟨a,ns,b,far,p,rs,rfl,_⟩:=h
  rfl
 ·obtain⟨a,ns,b,far,p,rs,rfl,ha,ln,⟨ds,hp,pr⟩,lo,hi,q⟩:=h;have l5:=Xe;have hu3:=Zk5 hr;refine⟨_,(Ze (Zu (i:=4) Zaq.nd rfl (Or.inl rfl) (Yk Zj)) (Ze (Xi PassesOwn.never rfl (Yb (pv 0)) (ZF (i:=5) Zaq.nd rfl (Or.inl rfl)) (Ze (Zu (i:=6) Zaq.nd rfl (Or.inl rfl) (ZV Zdx (hr.mono (by omega)) rfl ZJ (Za (pv 5) (Za (pv 1) (Za (pv 2) (Za (pv 3) Zj)))))) (Zn (ZZ (PW.pt (ZgO (Zq Zd1 (Zx ZG (pv 6) Zi (fun _ _=>rfl)) (Yk (Za ZK (Za ZK Zj))) rfl) (ZeX (Zq (Zo6 hu3) (ZcC Zp0 (pv 6) Zhg (Zc0 Zi)) (Jc ["_law_other"] [] rfl (Yb (pv 4)) (by rfl) (by exact trivial) (by rfl) (by exact trivial) (fun _ _ _ _=>(ZF (i:=0) (show(nmY ["_law_other"] []).Nodup by decide+kernel) rfl (Or.inl rfl))) (fun _ _ _ _=>Zc1) (fun _ _ _ _=>(ZcC (ZqO (K:=K) rfl) (pv 0) Zhg (Zc0 Zi)))) rfl)))) (Zn (Xh (ZaL PySem.F.plainAttrs_list PySem.F.slot_list_append PySem.F.type_list_append YC (pv 4) (Za (pv 6) Zj)))) ZD)))) (Zn (Zz (pv 4))))), ?_⟩
  refine⟨Nat.zero_le _,fun R0 hR0=>⟨_,rfl,a,rfl,⟨_,SqL.of (Zk hR0 _ _ ha)⟩,YH (xs:=ns.map V.int) (fun i σ H'=>∃(R:Addr) (ws:List Rw) (xs:List Str) (v5 v6:Option V),σ=[some (.ref a),some (.int b),some (.int far),some (.ref p),some (.ref R),v5,v6]/\YF H' R ws/\H R=none/\YM rs i xs ws/\ws.length<=i/\Zy H H') ?_ ?_ ?_ ?_⟩⟩
  ·exact⟨R0,[],[],none,none,rfl,⟨[],Zc,.nil⟩,hR0,⟨Nat.zero_le _,Nat.zero_le _,(fun w hw=>nomatch hw),.nil,Nat.zero_le _,(fun w hw=>nomatch hw)⟩,Nat.zero_le _,Zk hR0⟩
  ·rintro i σ H1 _ ⟨R,ws,xs,v5,v6,rfl,_,_,_,_,s1⟩;exact SqL.of (s1 _ _ ha)
  ·rintro i x σ H1 hx ⟨R,ws,xs,v5,v6,rfl,⟨es,hR,pw⟩,nR,ri,lwi,s1⟩;have hi2:i<ns.length:=by
    have:=(List.getElem?_eq_some_iff.mp hx).1
    rwa [List.length_map] at this
   obtain⟨c,rfl⟩:∃c,x=V.int c:=by
    rw[List.getElem?_map] at hx
    cases q:ns[i]? with
    |none=>rw[q] at hx;cases hx
    |some c=>rw[q] at hx;cases hx;exact⟨c,rfl⟩
   have le:=Paired.length pw;refine⟨_,rfl,_,rfl,_,rfl,_,rfl,c,b,far,p,rs,rfl,⟨ds,s1 _ _ hp,Zft s1 pr⟩,lo,hi,fun w d H2 s2 hd spw=> ?_⟩;have hd:H2 d=some (.tup w.vs):=hd;have hR2:=s2 _ _ hR;have pw2:=ZM s2 pw;have s12:=s1.trans s2;have stay:∀Ha,Zy H2 Ha->Zse rs H R d w (i+1) Ha:=fun Ha sa=>⟨es,ws,_,sa _ _ hR2,ZM sa pw2,sa _ _ hd,ri.stay w.one,Nat.le_succ_of_le lwi,s12.trans sa⟩
   have more:∀Ha,Zy H2 Ha->(∀a∈ws,¬Zi2 a w)->Zse rs H R d w (i+1) (upd Ha R (.lst (es.map V.ref++[.ref d]))):=fun Ha sa nc=>by
    have kp:∀c u,c≠R->Ha c=some u->upd Ha R (.lst (es.map V.ref++[.ref d])) c=some u:=fun c u n e=>by rw[Zm n];exact e
    have kt:∀c xs,H2 c=some (.tup xs)->upd Ha R (.lst (es.map V.ref++[.ref d])) c=some (.tup xs):=fun c xs e=>kp c _ (Yj e hR2 (fun z=>nomatch z)) (sa _ _ e);exact⟨es++[d],ws++[w],_,by rw[Zc,List.map_append];rfl,ZcT (ZiD kt pw2) (kt _ _ hd),kt _ _ hd,ri.more spw nc,by rw[List.length_append,List.length_singleton];omega,fun c u e=>kp c u (Zd e nR) (sa _ _ (s12 _ _ e))⟩
   have l1:=ri.len;have lse:(es.map V.ref).length<sizeLine:=by rw[List.length_map];omega
   refine(fun(rest:∀H3,Zse rs H R d w (i+1) H3->(_:Hp->Prop) H3)=>⟨_,rfl,d,_,_,_,rfl,rfl,SqT.of hd,JX w,(show 2<=sizeLine from sl),fun t1 ht1=>⟨t1,_,rfl,.inl (SqL.of Zc),rfl,rfl,_,rfl,ZjH (fun _=> ?_) (fun e=>JZ ⟨_,rfl,.inl ⟨rfl,_,SqL.of (Zk ht1 _ _ hR2)⟩,_,rfl,R,_,V.ref d,rfl,rfl,Zk ht1 _ _ hR2,lse,rest _ (more _ (Zk ht1) (ZoC e))⟩)⟩⟩) ?rest
   case rest=>
    rintro H3 ⟨es3,ws3,xs3,hR3,pw3,hd3,ri3,l3,s3⟩;exact⟨R,ws3,xs3,_,_,rfl,⟨es3,hR3,pw3⟩,nR,ri3,l3,s3⟩
   ·refine⟨_,rfl,_,rfl,d,_,rfl,SqT.of (Zk ht1 _ _ hd),ZjK w,fun p1 hp1=> ?_⟩;have sa:=(Zk ht1 (o:=.lst [.str "put",.str "hold"])).trans (Zk hp1 (o:=.tup (Jr w.vs none (some 2))));have hp1':Zel (upd (upd H2 t1 (.lst [.str "put",.str "hold"])) p1 (.tup (Jr w.vs none (some 2)))) p1 w:=by
     show upd _ p1 _ p1=_;rw[Zc,Zqa]
    generalize upd (upd H2 t1 (.lst [.str "put",.str "hold"])) p1 (.tup (Jr w.vs none (some 2)))=H3 at sa hp1'⊢
    have hR3:=sa _ _ hR2;have pw3:=ZM sa pw2;refine⟨_,rfl,R,rfl,⟨_,SqL.of hR3⟩,ZfN fun D hD=>⟨es.length,fun j ys H4=>∃es4:List Addr,ys=es4.map V.ref/\Paired (Zel H4) es4 (ws.take j)/\Zy H3 H4,by omega,⟨[],rfl,.nil,Zk hD⟩, ?_, ?_, ?_, ?_, ?_⟩⟩
    ·rintro j ys H4 ⟨es4,rfl,p4,_⟩;have:=Paired.length p4;have l4:=List.length_take_le j ws;rw[List.length_map];omega
    ·rintro j ys zs H4 H5 eD kp ⟨es4,rfl,p4,s4⟩;exact⟨es4,rfl,ZiE (fun c xs e=>kp c _ (Yj e eD (fun z=>nomatch z)) e) p4,fun c u e=>kp c u (Zd e hD) (s4 _ _ e)⟩
    ·rintro j ys H4 ⟨_,_,_,s4⟩ lt;exact⟨_,_,SqL.of (s4 _ _ hR3),List.getElem?_eq_getElem (by rw[List.length_map];exact lt)⟩
    ·rintro ys H4 ⟨es4,rfl,p4,s4⟩ hD4;refine⟨⟨_,SqL.of (s4 _ _ hR3),by rw[List.length_map];exact Nat.le_refl _⟩, ?_⟩
     refine⟨D,2,hdD w,_,_,rfl,by decide,SqL.of hD4,Zqb (s4 _ _ hp1'),ZnN p4, ?_,_,rfl,YQ (fun e=> ?_) (fun _=>rest _ (stay _ (sa.trans s4)))⟩
     ·intro e he;obtain⟨w',_,rfl⟩:=List.mem_map.mp he
      rfl
     ·exact⟨_,rfl,.inl ⟨rfl,_,SqL.of (s4 _ _ hR3)⟩,_,rfl,R,_,V.ref d,rfl,rfl,s4 _ _ hR3,lse,rest _ (more _ (sa.trans s4) (ZoD le e))⟩
    ·rintro j x ys H4 H5 ⟨es4,rfl,p4,s4⟩ hD4 lt ⟨rfl,yl⟩ RT RF rt rf;obtain⟨d1,rfl,ed⟩:=Xb (yl _ (SqL.of (s4 _ _ hR3)));obtain⟨w1,ew,row⟩:=Ye (ZM s4 pw3) j d1 ed;have row:H5 d1=some (.tup w1.vs):=row;refine⟨trivial,Zji ⟨_,rfl,_,rfl,d1,_,rfl,SqT.of row,ZjK w1,fun p2 hp2=> ?_⟩⟩;refine rt _ _ (Zk hp2 _ _ hD4) ⟨es4++[p2],by rw[List.map_append];rfl, ?_,s4.trans (Zk hp2)⟩
     rw[List.take_add_one,ew];refine ZcT (ZiC (Zk hp2) p4) ?_;show upd _ p2 _ p2=_;rw[Zc,Zqa]
  ·rintro σ H1 ⟨R,ws,xs,v5,v6,rfl,hw,nR,ri,lwi,s1⟩;rw[List.length_map] at ri lwi
   exact⟨_,rfl,q ws xs R H1 nR s1 hw ri lwi⟩
def ZcU(F0:List Addr)(H0:Hp)(F:List Addr)(H:Hp):Prop:=ZeO F0 H0 H/\(∀b∈F,b∈F0\/H0 b=none)/\∀b∈F0,b∈F
theorem ZcU.refl(F:List Addr)(H:Hp):ZcU F H F H:=⟨fun _ _ _ e=>e,fun _ h=> .inl h,fun _ h=>h⟩
theorem ZcU.trans{F0 F F':List Addr}{H0 H H':Hp}(x:ZcU F0 H0 F H)(y:ZcU F H F' H'):ZcU F0 H0 F' H':=by
 obtain⟨k1,s1,p1⟩:=x;obtain⟨k2,s2,p2⟩:=y;refine⟨fun c u m e=>k2 c u (fun z=> ?_) (k1 c u m e),fun b h=> ?_,fun b h=>p2 b (p1 b h)⟩
 ·rcases s1 c z with a|a
  ·exact m a
  ·rw[e] at a;cases a
 ·rcases s2 b h with a|a
  ·exact s1 b a
  ·by_cases m:b∈F0
   ·exact .inl m
   ·refine .inr ?_;cases e:H0 b with
    |none=>rfl
    |some u=>rw[k1 b u m e] at a;cases a
theorem ZcU.at{F0 F:List Addr}{H0 H:Hp}(x:ZcU F0 H0 F H){c:Addr}{u:HO}(m:c∉F0)(e:H0 c=some u):H c=some u:=x.1 c u m e
theorem ZcU.off{F0 F:List Addr}{H0 H:Hp}(x:ZcU F0 H0 F H){c:Addr}{u:HO}(m:c∉F0)(e:H0 c=some u):c∉F:=fun z=>by
 rcases x.2.1 c z with a|a
 ·exact m a
 ·rw[e] at a;cases a
theorem ZL.off{cn ca cl ce C a:Addr}{H:Hp}{s:Hs}{F:List Addr}(h:ZL cn ca cl ce C H a s F){c:Addr}(e:H c=none):c∉F:=fun m=>by
 rcases h.kinds c m with ⟨_,z⟩|⟨_,z⟩<;>rw[e] at z<;>cases z
theorem ZL.tup{cn ca cl ce C a:Addr}{H:Hp}{s:Hs}{F:List Addr}(h:ZL cn ca cl ce C H a s F){c:Addr}{xs:List V}(e:H c=some (.tup xs)):c∉F:=fun m=>by
 rcases h.kinds c m with ⟨_,z⟩|⟨_,z⟩<;>rw[e] at z<;>cases z
theorem ZL.write{cn ca cl ce C a:Addr}{H0 H H':Hp}{s0 s:Hs}{F0 F:List Addr}{L:Addr}{v:HO}(h0:ZL cn ca cl ce C H0 a s0 F0)(h:ZL cn ca cl ce C H a s F)(kp:ZeO F0 H0 H)(n0:H0 L=none)(nF:L∉F)(e:H L=some v)(fr:∀c u,c≠L->H c=some u->H' c=some u)(nt:∀xs,v≠.tup xs:=by exact fun _ z=>nomatch z)(ni:∀C dx fs,v≠.ins C dx fs:=by exact fun _ _ _ z=>nomatch z):ZL cn ca cl ce C H' a s F:=by
 obtain⟨dx0,b0,t0,o0,h_0,r0,k0,w0,os0,kvs0,ha0,⟨bs0,hb0,_⟩,_⟩:=id h0;have ha1:=h0.kinds.ins kp _ _ _ _ ha0;obtain⟨dx,b,t,oo,hh,r,k,w,os,kvs,ha,hb,ht,ho,oa,hhh,hr,hk,pk,hw,eF,nd,nb⟩:=h;have eb:b0=b:=by
  rw[ha] at ha1
  injection ha1 with z
  injection z with _ _ z
  have:=congrArg (fun f=>f.lookup ("book":Str)) z;simp only [ZeI] at this
  injection this with this
  injection this with this
  exact this.symm
 have nbL:b≠L:=fun z=>by rw[<-eb] at z;rw[z,n0] at hb0;cases hb0
 have kt:∀c xs,H c=some (.tup xs)->H' c=some (.tup xs):=fun c xs z=>fr c _ (fun y=>by rw[y,e] at z;injection z with z;exact nt xs z) z
 have ki:∀c C dx fs,H c=some (.ins C dx fs)->H' c=some (.ins C dx fs):=fun c C dx fs z=>fr c _ (fun y=>by rw[y,e] at z;injection z with z;exact ni C dx fs z) z
 have m:∀{c:Addr},c∈F->∀u,H c=some u->H' c=some u:=fun hc u z=>fr _ _ (fun y=>nF (y▸hc)) z;have rw_:∀{p:Addr} {us:List Rw},p∈F->YF H p us->YF H' p us:=fun hp ⟨ds,e,pp⟩=>⟨ds,m hp _ e,YT kt pp⟩
 have mt:t∈F:=by rw[eF];simp
 have mo:oo∈F:=by rw[eF];simp
 have mh:hh∈F:=by rw[eF];simp
 have mr:r∈F:=by rw[eF];simp
 have mk:k∈F:=by rw[eF];simp
 have mw:w∈F:=by rw[eF];simp
 have mx:∀x∈os,x.2∈F:=fun x hx=>by
  rw[eF];simp only [List.mem_cons];exact .inr (.inr (.inr (.inr (.inr (.inr (List.mem_map_of_mem hx))))))
 exact⟨dx,b,t,oo,hh,r,k,w,os,kvs,ki _ _ _ _ ha,Zdq kt ki (fun u z=>fr _ _ nbL z) hb,rw_ mt ht,m mo _ ho,⟨oa.one,oa.mem,fun x hx=>rw_ (mx x hx) (oa.at_ x hx)⟩,rw_ mh hhh,m mr _ hr,m mk _ hk,JM kt pk,m mw _ hw,eF,nd,nb⟩
theorem ZjL{cn ca cl ce C x dx b t o h r k w:Addr}{H:Hp}{rs:List Sr}(nd:[b,t,o,h,r,k,w].Nodup)(hx:H x=some (.ins C dx (fH b t o h r k w)))(hb:ZeN cn ca cl ce H b rs)(ht:H t=some (.lst []))(ho:H o=some (.dK []))(hh:H h=some (.lst []))(hr:H r=some (.lst []))(hk:H k=some (.dK []))(hw:H w=some (.dK [])):ZL cn ca cl ce C H x ⟨rs,[],[],[],[]⟩ [t,o,h,r,k,w]:=
 ⟨dx,b,t,o,h,r,k,w,[],[],hx,hb,⟨[],ht,.nil⟩,ho,⟨.nil,(fun r=>⟨(fun z=>nomatch z),fun z=>absurd rfl z⟩),(fun x hx=>nomatch hx)⟩,⟨[],hh,.nil⟩,hr,hk,.nil,hw,rfl,(List.nodup_cons.mp nd).2,(List.nodup_cons.mp nd).1⟩
theorem Znd{r:Str}{w:Rw}{y:Xd}(h:Ze0 r w=some y):y.2∈Zaj w:=by
 cases w with
 |put x s d=>
  have h:(if x=r then some (d,s) else none)=some y:=h
  split at h
  ·injection h with h;rw[<-h];exact List.mem_singleton_self _
  ·cases h
 |move x s d=>
  have h:(if x=r then some (d,s) else none)=some y:=h
  split at h
  ·injection h with h;rw[<-h];exact List.mem_singleton_self _
  ·cases h
 |deed x k d=>cases h
 |lift a d=>cases h
 |hold a b c d=>cases h
theorem YM.of{rs:List Sr}{i:Nat}{xs:List Str}{ws:List Rw}(h:YM rs i xs ws)(hi:i<=63):Zdj rs ws:=⟨by have:=h.len;omega,by have:=h.held;omega,fun r y hy=>by
 obtain⟨w,hw,e⟩:=List.mem_filterMap.mp hy;exact h.named w hw _ (Znd e)⟩
theorem YM.recs{rs:List Sr}{i:Nat}{xs:List Str}{ws:List Rw}(h:YM rs i xs ws)(hi:i<64):Zfs ws:=⟨xs,by have:=h.nl;omega,fun r hr=>by
 obtain⟨w,hw⟩:=List.exists_mem_of_ne_nil _ hr;obtain⟨h1,h2⟩:=List.mem_filter.mp hw;rcases ZkG w with ⟨_,no⟩|⟨y,yes⟩
 ·rw[no r] at h2;cases h2
 ·rw[yes r] at h2
  rw[<-of_decide_eq_true h2];exact h.few w h1 y⟩
theorem YM.takes{rs:List Sr}{i:Nat}{xs:List Str}{ws:List Rw}{w:Rw}{s:Hs}(h:YM rs i xs (ws++[w]))(e1:s.rs=rs)(e2:s.ws=ws):ZpY s w:=by
 have no:=(List.pairwise_append.mp h.one).2.2;refine⟨fun e=> ?_,fun e=> ?_,fun n hn=> ?_⟩
 ·rw[e2];cases z:Xm ws w.one with
  |false=>rfl
  |true=>
   obtain⟨v,hv,q⟩:=List.any_eq_true.mp z;cases v with
   |put x s d=>exact absurd ⟨.inl e,e.symm,of_decide_eq_true q⟩ (no _ hv w (List.mem_singleton_self _))
   |_=>cases q
 ·rw[e2];cases z:ws.any (Ji w.one) with
  |false=>rfl
  |true=>
   obtain⟨v,hv,q⟩:=List.any_eq_true.mp z;cases v with
   |hold x s d f=>exact absurd ⟨.inr e,e.symm,of_decide_eq_true q⟩ (no _ hv w (List.mem_singleton_self _))
   |_=>cases q
 ·rw[e1];exact h.named w (List.mem_append_right _ (List.mem_singleton_self _)) n hn
theorem Zar{zs:List Str}(h:zs.Pairwise fun a b=>Xl a b=true):zs.Nodup:=List.nodup_iff_pairwise_ne.mpr (h.imp fun{x y} h z=>by rw[z,Xo.irr] at h;cases h)
theorem Zne{zs ys:List Str}(h:zs.Pairwise fun a b=>Xl a b=true)(k:ys.Pairwise fun a b=>Xl a b=true)(m:∀r,r∈zs↔r∈ys):zs=ys:=by
 have go:∀{l:List Str},(l.Pairwise fun a b=>Xl a b=true)->M4.Asc Xl l:=fun h=>h.imp fun{a b} x=>by
  cases e:Xl b a with
  |false=>rfl
  |true=>have:=Xo.tr _ _ _ x e;rw[Xo.irr] at this;cases this
 exact M4.Zke Xo ((List.perm_ext_iff_of_nodup (Zar h) (Zar k)).mpr m) (go h) (go k)
theorem Zqc{s:Hs}{rs:List Sr}{i:Nat}{xs:List Str}(ok:Zg6 s)(ri:YM rs i xs s.ws):s.gs.length<=i:=by
 have sub:∀r∈s.gs.map (·.1),r∈xs:=fun r hr=>by
  obtain⟨g,hg,rfl⟩:=List.mem_map.mp hr;obtain⟨w,hw⟩:=List.exists_mem_of_ne_nil _ (ok.own g hg);obtain⟨h1,h2⟩:=List.mem_filter.mp hw;rcases ZkG w with ⟨_,no⟩|⟨y,yes⟩
  ·rw[no] at h2;cases h2
  ·rw[yes] at h2
   rw[<-of_decide_eq_true h2];exact ri.few w h1 y
 have:=ok.one.length_le_of_subset sub;rw[List.length_map] at this
 exact Nat.le_trans this ri.nl
theorem ZkV{s:Hs}{w:Rw}{i:Nat}{xs:List Str}(ok:Zg6 s)(ri:YM s.rs i xs (s.ws++[w]))(hi:i<=63):Zg6 {s with ws:=s.ws++[w]}:=⟨ok.bk,ok.lr,ri.of hi,by have:=ri.len;show(s.ws++[w]).length<=400;omega,ok.one,fun g hg z=>by
 have z:ZQ (s.ws++[w]) g.1=[]:=z;rw[ZaV] at z
 exact ok.own g hg (List.append_eq_nil_iff.mp z).1⟩
theorem ZiG(s:Hs)(day:Int)(zs:List Str):(Zh0 s day zs).gs.map (·.1)=s.gs.map (·.1)++zs:=by
 show(s.gs++zs.map fun r=>(r,((s.runs.length+1:Nat):Int),day)).map (·.1)=_;rw[List.map_append,List.map_map]
 congr 1
 exact(List.map_congr_left fun _ _=>rfl).trans (List.map_id _)
theorem ZoE(s:Hs)(day:Int)(zs:List Str):(Zh0 s day zs).wd.map (·.1)=s.wd.map (·.1)++zs:=by
 show(s.wd++zs.map fun r=>(r,Str.ofString "due")).map (·.1)=_;rw[List.map_append,List.map_map]
 congr 1
 exact(List.map_congr_left fun _ _=>rfl).trans (List.map_id _)
theorem Zsf{s:Hs}{day:Int}{zs:List Str}(ok:Zg6 s)(nd:zs.Nodup)(iff:∀r,r∈zs↔r∉s.gs.map (·.1)/\ZaD s day r):Zg6 (Zh0 s day zs):=by
 refine⟨ok.bk,ok.lr,ok.rows,ok.few, ?_,fun g hg=> ?_⟩
 ·rw[ZiG];exact List.nodup_append.mpr ⟨ok.one,nd,fun a ha b hb e=>((iff b).mp hb).1 (e▸ha)⟩
 ·rcases List.mem_append.mp (show g∈s.gs++zs.map fun r=>(r,((s.runs.length+1:Nat):Int),day) from hg) with h|h
  ·exact ok.own g h
  ·obtain⟨r,hr,rfl⟩:=List.mem_map.mp h;exact Zht ((iff r).mp hr).2
theorem ZoF{s:Hs}{day:Int}{zs:List Str}(wo:Zef s)(iff:∀r,r∈zs↔r∉s.gs.map (·.1)/\ZaD s day r):Zef (Zh0 s day zs):=by
 refine⟨by rw[ZiG,ZoE,wo.keys],fun f hf=> ?_⟩;rcases List.mem_append.mp (show f∈s.wd++zs.map fun r=>(r,Str.ofString "due") from hf) with h|h
 ·obtain⟨n,d,hg,wi⟩:=wo.ok f h;exact⟨n,d,List.mem_append_left _ hg,wi⟩
 ·obtain⟨r,hr,rfl⟩:=List.mem_map.mp h;obtain⟨j,is,e⟩:=((iff r).mp hr).2;exact⟨_,day,List.mem_append_right _ (List.mem_map.mpr ⟨r,hr,rfl⟩),e▸is.word⟩
theorem ZbU{a b:TS}{D:ZjO}{σ:L2.St}{H:Hp}(h:∀B:TS,(∀σ' H',b D σ' H'->B D σ' H')->Zqm a B D σ H):Zqm a b D σ H:=h b fun _ _ x=>x
theorem Znf{a b:Rw}:¬Zi2 a b->¬Zi2 b a:=fun n ⟨c1,c2,c3⟩=>n ⟨by rw[c2];exact c1,c2.symm,c3.symm⟩
theorem YM.sub{rs:List Sr}{i:Nat}{xs:List Str}{ws us vs:List Rw}(h:YM rs i xs ws)(p:(us++vs).Perm ws):YM rs i xs us:=by
 have m:∀w∈us,w∈ws:=fun w hw=>p.subset (List.mem_append_left _ hw);refine⟨?_, ?_,fun w hw=>h.named w (m w hw), ?_,h.nl,fun w hw=>h.few w (m w hw)⟩
 ·have:=p.length_eq;rw[List.length_append] at this
  have:=h.len;omega
 ·have:=(p.filter Jv).length_eq;rw[List.filter_append,List.length_append] at this
  have:=h.held;omega
 ·exact(List.pairwise_append.mp ((List.Perm.pairwise_iff (fun{_ _}=>Znf) p.symm).mp h.one)).1
theorem YM.part{rs:List Sr}{i:Nat}{xs:List Str}{ws us ps vs:List Rw}(h:YM rs i xs ws)(p:(us++ps++vs).Perm ws)(n:Nat):YM rs i xs (us++ps.take n):=by
 refine h.sub (vs:=ps.drop n++vs) ?_;rw[<-List.append_assoc,List.append_assoc us,List.take_append_drop];exact p
theorem Zqd{b t o h r k w b' t' o' h' r' k' w':Addr}(e:fH b t o h r k w=fH b' t' o' h' r' k' w'):b=b':=by
 have:=congrArg (fun f=>f.lookup ("book":Str)) e;simp only [ZeI] at this
 injection this with this
 injection this
theorem ZL.book{cn ca cl ce C a:Addr}{H:Hp}{s:Hs}{F:List Addr}{dx b t o h r k w:Addr}:ZL cn ca cl ce C H a s F->H a=some (.ins C dx (fH b t o h r k w))->∃u,H b=some u
 | .mk dx' b' t' o' h' r' k' w' os kvs ha ⟨bs,hb,_⟩ _ _ _ _ _ _ _ _ _ _ _,e=>by
  rw[ha] at e
  injection e with e
  injection e with _ _ e
  rw[<-Zqd e];exact⟨_,hb⟩
theorem ZL.apart{cn ca cl ce C x y:Addr}{H H':Hp}{s s':Hs}{F F':List Addr}(g:ZL cn ca cl ce C H x s F)(h:ZL cn ca cl ce C H y s' F')(kp:ZeO F H H')(dis:∀c∈F,c∉F')(nb:∀dx b t o h r k w,H y=some (.ins C dx (fH b t o h r k w))->b∉F):ZL cn ca cl ce C H' y s' F':=by
 obtain⟨dx,b,t,oo,hh,r,k,w,os,kvs,ha,hb,ht,ho,oa,hhh,hr,hk,pk,hw,eF,nd,nbb⟩:=h;have kt:∀c xs,H c=some (.tup xs)->H' c=some (.tup xs):=g.kinds.tup kp;have ki:∀c C dx fs,H c=some (.ins C dx fs)->H' c=some (.ins C dx fs):=g.kinds.ins kp;have nbL:=nb _ _ _ _ _ _ _ _ ha;have m:∀{c:Addr},c∈F'->∀u,H c=some u->H' c=some u:=fun hc u z=>kp _ _ (fun y=>dis _ y hc) z;have rw_:∀{p:Addr} {us:List Rw},p∈F'->YF H p us->YF H' p us:=fun hp ⟨ds,e,pp⟩=>⟨ds,m hp _ e,YT kt pp⟩
 have mt:t∈F':=by rw[eF];simp
 have mo:oo∈F':=by rw[eF];simp
 have mh:hh∈F':=by rw[eF];simp
 have mr:r∈F':=by rw[eF];simp
 have mk:k∈F':=by rw[eF];simp
 have mw:w∈F':=by rw[eF];simp
 have mx:∀x∈os,x.2∈F':=fun x hx=>by
  rw[eF];simp only [List.mem_cons];exact .inr (.inr (.inr (.inr (.inr (.inr (List.mem_map_of_mem hx))))))
 exact⟨dx,b,t,oo,hh,r,k,w,os,kvs,ki _ _ _ _ ha,Zdq kt ki (fun u z=>kp _ _ nbL z) hb,rw_ mt ht,m mo _ ho,⟨oa.one,oa.mem,fun x hx=>rw_ (mx x hx) (oa.at_ x hx)⟩,rw_ mh hhh,m mr _ hr,m mk _ hk,JM kt pk,m mw _ hw,eF,nd,nbb⟩
structure Two (cn ca cl ce C x y:Addr) (s s':Hs) (F F':List Addr) (H:Hp):Prop where
 ho:ZL cn ca cl ce C H x s F
 ho':ZL cn ca cl ce C H y s' F'
 dis:∀c∈F,c∉F'
 nb:∀dx b t o h r k w,H x=some (.ins C dx (fH b t o h r k w))->b∉F'
 nb':∀dx b t o h r k w,H y=some (.ins C dx (fH b t o h r k w))->b∉F
theorem Two.swap{cn ca cl ce C x y:Addr}{s s':Hs}{F F':List Addr}{H:Hp}(h:Two cn ca cl ce C x y s s' F F' H):Two cn ca cl ce C y x s' s F' F H:=⟨h.ho',h.ho,fun c m n=>h.dis c n m,h.nb',h.nb⟩
theorem Two.step{cn ca cl ce C x y:Addr}{s s' s2:Hs}{F F' F2:List Addr}{H H':Hp}(h:Two cn ca cl ce C x y s s' F F' H)(kp:ZeO F H H')(sub:∀b∈F2,b∈F\/H b=none)(ho2:ZL cn ca cl ce C H' x s2 F2):Two cn ca cl ce C x y s2 s' F2 F' H':=by
 refine⟨ho2,h.ho.apart h.ho' kp h.dis h.nb',fun c m=> ?_,fun dx b t o hh r k w e=> ?_,fun dx b t o hh r k w e=> ?_⟩
 ·rcases sub c m with z|z
  ·exact h.dis c z
  ·exact h.ho'.off z
 ·obtain⟨dx',b',t',o',h',r',k',w',ha,_⟩:=h.ho.ins;have ha':=h.ho.kinds.ins kp _ _ _ _ ha;rw[e] at ha'
  exact h.nb dx b t o hh r k w (by rw[ha,ha'])
 ·obtain⟨dx',b',t',o',h',r',k',w',ha,_⟩:=h.ho'.ins;have ha':=h.ho.kinds.ins kp _ _ _ _ ha;rw[e] at ha'
  have e2:H y=some (.ins C dx (fH b t o hh r k w)):=by rw[ha,ha']
  intro m;rcases sub b m with z|z
  ·exact h.nb' dx b t o hh r k w e2 z
  ·obtain⟨u,hu⟩:=h.ho'.book e2;rw[hu] at z
   cases z
theorem Two.same{cn ca cl ce C x y:Addr}{s s':Hs}{F F':List Addr}{H H':Hp}(h:Two cn ca cl ce C x y s s' F F' H)(sm:Zy H H'):Two cn ca cl ce C x y s s' F F' H':=h.step (fun c u _ e=>sm _ _ e) (fun _ z=> .inl z) (h.ho.same sm)
theorem ZcU.left{F F2 F':List Addr}{H H':Hp}(x:ZcU F H F2 H'):ZcU (F++F') H (F2++F') H':=by
 refine⟨fun c u m e=>x.1 c u (fun z=>m (List.mem_append_left _ z)) e,fun b hb=> ?_,fun b hb=> ?_⟩
 ·rcases List.mem_append.mp hb with hb|hb
  ·exact(x.2.1 b hb).imp (fun z=>List.mem_append_left _ z) id
  ·exact .inl (List.mem_append_right _ hb)
 ·rcases List.mem_append.mp hb with hb|hb
  ·exact List.mem_append_left _ (x.2.2 b hb)
  ·exact List.mem_append_right _ hb
theorem ZcU.right{F F' F2:List Addr}{H H':Hp}(x:ZcU F' H F2 H'):ZcU (F++F') H (F++F2) H':=by
 refine⟨fun c u m e=>x.1 c u (fun z=>m (List.mem_append_right _ z)) e,fun b hb=> ?_,fun b hb=> ?_⟩
 ·rcases List.mem_append.mp hb with hb|hb
  ·exact .inl (List.mem_append_left _ hb)
  ·exact(x.2.1 b hb).imp (fun z=>List.mem_append_right _ z) id
 ·rcases List.mem_append.mp hb with hb|hb
  ·exact List.mem_append_left _ hb
  ·exact List.mem_append_right _ (x.2.2 b hb)
structure ZjM (s s2:Hs) (us:List Rw):Prop where
 ok:Zg6 s2
 wo:Zef s2
 rs:s2.rs=s.rs
 ws:s2.ws=s.ws++us
 gs:s2.gs=s.gs
 runs:s2.runs=s.runs
theorem ZjM.more{s s2:Hs}{us:List Rw}{w:Rw}{wd:List (Str×Str)}{i:Nat}{xs:List Str}(h:ZjM s s2 us)(ri:YM s2.rs i xs (s2.ws++[w]))(hi:i<=63)(wo:Zef {s2 with ws:=s2.ws++[w],wd:=wd}):ZjM s {s2 with ws:=s2.ws++[w],wd:=wd} (us++[w]):=by
 have z:=ZkV h.ok ri hi;refine⟨⟨z.bk,z.lr,z.rows,z.few,z.one,z.own⟩,wo,h.rs, ?_,h.gs,h.runs⟩;show s2.ws++[w]=_;rw[h.ws,List.append_assoc]
theorem ZiH{α:Type}{p:α×α}:∀{l:List α},p∈l.zip l->p.1=p.2/\p.1∈l
 |x::l,h=>by
  obtain rfl|h2:=List.mem_cons.mp h
  ·exact And.intro rfl (List.mem_cons_self ..)
  ·obtain⟨a,b⟩:=ZiH h2;exact⟨a,List.mem_cons_of_mem _ b⟩
def Zm6(n:Nat)(d:Dt):Prop:=Jb n d d=true/\ZbA n d d=true
theorem Zsg{n:Nat}{x:V}(h:Jl x=true):Zm6 n (.v x):=by
 cases n<;>exact⟨Jz h,rfl⟩
theorem Zm7{n:Nat}{ds:List Dt}(h:∀d∈ds,Zm6 n d):(ds.zip ds).all (fun p=>Jb n p.1 p.2)=true/\(ds.zip ds).all (fun p=>ZbA n p.1 p.2)=true:=
 ⟨List.all_eq_true.mpr fun p hp=>by obtain⟨a,b⟩:=ZiH hp;rw[<-a];exact(h _ b).1,List.all_eq_true.mpr fun p hp=>by obtain⟨a,b⟩:=ZiH hp;rw[<-a];exact(h _ b).2⟩
theorem Zqe{n:Nat}{ds:List Dt}(h:∀d∈ds,Zm6 n d):Zm6 (n+1) (.lst ds):=⟨by
 show(ds.length==ds.length&&(ds.zip ds).all (fun p=>Jb n p.1 p.2))=true;rw[(Zm7 h).1,beq_self_eq_true]
 rfl,(Zm7 h).2⟩
theorem Zrt{c A B:Prop} [Decidable c](hc:c)(h:B):if(!decide c)=true then A else B:=by
 rw[decide_eq_true hc];exact Yt h
def Zem(cn ca cl ce C:Addr):Sp:=fun vs H Q _=>∃(a D W:Addr) (d day:Int) (s:Hs) (F:List Addr) (ds:Tb) (aw:List Str),vs=[.ref a,.int d,.ref D,.ref W]/\ZL cn ca cl ce C H a s F/\Zg6 s/\Zfs s.ws/\s.wd.map (·.1)=s.gs.map (·.1)/\s.runs.length<=900/\s.gs.length<=900/\(∀e,s.runs.getLast? =some e->e<=d)/\H D=some (.dK (kk ds))/\D∉F/\H W=some (.dK (akv aw))/\W∉F/\W≠D/\Zlw s.rs s.ws day ds/\ds.length<=63/\day<=d/\(∀r,r∈aw↔r∈s.gs.map (·.1))/\
 ∀L zs H',ZeO F H H'->ZL cn ca cl ce C H' a (Zh0 s d zs) F->H L=none->L∉F->H' L=some (.lst (zs.map V.str))->zs.Pairwise (fun a b=>Xl a b=true)->(∀r,r∈zs↔r∉s.gs.map (·.1)/\ZaD s d r)->Q (.ref L) H'
def Zct(cn ca cl ce C:Addr):Sp:=fun vs H Q _=>∃(a D R:Addr) (al:Bool) (day:Int) (s:Hs) (F:List Addr) (ds:Tb) (ns:List Int),vs=[.ref a,.ref D,.ref R,.bl al]/\ZL cn ca cl ce C H a s F/\Zg6 s/\Zef s/\Zfs s.ws/\s.gs=[]/\s.runs=[]/\H D=some (.dK (kk ds))/\D∉F/\H R=some (.lst (ns.map V.int))/\R∉F/\Zlw s.rs s.ws day ds/\ds.length<=63/\ns.length<=200/\ns.Pairwise (· <= ·)/\(∀x∈ns,day<=x)/\(al=true->∀x∈ds,x.2∈ns)/\
 ∀H',ZeO F H H'->Q (.bl true) H'
theorem Zlw.le{rs:List Sr}{ws:List Rw}{day:Int}{ds:Tb}(f:Zlw rs ws day ds){r:Str}{d:Int}(h:Zah rs ws r d)(g:day<=d):∃x∈ds,x.1=r/\x.2<=d:=by
 by_cases m:r∈ds.map (·.1)
 ·obtain⟨x,hx,e⟩:=List.mem_map.mp m;refine⟨x,hx,e, ?_⟩;have z:=(f.yes x hx).2.2 d g;rw[e] at z
  exact Int.not_lt.mp fun y=>z y h
 ·exact absurd h (f.no r m d g)
theorem Ztd{c:Tb}{j:Nat}{kv:Key×V}(h:(kk c)[j]? =some kv):∃x,c[j]? =some x/\kv=(Sum.inr x.1,V.int x.2):=by
 unfold kk at h
 rw[List.getElem?_map] at h
 cases e:c[j]? with
 |none=>rw[e] at h;cases h
 |some x=>rw[e] at h;exact⟨x,rfl,(Option.some.inj h).symm⟩
theorem ZkW{aw:List Str}{r:Str}:(Yp (akv aw) (Sum.inr r)).isSome=decide (r∈aw):=by
 induction aw with
 |nil=>rfl
 |cons a aw ih=>
  by_cases e:a=r
  ·have:Yp (akv (a::aw)) (Sum.inr r)=some (V.bl true):=Yr (p:=(Sum.inr a,V.bl true)) (by rw[e]);rw[this,decide_eq_true (by rw[e];exact List.mem_cons_self ..)]
   rfl
  ·have:Yp (akv (a::aw)) (Sum.inr r)=Yp (akv aw) (Sum.inr r):=Yn (p:=(Sum.inr a,V.bl true)) (fun h=>e (Sum.inr.inj h));rw[this,ih];exact decide_eq_decide.mpr ⟨fun h=>List.mem_cons_of_mem _ h,fun h=>(List.mem_cons.mp h).elim (fun z=>absurd z.symm e) id⟩
theorem Zqf{aw:List Str}{r:Str}(h:r∉aw):Yp (akv aw) (Sum.inr r)=none:=by
 have:=ZkW (aw:=aw) (r:=r);rw[decide_eq_false h] at this
 cases e:Yp (akv aw) (Sum.inr r) with
 |none=>rfl
 |some v=>rw[e] at this;cases this
theorem Zcb:ZC ["_law_house","_law_day","_law_days","_law_away","_law_found","_law_record"] ["_law_house","_law_day","_law_days","_law_away"] (Zt Zfc):=⟨rfl,rfl,rfl,by decide+kernel,rfl,by decide+kernel,by decide+kernel⟩
theorem Zm8{f:Addr}{fd:FuncData}(F:Fun K "_law_took" "_law_took" Zfc f fd)(T:Txt K mg Zh Zf Zg Zb Zo)(Zqg:Zbj P w K mg base CX0 40 "run" ["self","day"] (ZkJ Zh Zf Zg Zb 12) (fun C=>C=Zo)):Yl P w K mg base CX0 41 f fd ["_law_house","_law_day","_law_days","_law_away"] (Zem Zh Zf Zg Zb Zo):=by
 refine F.ok Zcb (fun vs H Q E h=> ?_) (fun cdv A outer s H vs Q E hr h=> ?_)
 ·obtain⟨a,D,W,d,day,s,F,ds,aw,rfl,_⟩:=h
  rfl
 ·obtain⟨a,D,W,d,day,s,F,ds,aw,rfl,ho,ok,few,ek,lr,lg,dy,hD,oD,hW,oW,nWD,fo,ld,dd,iaw,q⟩:=h;have l5:=Xe;have hu:=Zbg hr;have hu3:=Zk5 hr;refine⟨_,(Ze (ZeC (i:=4) ["_law_row"] [] Zcb.nd rfl (Or.inl rfl) rfl (Yb (Zaa (pv 0) Zqg (hr.mono (by omega)) ZJ (Za (pv 1) Zj))) (by rfl) (by exact trivial) (by rfl) (by exact trivial) (fun _ _ _ _=>(ZF (i:=0) (show(nmY ["_law_row"] []).Nodup by decide+kernel) rfl (Or.inl rfl))) (fun _ _ _ _=>Zc1) (fun _ _ _ _=>(Zx (Yu (K:=K) rfl) (pv 0) Zi (fun _ _=>rfl)))) (Ze (Xi PassesOwn.never rfl (Yb (pv 4)) (ZF (i:=5) Zcb.nd rfl (Or.inl rfl)) (Zn (ZZ (PW.pt (ZgO (ZcY (ZjZ hu (pv 5) (pv 3))) (ZgO (ZcY (Zbr hu (pv 5) (pv 2))) (ZeX (Zq ZeS (Za9 hu (pv 2) (pv 5) (fun _ _=>rfl)) (pv 1) (Zv _)))))) (Zn (Zz YB)) ZD))) (Ze (ZqE D (Xi PassesOwn.never rfl (Znn (pv 2)) (ZF (i:=5) Zcb.nd rfl (Or.inl rfl)) (Zn (ZZ (PW.pt (Xz (Zq Ym (Za9 hu (pv 2) (pv 5) (fun _ _=>rfl)) (pv 1) (Zv _)) (Xz (ZcY (Zbr hu (pv 5) (pv 3))) (YX (Zq Zd1 (pv 5) (pv 4) rfl))))) (Zn (Zz YB)) ZD)))) (Zn (Zz (pv 4)))))), ?_⟩
  obtain⟨dx,b,t,o,hh,r,k,w,ha,_⟩:=ho.ins;refine ZbU fun B_ hB=> ?_;refine⟨_,rfl,a,_,dx,_,rfl,ha,rfl,ZgY (by decide+kernel),_,rfl,a,d,s,F,rfl,by decide,ho,ok,few,ek,lr,lg,dy,fun L us zs H1 kp hA hL nL hl po st iff=> ?_⟩;have lz:=Paired.length po;have lzs:zs.length<=63:=by
   obtain⟨nm,l,sub⟩:=few;have:=(Zar st).length_le_of_subset fun r hr=>sub r (Zht ((iff r).mp hr).2);omega
  refine⟨L,rfl,⟨_,SqL.of hl⟩,Xa us.length (fun j=>[((zs[j]?).map V.str).getD .non]) (by omega) (fun j=>Nat.le_refl 1) (fun j H5 s5 lt=>⟨_,_,SqL.of (s5 _ _ hl),List.getElem?_eq_getElem lt⟩) (fun H5 s5=>⟨_,SqL.of (s5 _ _ hl),Nat.le_refl _⟩) (fun j y H5 H6 s5 lt yl RT RF rt rf=> ?_) fun A2 H2 hA2 s2 d2=> ?_⟩
  ·obtain⟨rfl,yl⟩:=yl;obtain⟨rc,erc,p1,jj,v5,rfl,hp6,_⟩:=Znb (Zei (fun c xs e=>s5 _ _ e) po) j y (yl _ (SqL.of (s5 _ _ hl)));rw[erc] at rt
   exact⟨trivial,Zji (ixT rfl (SqT.of hp6) rfl (rt _ _ rfl (Zy.refl _)))⟩
  have e2:(List.range us.length).flatMap (fun j=>[((zs[j]?).map V.str).getD .non])=zs.map V.str:=by
   rw[Jm,<-lz,ZcF zs V.str .non]
  rw[e2] at d2
  refine hB _ _ ?_;have hD2:=s2 _ _ (kp _ _ oD hD);have hW2:=s2 _ _ (kp _ _ oW hW);have hA2':=hA.same s2;refine ZbU fun B_ hB=> ?_;refine⟨_,rfl,A2,rfl,⟨_,SqL.of d2⟩,YH (xs:=zs.map V.str) (fun j σ H'=>∃v5:Option V,σ=[some (.ref a),some (.int d),some (.ref D),some (.ref W),some (.ref A2),v5]/\Zy H2 H') ?_ ?_ ?_ ?_⟩
  ·exact⟨none,rfl,Zy.refl _⟩
  ·rintro j σ H3 _ ⟨v5,rfl,s3⟩;exact SqL.of (s3 _ _ d2)
  ·rintro j v σ H3 hv ⟨v5,rfl,s3⟩;obtain⟨rc,rfl,erc⟩:∃rc,v=V.str rc/\zs[j]? =some rc:=by
    rw[List.getElem?_map] at hv
    cases e:zs[j]? with
    |none=>rw[e] at hv;cases hv
    |some y=>rw[e] at hv;exact⟨y,(Option.some.inj hv).symm,rfl⟩
   obtain⟨ng,due⟩:=(iff rc).mp (List.mem_of_getElem? erc);obtain⟨x,hx,rfl,le⟩:=fo.le due dd;have naw:x.1∉aw:=fun z=>ng ((iaw x.1).mp z);have lkx:lk ds x.1=some x.2:=Zk6 fo.one hx;have dW:Zd2 H3 W (.str x.1) (Yp (akv aw) (Sum.inr x.1)):=.inl ⟨_,Sum.inr x.1,.inl (s3 _ _ hW2),rfl,rfl⟩;have dD:Zd2 H3 D (.str x.1) (some (.int x.2)):=.inl ⟨_,Sum.inr x.1,.inl (s3 _ _ hD2),rfl,by rw[Zhk,lkx];rfl⟩
   rw[Zqf naw] at dW
   refine⟨_,rfl,_,rfl,W,_,rfl,dW,_,rfl,Yt ?_⟩;refine⟨_,rfl,_,rfl,D,_,rfl,dD,_,rfl,Yt ?_⟩;refine⟨_,rfl,_,rfl,D,_,rfl,dD,_,rfl,_,_,rfl,rfl,_,rfl, ?_⟩;rw[decide_eq_false (by omega)];exact Yt ⟨_,rfl,s3⟩
  rintro σ H3 ⟨v5,rfl,s3⟩;refine hB _ _ ?_;have nf:∀o u,H D≠some (.frz o u):=fun o u e=>by rw[hD] at e;cases e
  have hD3:=s3 _ _ hD2;have hW3:=s3 _ _ hW2;have d3:=s3 _ _ d2;refine ZbU fun B_ hB=> ?_;refine⟨_,rfl,D,_,rfl,hD3,fun o=>Zk4 (J:=Itk D o (kk ds)) (n:=ds.length) (fun j σ H'=>∃v5:Option V,σ=[some (.ref a),some (.int d),some (.ref D),some (.ref W),some (.ref A2),v5]/\Zy (upd H3 D (.frz o (.dK (kk ds)))) H') ?_ ?_ ?_ ?_⟩
  ·exact⟨_,rfl,Zy.refl _⟩
  ·rintro j σ H4 hj ⟨v5,rfl,s4⟩;exact⟨s4 _ _ Zc,by rw[ZcG];exact hj⟩
  ·rintro σ H4 ⟨v5,rfl,s4⟩;have g4:=s4 _ _ Zc;refine⟨⟨g4,by rw[ZcG];exact Nat.le_refl _⟩,upd H4 D (.dK (kk ds)),⟨nf,o,_,g4,rfl⟩, ?_⟩
   refine hB _ _ ?_;have s35:Zy H3 (upd H4 D (.dK (kk ds))):=fun c u e=>by
    by_cases z:c=D
    ·rw[z] at e⊢
     rw[Zc];rw[hD3] at e
     exact e
    ·rw[Zm z];exact s4 _ _ (by rw[Zm z];exact e)
   have s15:=s2.trans (s3.trans s35);refine⟨_,rfl,q A2 zs _ (fun c u m e=>s15 _ _ (kp c u m e)) (hA.same s15) ?_ (hA.off hA2) (s35 _ _ d3) st iff⟩;cases e:H A2 with
   |none=>rfl
   |some u=>
    rw[kp A2 u (hA.off hA2) e] at hA2
    cases hA2
  ·rintro j v σ H4 H5 lt ⟨v5,rfl,s4⟩ yl;obtain⟨rfl,kv,e7,rfl⟩:=yl;obtain⟨x,e9,rfl⟩:=Ztd e7;have xm:=List.mem_of_getElem? e9;have g4:=s4 _ _ Zc;have dD:Zd2 H5 D (.str x.1) (some (.int x.2)):=.inl ⟨_,Sum.inr x.1,.inr ⟨o,g4⟩,rfl,by rw[Zhk,Zk6 fo.one xm];rfl⟩
   have dW:Zd2 H5 W (.str x.1) (Yp (akv aw) (Sum.inr x.1)):=.inl ⟨_,Sum.inr x.1,.inl (s4 _ _ (by rw[Zm nWD];exact hW3)),rfl,rfl⟩
   have nA:A2≠D:=fun z=>by rw[z,hD3] at d3;cases d3
   have dA:=s4 _ _ (show upd H3 D (.frz o (.dK (kk ds))) A2=some (.lst (zs.map V.str)) by rw[Zm nA];exact d3)
   refine⟨_,rfl,_,rfl,D,_,rfl,dD,_,rfl,rfl,_,rfl,YQ (fun e1=> ?_) (fun _=>Yt ⟨_,rfl,s4⟩)⟩;have e1:x.2=d:=by injection of_decide_eq_true e1
   refine⟨_,rfl,_,rfl,W,_,rfl,dW,_,rfl, ?_⟩;show if(!(Yp (akv aw) (Sum.inr x.1)).isSome)=true then _ else _;rw[ZkW]
   by_cases m:x.1∈aw
   ·rw[decide_eq_true m];exact Yt ⟨_,rfl,s4⟩
   rw[decide_eq_false m];refine JZ ⟨_,rfl,_,rfl,A2,_,rfl,.inl (SqL.of dA),rfl,ZeG _,_,rfl, ?_⟩;show if(!inV (V.str x.1) (zs.map V.str))=true then _ else _;rw[Zhp];have yes:x.1∈zs:=(iff x.1).mpr ⟨fun z=>m ((iaw _).mpr z),e1▸(fo.yes x xm).2.1⟩;rw[decide_eq_true yes];exact Yt ⟨_,rfl,s4⟩
theorem ZoG(zs:List Str):Zm6 1 (.lst (zs.map fun z=>Dt.v (.str z))):=Zqe fun d hd=>by
 obtain⟨z,_,rfl⟩:=List.mem_map.mp hd;exact Zsg rfl
theorem Zr7{aw:List Str}{r:Str}(h:r∉aw):Js (akv aw) (Sum.inr r) (.bl true)=akv (aw++[r]):=by
 rw[Zit (by rw[ZkW,decide_eq_false h])];unfold akv;rw[List.map_append]
 rfl
theorem Zsh(aw:List Str):akv aw=(aw.map fun r=>(r,V.bl true)).map fun kv:Str×V=>(Sum.inr kv.1,kv.2):=by
 unfold akv;rw[List.map_map]
 rfl
theorem Zte(ds:Tb):kk ds=(ds.map fun x=>(x.1,V.int x.2)).map fun kv:Str×V=>(Sum.inr kv.1,kv.2):=by
 unfold kk;rw[List.map_map]
 rfl
theorem Zr8{ns:List Int}(h:ns.Pairwise (· <= ·)){j:Nat}{d e:Int}(hd:ns[j]? =some d)(he:e∈ns)(lt:e<d):e∈ns.take j:=by
 have hj:j<ns.length:=(List.getElem?_eq_some_iff.mp hd).1;have en:ns[j]=d:=(List.getElem?_eq_some_iff.mp hd).2;rw[<-List.take_append_drop j ns] at he h
 rcases List.mem_append.mp he with m|m
 ·exact m
 ·rw[List.drop_eq_getElem_cons hj,en] at m h
  rcases List.mem_cons.mp m with z|z
  ·omega
  ·have:=(List.pairwise_cons.mp (List.pairwise_append.mp h).2.1).1 e z;omega
theorem Zr9{ds:List Int}(h:ds.Pairwise (· <= ·)){k:Nat}{d e:Int}(hd:(ds.take k).getLast? =some d)(he:ds[k]? =some e):d<=e:=by
 have m:=List.mem_of_getLast? hd;have s:=h.sublist (List.take_sublist (k+1) ds);rw[List.take_add_one,he] at s
 exact(List.pairwise_append.mp s).2.2 d m e (List.mem_singleton_self _)
structure Way (s s2:Hs) (ds:Tb) (aw:List Str) (rn:List Int) (al:Bool):Prop where
 ok:Zg6 s2
 wo:Zef s2
 rs:s2.rs=s.rs
 ws:s2.ws=s.ws
 rn_:s2.runs=rn
 aw_:s2.gs.map (·.1)=aw
 sub:∀r∈aw,r∈ds.map (·.1)
 all:al=true->∀x∈ds,x.2∈rn->x.1∈aw
theorem Way.few{s s2:Hs}{ds:Tb}{aw:List Str}{rn:List Int}{al:Bool}(h:Way s s2 ds aw rn al):aw.length<=ds.length:=by
 have nd:=h.ok.one;rw[h.aw_] at nd
 have:=nd.length_le_of_subset h.sub
 rwa [List.length_map] at this
theorem Way.step{s s2:Hs}{ds:Tb}{aw:List Str}{rn:List Int}{al:Bool}{day d:Int}{zs:List Str}(h:Way s s2 ds aw rn al)(fo:Zlw s.rs s.ws day ds)(dd:day<=d)(st:zs.Pairwise (fun a b=>Xl a b=true))(iff:∀r,r∈zs↔r∉s2.gs.map (·.1)/\ZaD s2 d r):Way s (Zh0 s2 d zs) ds (aw++zs) (rn++[d]) al:=by
 have dn:∀r,ZaD s2 d r↔Zah s.rs s.ws r d:=fun r=>by
  unfold ZaD Zah;rw[h.rs,h.ws]
 refine⟨Zsf h.ok (Zar st) iff,ZoF h.wo iff,h.rs,h.ws, ?_, ?_,fun r hr=> ?_,fun ha x hx m=> ?_⟩
 ·show s2.runs++[d]=_;rw[h.rn_]
 ·rw[ZiG,h.aw_]
 ·rcases List.mem_append.mp hr with m|m
  ·exact h.sub r m
  ·obtain⟨x,hx,e,_⟩:=fo.le ((dn r).mp ((iff r).mp m).2) dd;exact e▸List.mem_map_of_mem (f:=fun x:Str×Int=>x.1) hx
 ·rcases List.mem_append.mp m with m|m
  ·exact List.mem_append_left _ (h.all ha x hx m)
  ·have e:x.2=d:=List.mem_singleton.mp m
   by_cases g:x.1∈aw
   ·exact List.mem_append_left _ g
   ·refine List.mem_append_right _ ((iff x.1).mpr ⟨by rw[h.aw_];exact g,(dn x.1).mpr ?_⟩)
    exact e▸(fo.yes x hx).2.1
theorem JT:ZC ["_law_house","_law_days","_law_runs","_law_alone","_law_away","_law_day","_law_found","_law_record"] ["_law_house","_law_days","_law_runs","_law_alone"] (Zt Zdc):=⟨rfl,rfl,rfl,by decide+kernel,rfl,by decide+kernel,by decide+kernel⟩
theorem Zj5{f:Addr}{fd:FuncData}(F:Fun K "_law_walked" "_law_walked" Zdc f fd)(T:Txt K mg Zh Zf Zg Zb Zo)(Zfu:Cal P w K mg base CX0 41 "_law_took" ["_law_house","_law_day","_law_days","_law_away"] (Zem Zh Zf Zg Zb Zo)):Yl P w K mg base CX0 42 f fd ["_law_house","_law_days","_law_runs","_law_alone"] (Zct Zh Zf Zg Zb Zo):=by
 refine F.ok JT (fun vs H Q E h=> ?_) (fun cdv A outer s H vs Q E hr h=> ?_)
 ·obtain⟨a,D,R,al,day,s,F,ds,ns,rfl,_⟩:=h
  rfl
 ·obtain⟨a,D,R,al,day,s,F,ds,ns,rfl,ho,ok,wo,few,eg,er,hD,oD,hR,oR,fo,ld,ln,so,dd,all,q⟩:=h;have l5:=Xe;have hu:=Zbg hr;have hu3:=Zk5 hr;refine⟨_,(Ze (Zu (i:=4) JT.nd rfl (Or.inl rfl) JQ) (Ze (Xi PassesOwn.never rfl (Yb (pv 2)) (ZF (i:=5) JT.nd rfl (Or.inl rfl)) (Ze (Zu (i:=6) JT.nd rfl (Or.inl rfl) (ZV Zfu (hr.mono (by omega)) rfl ZJ (Za (pv 0) (Za (pv 5) (Za (pv 1) (Za (pv 4) Zj)))))) (Ze (ZZ (Zq Zcd (pv 6) YB (Zv _)) (Zn (Zz ZgN)) ZD) (Zn (Xi PassesOwn.never rfl (Yb (pv 6)) (ZF (i:=7) JT.nd rfl (Or.inl rfl)) (Ze (ZZ (PW.pt (Xz (ZdE (pv 3)) (YX (Zq ZoS (Za9 hu (pv 1) (pv 7) (fun _ _=>rfl)) (pv 5) (Zv _))))) (Zn (Zz ZgN)) ZD) (Zn (ZaE hu (pv 4) (pv 7) ZgN rfl)))))))) (Zn (Zz (Zso (Zrz (pv 3)) (Zmd (Za7 (ZrU hu3) (ZS (ZeU rfl) (by rfl) T.z_sorted Jt (Za (pv 4) Zj)) (ZS (ZeU rfl) (by rfl) T.z_sorted Jt (Za (pv 1) Zj)) (Zv _)))))))), ?_⟩
  refine ZbU fun B_ hB=> ?_;refine(fun W hW0=> ?_);have sW:=Zk hW0 (o:=.dK []);have hW1:upd H W (.dK []) W=some (.dK (akv [])):=Zc;refine hB _ _ ?_;generalize upd H W (.dK [])=H1 at sW hW1
  have oW:W∉F:=ho.off hW0;have nWD:W≠D:=Ne.symm (Zd hD hW0);have nWR:W≠R:=Ne.symm (Zd hR hW0);have ho1:=ho.same sW;have hD1:=sW _ _ hD;have hR1:=sW _ _ hR;refine ZbU fun B_ hB=> ?_;refine⟨_,rfl,R,rfl,⟨_,SqL.of hR1⟩,YH (xs:=ns.map V.int) (fun j σ H'=>∃(s2:Hs) (aw:List Str) (v5 v6 v7:Option V),σ=[some (.ref a),some (.ref D),some (.ref R),some (.bl al),some (.ref W),v5,v6,v7]/\ZL Zh Zf Zg Zb Zo H' a s2 F/\Way s s2 ds aw (ns.take j) al/\H' W=some (.dK (akv aw))/\∀c u,c∉F->c≠W->H1 c=some u->H' c=some u) ?_ ?_ ?_ ?_⟩
  ·refine⟨s,[],none,none,none,rfl,ho1,⟨ok,wo,rfl,rfl,er,by rw[eg];rfl,(fun r hr=>nomatch hr),(fun _ x _ m=>nomatch m)⟩,hW1,fun c u _ _ e=>e⟩
  ·rintro j σ H2 _ ⟨s2,aw,v5,v6,v7,rfl,_,_,_,fr⟩;exact SqL.of (fr _ _ oR (Ne.symm nWR) hR1)
  ·rintro j v σ H2 hv ⟨s2,aw,v5,v6,v7,rfl,ho2,wy,hW2,fr⟩;obtain⟨d,rfl,ed⟩:∃d,v=V.int d/\ns[j]? =some d:=by
    rw[List.getElem?_map] at hv
    cases e:ns[j]? with
    |none=>rw[e] at hv;cases hv
    |some y=>rw[e] at hv;exact⟨y,(Option.some.inj hv).symm,rfl⟩
   have tkd:ns.take (j+1)=ns.take j++[d]:=by rw[List.take_add_one,ed];rfl
   have dle:=dd d (List.mem_of_getElem? ed);have law_:=wy.few;have lgs:s2.gs.length=aw.length:=by rw[<-wy.aw_,List.length_map]
   have lrn:s2.runs.length<=200:=by
    rw[wy.rn_];have:=List.length_take_le j ns;have:=List.length_take_le' j ns;omega
   have hD2:=fr _ _ oD (Ne.symm nWD) hD1;refine ZbU fun B_ hB=> ?_;refine⟨_,rfl,_,rfl,_,rfl,_,rfl,a,D,W,d,day,s2,F,ds,aw,rfl,ho2,wy.ok,by rw[wy.ws];exact few,wy.wo.keys,by omega,by omega,by rw[wy.rn_];exact fun e z=>Zr9 so z ed,hD2,oD,hW2,oW,nWD,by rw[wy.rs,wy.ws];exact fo,ld,dle,fun r=>by rw[wy.aw_],fun L zs H3 kp hA3 hL nL hl st iff=> ?_⟩
   refine hB _ _ ?_;refine ZbU fun B_ hB=> ?_;refine⟨_,rfl,rfl,_,rfl,YJ (fun z=>nomatch z) ?_⟩;refine hB _ _ ?_;have wy3:=wy.step fo dle st iff;have hW3:=kp _ _ oW hW2;have hD3:=kp _ _ oD hD2;have nLW:L≠W:=fun z=>by rw[z,hW2] at hL;cases hL
   have lw3:=wy3.few;rw[List.length_append] at lw3
   have nd3:=wy3.ok.one;rw[wy3.aw_] at nd3
   refine⟨_,rfl,L,rfl,⟨_,SqL.of hl⟩,YH (xs:=zs.map V.str) (fun i σ H'=>∃v7:Option V,σ=[some (.ref a),some (.ref D),some (.ref R),some (.bl al),some (.ref W),some (.int d),some (.ref L),v7]/\H' W=some (.dK (akv (aw++zs.take i)))/\∀c u,c≠W->H3 c=some u->H' c=some u) ?_ ?_ ?_ ?_⟩
   ·exact⟨_,rfl,by rw[List.take_zero,List.append_nil];exact hW3,fun c u _ e=>e⟩
   ·rintro i σ H4 _ ⟨v7,rfl,_,fr4⟩;exact SqL.of (fr4 _ _ nLW hl)
   ·rintro i v σ H4 hv ⟨v7,rfl,hW4,fr4⟩;obtain⟨rc,rfl,erc⟩:∃rc,v=V.str rc/\zs[i]? =some rc:=by
     rw[List.getElem?_map] at hv
     cases e:zs[i]? with
     |none=>rw[e] at hv;cases hv
     |some y=>rw[e] at hv;exact⟨y,(Option.some.inj hv).symm,rfl⟩
    have tkz:zs.take (i+1)=zs.take i++[rc]:=by rw[List.take_add_one,erc];rfl
    obtain⟨ng,due⟩:=(iff rc).mp (List.mem_of_getElem? erc);rw[wy.aw_] at ng
    have due:Zah s.rs s.ws rc d:=by
     unfold ZaD at due
     rw[wy.rs,wy.ws] at due
     exact due
    obtain⟨x,hx,rfl,le⟩:=fo.le due dle;have dD:Zd2 H4 D (.str x.1) (some (.int x.2)):=.inl ⟨_,Sum.inr x.1,.inl (fr4 _ _ (Ne.symm nWD) hD3),rfl,by rw[Zhk,Zk6 fo.one hx];rfl⟩
    have nin:x.1∉aw++zs.take i:=fun z=>(List.mem_append.mp z).elim ng (ZbS (Zar st) erc);have lti:=List.length_take_le' i zs;have exd:al=true->x.2=d:=fun ha=>by
     rcases Int.lt_or_le x.2 d with lt|ge
     ·exact absurd (wy.all ha x hx (Zr8 so ed (all ha x hx) lt)) ng
     ·omega
    have lak:(akv (aw++zs.take i)).length<sizeLine:=by
     unfold akv;rw[List.length_map,List.length_append];omega
    have next:∃v7:Option V,[some (V.ref a),some (.ref D),some (.ref R),some (.bl al),some (.ref W),some (.int d),some (.ref L),some (.str x.1)]=[some (V.ref a),some (.ref D),some (.ref R),some (.bl al),some (.ref W),some (.int d),some (.ref L),v7]/\upd H4 W (.dK (Js (akv (aw++zs.take i)) (Sum.inr x.1) (.bl true))) W=some (.dK (akv (aw++zs.take (i+1))))/\∀c u,c≠W->H3 c=some u->upd H4 W (.dK (Js (akv (aw++zs.take i)) (Sum.inr x.1) (.bl true))) c=some u:=
     ⟨_,rfl,by rw[Zc,Zr7 nin,tkz,List.append_assoc],fun c u n e=>by rw[Zm n];exact fr4 c u n e⟩
    refine ZbU fun B_ hB=> ?_;cases al with
    |false=>
     refine⟨_,rfl,_,rfl,Yt (Yt (hB _ _ ?_))⟩;exact⟨_,rfl,_,rfl,W,_,rfl,ZfL.k (k:=Sum.inr x.1) hW4 lak,next⟩
    |true=>
     refine⟨_,rfl,_,rfl,JZ ⟨_,rfl,_,rfl,D,_,rfl,dD,_,rfl,rfl,_,rfl,Zrt (congrArg V.int (exd rfl)) (hB _ _ ?_)⟩⟩;exact⟨_,rfl,_,rfl,W,_,rfl,ZfL.k (k:=Sum.inr x.1) hW4 lak,next⟩
   ·rintro σ H4 ⟨v7,rfl,hW4,fr4⟩;rw[List.length_map,List.take_length] at hW4
    refine⟨Zh0 s2 d zs,aw++zs,_,_,_,rfl,ZL.write ho hA3 (fun c u m e=>kp c u m (fr c u m (Zd e hW0) (sW _ _ e))) hW0 oW hW3 fr4,by rw[tkd];exact wy3,hW4,fun c u m n e=>fr4 c u n (kp c u m (fr c u m n e))⟩
  ·rintro σ H2 ⟨s2,aw,v5,v6,v7,rfl,ho2,wy,hW2,fr⟩;refine hB _ _ ?_;rw[List.length_map,List.take_length] at wy
   have kp2:ZeO F H H2:=fun c u m e=>fr c u m (Zd e hW0) (sW _ _ e);have hD2:=fr _ _ oD (Ne.symm nWD) hD1;have lf:=wy.few;cases al with
   |false=>exact⟨_,rfl,false,rfl,true,rfl,JZ (q H2 kp2)⟩
   |true=>
    have nd:=wy.ok.one;rw[wy.aw_] at nd
    have pm:aw.Perm (ds.map (·.1)):=(List.perm_ext_iff_of_nodup nd fo.one).mpr fun r=>⟨wy.sub r,fun m=>by
     obtain⟨x,hx,rfl⟩:=List.mem_map.mp m;exact wy.all rfl x hx (all rfl x hx)⟩
    rw[Zsh] at hW2
    rw[Zte] at hD2
    refine⟨_,rfl,true,rfl,false,rfl,Yt ⟨_,rfl,W,_,rfl,hW2,by rw[List.length_map];omega,fun s1 p1 o1 t1 ht1=>⟨_,rfl,D,_,rfl,Zk ht1 _ _ hD2,by rw[List.length_map];omega,fun s2' p2 o2 t2 ht2=> ?_⟩⟩⟩
    have e1:(aw.map fun r=>(r,V.bl true)).map (fun kv:Str×V=>kv.1)=aw:=by
     rw[List.map_map];exact(List.map_congr_left fun _ _=>rfl).trans (List.map_id _)
    have e2:(ds.map fun x=>(x.1,V.int x.2)).map (fun kv:Str×V=>kv.1)=ds.map (·.1):=by
     rw[List.map_map]
     rfl
    rw[e1] at p1
    rw[e2] at p2
    obtain rfl:s1=s2':=Zne (Zej p1 nd (ZbR o1)) (Zej p2 fo.one (ZbR o2)) fun r=>by rw[p1.mem_iff,p2.mem_iff,pm.mem_iff]
    have sq:=ZoG s1;refine⟨1,.lst (s1.map fun z=>Dt.v (.str z)),.lst (s1.map fun z=>Dt.v (.str z)),by decide,rfl,.lst (SqL.of (Zk ht2 _ _ Zc)) (Zia _),.lst (SqL.of Zc) (Zia _),sq.2, ?_⟩;show Q (.bl (Jb 1 (.lst (s1.map fun z=>Dt.v (.str z))) (.lst (s1.map fun z=>Dt.v (.str z))))) _;rw[sq.1];exact q _ fun c u m e=>Zk ht2 _ _ (Zk ht1 _ _ (kp2 c u m e))
theorem Zsi(ns:List Int):∃ms:List Int,Jr (ns.map V.int) (some 2) (some 42)=ms.map V.int/\ms.length<=40:=by
 refine⟨(ns.drop (HT.sIx ns.length 0 (some 2))).take (HT.sIx ns.length ns.length (some 42)-HT.sIx ns.length 0 (some 2)), ?_, ?_⟩
 ·unfold Jr;rw[List.length_map,List.map_take,List.map_drop]
 ·rw[List.length_take,show(42:Int)=((42:Nat):Int) from rfl,show(2:Int)=((2:Nat):Int) from rfl,HT.Zez,HT.Zez];omega
theorem Zsj{us:List Rw}{r:Str}(h:Xm us r=true):r∈YL us:=by
 obtain⟨w,hw,e⟩:=List.any_eq_true.mp h;cases w with
 |put x s d=>exact List.mem_filterMap.mpr ⟨_,hw,congrArg some (of_decide_eq_true e)⟩
 |_=>cases e
theorem Zra{rs:List Sr}{i:Nat}{xs:List Str}{ws:List Rw}(h:YM rs i xs ws):(YL ws).Nodup:=by
 unfold YL;refine List.nodup_iff_pairwise_ne.mpr (List.pairwise_filterMap.mpr (h.one.imp fun{a b} n x ha y hb e=> ?_));cases a with
 |put r s d=>
  cases b with
  |put r' s' d'=>
   have ha:some r=some x:=ha;have hb:some r'=some y:=hb
   injection ha with ha
   injection hb with hb
   exact n ⟨.inl rfl,rfl,by show r=r';rw[ha,hb,e]⟩
  |_=>cases hb
 |_=>cases ha
theorem Zm9(rs:List Sr)(ws:List Rw)(day:Int):∀recs:List Str,((Zcp rs ws day recs).map (·.2)).Sublist recs
 |[]=>List.Sublist.refl _
 |r::recs=>by
  have ih:=Zm9 rs ws day recs;unfold Zcp at ih⊢
  cases e:Xx rs ws r day with
  |none=>
   rw[List.filterMap_cons_none (by rw[e];rfl)]
   exact ih.cons r
  |some f=>
   rw[List.filterMap_cons_some (b:=((f,r):Xd)) (by rw[e];rfl)]
   exact ih.cons₂ r
theorem Zrb{rs:List Sr}{ws:List Rw}{day:Int}{zs:List Xd}(nd:(YL ws).Nodup)(pm:zs.Perm (Zcp rs ws day (YL ws)))(fd:∀r∈YL ws,XN rs ws r day (Xx rs ws r day)):Zlw rs ws day (zs.map fun y=>(y.2,y.1)):=by
 have ek:(zs.map fun y:Xd=>(y.2,y.1)).map (fun x:Str×Int=>x.1)=zs.map (·.2):=by
  rw[List.map_map]
  rfl
 have mem:∀r f,(f,r)∈zs↔r∈YL ws/\Xx rs ws r day=some f:=fun r f=>by
  rw[pm.mem_iff];unfold Zcp;rw[List.mem_filterMap]
  constructor
  ·rintro⟨r',hr',e⟩;cases g:Xx rs ws r' day with
   |none=>rw[g] at e;cases e
   |some f'=>
    rw[g] at e
    have e:some ((f',r'):Xd)=some (f,r):=e
    injection e with e
    injection e with e1 e2
    subst e1 e2;exact⟨hr',g⟩
  ·rintro⟨hr,g⟩;exact⟨r,hr,by rw[g];rfl⟩
 refine⟨?_,fun x hx=> ?_,fun r hr x dx=> ?_⟩
 ·rw[ek,(pm.map (·.2)).nodup_iff];exact(Zm9 rs ws day (YL ws)).nodup nd
 ·obtain⟨y,hy,rfl⟩:=List.mem_map.mp hx;obtain⟨h1,h2⟩:=(mem y.2 y.1).mp hy;have:=fd y.2 h1;rw[h2] at this
  exact this
 ·by_cases m:r∈YL ws
  ·have h:=fd r m;cases g:Xx rs ws r day with
   |none=>
    rw[g] at h
    exact h x dx
   |some f=>
    rw[ek] at hr
    exact absurd (List.mem_map_of_mem (f:=fun y:Xd=>y.2) ((mem r f).mpr ⟨m,g⟩)) hr
  ·refine Zig ?_;cases e:Xm (ZR ws x) r with
   |false=>rfl
   |true=>
    obtain⟨w,hw,z⟩:=List.any_eq_true.mp e;exact absurd (Zsj (List.any_eq_true.mpr ⟨w,(List.mem_filter.mp hw).1,z⟩)) m
theorem Zqh{c:Tb}{k:Str}{v:Int}(h:k∉c.map (·.1)):ZeL c k v=c++[(k,v)]:=by
 unfold ZeL;rw[if_neg];intro z;obtain⟨p,hp,e⟩:=List.any_eq_true.mp z;exact h (List.mem_map.mpr ⟨p,hp,of_decide_eq_true e⟩)
def ZiI(S:List Int)(i:Nat):List V:=if i=0\/S[i]?≠S[i-1]? then((S[i]?).map V.int).toList else[]
def Zg9(S:List Int):List Int:=(List.range S.length).flatMap fun i=>if i=0\/S[i]?≠S[i-1]? then(S[i]?).toList else[]
theorem Zrc(S:List Int):(List.range S.length).flatMap (ZiI S)=(Zg9 S).map V.int:=by
 unfold Zg9;rw[List.map_flatMap]
 congr 1
 funext i
 unfold ZiI
 by_cases h:i=0\/S[i]?≠S[i-1]?
 ·rw[if_pos h,if_pos h];cases S[i]? <;>rfl
 ·rw[if_neg h,if_neg h]
  rfl
theorem Zqi(S:List Int):(Zg9 S).Sublist S:=by
 unfold Zg9;have go:∀n,n<=S.length->((List.range n).flatMap fun i=>if i=0\/S[i]?≠S[i-1]? then(S[i]?).toList else[]).Sublist (S.take n):=by
  intro n
  induction n with
  |zero=>intro _;exact List.nil_sublist _
  |succ n ih=>
   intro hn;rw[List.range_succ,List.flatMap_append,List.flatMap_singleton,List.take_add_one];refine List.Sublist.append (ih (by omega)) ?_
   split
   ·exact List.Sublist.refl _
   ·exact List.nil_sublist _
 have:=go S.length (Nat.le_refl _)
 rwa [List.take_length] at this
theorem Zqj{S:List Int}{x:Int}(h:x∈S):x∈Zg9 S:=by
 obtain⟨n,hn,rfl⟩:=List.getElem_of_mem h;have mem:∀n,n<S.length->(n=0\/S[n]?≠S[n-1]?)->∀y,S[n]? =some y->y∈Zg9 S:=fun n hn c y e=>by
  unfold Zg9;refine List.mem_flatMap.mpr ⟨n,List.mem_range.mpr hn, ?_⟩;rw[if_pos c,e];exact List.mem_singleton_self _
 have go:∀n,n<S.length->∀y,S[n]? =some y->y∈Zg9 S:=by
  intro n
  induction n with
  |zero=>exact fun hn y e=>mem 0 hn (.inl rfl) y e
  |succ n ih=>
   intro hn y e
   by_cases c:S[n+1]? =S[n]?
   ·exact ih (by omega) y (c▸e)
   ·exact mem (n+1) hn (.inr (by rw[Nat.add_sub_cancel];exact c)) y e
 exact go n hn _ (List.getElem?_eq_getElem hn)
theorem Zsk{es:List Int}{i:Nat}(hi:i<es.length):atI (es.map V.int) (0+(i:Int))=some (.int es[i]):=by
 unfold atI ixN;rw[if_pos (by omega),if_pos (by rw[List.length_map];omega)]
 show(es.map V.int)[(0+(i:Int)).toNat]? =_;rw[show(0+(i:Int)).toNat=i by omega,List.getElem?_map,List.getElem?_eq_getElem hi]
 rfl
theorem Zrd{es:List Int}{i:Nat}(hi:i<es.length)(h0:i≠0):atI (es.map V.int) (0+(i:Int)-1)=some (.int (es[i-1]'(by omega))):=by
 unfold atI ixN;rw[if_pos (by omega),if_pos (by rw[List.length_map];omega)]
 show(es.map V.int)[(0+(i:Int)-1).toNat]? =_;rw[show(0+(i:Int)-1).toNat=i-1 by omega,List.getElem?_map,List.getElem?_eq_getElem (by omega)]
 rfl
theorem Zma{H:Hp}:∀{zs:List Xd} {us:List V},Paired (Zai H) zs us->∀(i:Nat) (u:V),us[i]? =some u->∃y,zs[i]? =some y/\Zai H y u
 |_,_,.nil,i,u,h=>by simp at h
 |_,_,.cons (a:=r) (b:=v) x t,0,u,h=>by
  have h:v=u:=by simpa using h
  subst h;exact⟨r,rfl,x⟩
 |_,_,.cons _ t,i+1,u,h=>by
  obtain⟨r,e,z⟩:=Zma t i u (by simpa using h);exact⟨r,by simpa using e,z⟩
theorem iteNe'{c A B:Prop} [Decidable c](hc:¬c)(h:A):if(!decide c)=true then A else B:=by
 rw[decide_eq_false hc];exact JZ h
theorem Zqk{K:PySem.W.Frag}{H H':Hp}{a:Addr}{xs:List V}(h:SqL K H a xs)(m:∀u,H a=some u->H' a=some u):SqL K H' a xs:=by
 rcases h with (h|⟨o,h⟩)|h
 ·exact .inl (.inl (m _ h))
 ·exact .inl (.inr ⟨o,m _ h⟩)
 ·exact .inr h
theorem Ztf(ns:List Int):∃ms:List Int,Jr (ns.map V.int) (some 2) (some 8)=ms.map V.int/\ms.length<=6:=by
 refine⟨(ns.drop (HT.sIx ns.length 0 (some 2))).take (HT.sIx ns.length ns.length (some 8)-HT.sIx ns.length 0 (some 2)), ?_, ?_⟩
 ·unfold Jr;rw[List.length_map,List.map_take,List.map_drop]
 ·rw[List.length_take,show(8:Int)=((8:Nat):Int) from rfl,show(2:Int)=((2:Nat):Int) from rfl,HT.Zez,HT.Zez];omega
theorem Zmb(xs:List V)(k:Nat):Jr xs (some (k:Int)) none=xs.drop k:=by
 unfold Jr;rw[HT.Zla,HT.Zez,List.take_of_length_le (by rw[List.length_drop];omega)]
 by_cases h:k<=xs.length
 ·rw[Nat.min_eq_left h]
 ·have lt:xs.length<=k:=Nat.le_of_not_le h;rw[Nat.min_eq_right lt,List.drop_length,List.drop_of_length_le lt]
theorem Za3:ZC ["_law_script","_law_names_by","_law_by","_law_book","_law_far","_law_rows","_law_day","_law_days","_law_at","_law_record","_law_one","_law_other","_law_row","_law_runs","_law_drawn"] ["_law_script"] (Zt ZfR):=⟨rfl,rfl,rfl,by decide+kernel,rfl,by decide+kernel,by decide+kernel⟩
theorem Zsl{f:Addr}{fd:FuncData}(F:Fun K "law" "law" ZfR f fd)(T:Txt K mg Zh Zf Zg Zb Zo)(Zhu:Zk7 P w K mg base CX0 1 "House" Zo ["self","book"] (Zcq Zo))(Zcu:Cal P w K mg base CX0 3 "_law_book_by" ["_law_script","_law_names_by"] (ZbJ K))(Xn:Cal P w K mg base CX0 1 "_law_cell_at" ["_law_script","_law_k"] (Zaf K))(Zcv:Cal P w K mg base CX0 4 "_law_rows_by" ["_law_cells","_law_names_by","_law_far","_law_book"] ZbK)(Zen:Cal P w K mg base CX0 17 "_law_terms" ["_law_book"] (Zdk Zh Zf Zg Zb))(Zbp:Cal P w K mg base CX0 42 "_law_walked" ["_law_house","_law_days","_law_runs","_law_alone"] (Zct Zh Zf Zg Zb Zo))(ZkX:Zbj P w K mg base CX0 40 "tell" ["self","row"] (Zhs Zh Zf Zg Zb 12) (fun C=>C=Zo))(Zfv:Cal P w K mg base CX0 16 "foretold" ["book","rows","day"] (Ze6 Zh Zf Zg Zb)):Yl P w K mg base CX0 43 f fd ["_law_script"] (Zp9 K):=by
 refine F.ok Za3 (fun vs H Q E h=> ?_) (fun cdv A outer s H vs Q E hr h=> ?_)
 ·obtain⟨a,ns,rfl,_⟩:=h
  rfl
 ·obtain⟨a,ns,rfl,hS,hlen,_,fin⟩:=h;have l5:=Xe;have hu:=Zbg hr;have hu3:=Zk5 hr;refine⟨_,(Ze (Zu (i:=1) Za3.nd rfl (Or.inl rfl) (ZV Xn (hr.mono (by omega)) rfl ZJ (Za (pv 0) (Za Zi Zj)))) (Ze (Zu (i:=2) Za3.nd rfl (Or.inl rfl) (ZS Zhz (by rfl) T.z_abs Zmu (Za (ZV Xn (hr.mono (by omega)) rfl ZJ (Za (pv 0) (Za Zi Zj))) Zj))) (Ze (Zu (i:=3) Za3.nd rfl (Or.inl rfl) (ZV Zen (hr.mono (by omega)) rfl ZJ (Za (ZV Zcu (hr.mono (by omega)) rfl ZJ (Za (pv 0) (Za (pv 1) Zj))) Zj))) (Ze (Zu (i:=4) Za3.nd rfl (Or.inl rfl) (Zx YZ (Yk (Za Zi (Za Zi (Za (Zw XX (Zw ZoP Zi Zi) Zi) Zj)))) (Zw ZW (pv 1) Zi) (fun _ _=>rfl))) (Ze (Zu (i:=5) Za3.nd rfl (Or.inl rfl) (ZV Zcv (hr.mono (by omega)) rfl ZJ (Za (ZcC Zhh (pv 0) (Zc0 Zi) (Zc0 Zi)) (Za (pv 1) (Za (pv 4) (Za (pv 3) Zj)))))) (Ze (Zu (i:=6) Za3.nd rfl (Or.inr rfl) (Zx YZ (Yk (Za Zi (Za (Zw XX (pv 4) (Zw ZW (pv 2) Zi)) (Za (Zw XX (pv 4) (Zw ZW (pv 2) Zi)) Zj)))) (Zw ZW (pv 2) Zi) (fun _ _=>rfl))) (Ze (Zu (i:=7) Za3.nd rfl (Or.inl rfl) JQ) (Ze (Xi PassesOwn.never rfl (Yb (ZV Zfv (hr.mono (by omega)) rfl ZJ (Za (pv 3) (Za (pv 5) (Za (pv 6) Zj))))) (Zgf rfl (Xp (ZF (i:=8) Za3.nd rfl (Or.inl rfl)) (Xp (ZF (i:=9) Za3.nd rfl (Or.inl rfl)) ZcZ))) (Zn (ZaE hu (pv 7) (pv 9) (pv 8) rfl))) (Ze (Zu (i:=10) Za3.nd rfl (Or.inl rfl) (ZhI Zhu (hr.mono (by omega)) rfl ZJ (Za (pv 3) Zj))) (Ze (Zu (i:=11) Za3.nd rfl (Or.inl rfl) (ZhI Zhu (hr.mono (by omega)) rfl ZJ (Za (pv 3) Zj))) (Ze (Xi PassesOwn.never rfl (Yb (pv 5)) (ZF (i:=12) Za3.nd rfl (Or.inl rfl)) (Ze (Xh (Zaa (pv 10) ZkX (hr.mono (by omega)) ZJ (Za (pv 12) Zj))) (Zn (Xh (Zaa (pv 11) ZkX (hr.mono (by omega)) ZJ (Za (pv 12) Zj)))))) (Ze (Zu (i:=13) Za3.nd rfl (Or.inr rfl) (ZS (Zkg rfl hu3) (by rfl) T.z_sorted Jt (Za (Zo7 (pv 7)) Zj))) (Ze (ZZ (Zmc (ZdE (ZV Zbp (hr.mono (by omega)) rfl ZJ (Za (pv 10) (Za (pv 7) (Za (Jc ["_law_k"] [("_law_runs",13)] rfl (ZcB rfl T.z_range (Za (ZS JP (by rfl) T.z_len Zce (Za (pv 13) Zj)) Zj)) (by rfl) (by exact⟨rfl,trivial⟩) (by rfl) (by exact⟨⟨rfl,rfl,rfl⟩,trivial⟩) (fun _ _ _ _=>(ZF (i:=0) (show(nmY ["_law_k"] [("_law_runs",13)]).Nodup by decide+kernel) rfl (Or.inl rfl))) (fun _ _ _ _=>(Jw (PW.pt (ZgO (Zq Ym (pv 0) Zi (Zv _)) (ZeX (Zq ZoS (Zx (ZhT (K:=K) rfl) (pv 1) (pv 0) (fun _ _=>rfl)) (Zx (ZhT (K:=K) rfl) (pv 1) (Zw Zmg (pv 0) Zi) (fun _ _=>rfl)) (Zv _))))))) (fun _ _ _ _=>(Zx (ZhT (K:=K) rfl) (pv 1) (pv 0) (fun _ _=>rfl)))) (Za ZgN Zj))))))) (Zn (Zz ZgN)) ZD) (Ze (ZeC (i:=14) ["_law_cell"] [("_law_day",6)] Za3.nd rfl (Or.inl rfl) rfl (Yb (ZcC Zhh (pv 0) (Zc0 Zi) (Zc0 Zi))) (by rfl) (by exact⟨rfl,trivial⟩) (by rfl) (by exact⟨⟨rfl,rfl,rfl⟩,trivial⟩) (fun _ _ _ _=>(ZF (i:=0) (show(nmY ["_law_cell"] [("_law_day",6)]).Nodup by decide+kernel) rfl (Or.inl rfl))) (fun _ _ _ _=>Zc1) (fun _ _ _ _=>(Zw XX (pv 1) (Zw ZW (Zw ZaF (ZS Zhz (by rfl) T.z_abs Zmu (Za (pv 0) Zj)) Zi) Zi)))) (Zn (Zz (ZV Zbp (hr.mono (by omega)) rfl ZJ (Za (pv 11) (Za (pv 7) (Za (ZS (Zd9 ZfQ hu3) (by rfl) T.z_sorted Jt (Za (Zw Zd4 (ZcC Zhh (pv 13) (Zc0 (Zw ZW (pv 2) Zi)) Zhg) (pv 14)) Zj)) (Za ZgN Zj))))))))))))))))))))), ?_⟩
  obtain⟨ms,em,lm⟩:=Zsi ns;obtain⟨m6,em6,lm6⟩:=Ztf ns;have lm63:ms.length<=63:=by omega
  refine ZbU fun B_ hB=> ?_;refine⟨_,rfl,a,ns,0,rfl,hS,fun H0 s0=> ?_⟩;refine hB _ _ ?_;generalize ns[0]?.getD 0=n0;refine ZbU fun B_ hB=> ?_;refine⟨_,rfl,a,ns,1,rfl,s0.seq hS,fun H1 s01=>⟨_,rfl, ?_⟩⟩;refine hB _ _ ?_;have hBy:0<=(if ns[1]?.getD 0<0 then-(ns[1]?.getD 0) else ns[1]?.getD 0):=by split<;>omega
  generalize (if ns[1]?.getD 0<0 then-(ns[1]?.getD 0) else ns[1]?.getD 0)=B at hBy
  have s1:=s0.trans s01;refine ZbU fun B_ hB=> ?_;refine⟨_,rfl,_,rfl,a,ns,n0,rfl,s1.seq hS,fun p rs H2 hp2 s2 lb bk lo hi=> ?_⟩;refine⟨p,rs,rfl,lb,hi,ZfY bk,fun S H6 hS6 s6 bk6=> ?_⟩;refine hB _ _ ?_;refine ZbU fun B_ hB=> ?_;obtain⟨far,_,efar⟩:=ZnM [0,0,10^(43:Int).toNat+7] (n0%3) rfl (Int.emod_nonneg _ (by decide)) (Int.emod_lt_of_pos _ (by decide));refine⟨_,_,rfl,rfl,ZpB (by decide) (by decide),_,_,rfl,rfl,(show 3<=sizeLine from sl),fun t1 ht1=>vI rfl (by show(0:Int)<3;decide) ⟨t1,_,_,_,rfl,rfl,SqL.of Zc,efar, ?_⟩⟩
  have s3:=Zk ht1 (o:=.lst [.int 0,.int 0,.int (10^(43:Int).toNat+7)]);refine hB _ _ ?_;generalize upd H6 t1 (.lst [.int 0,.int 0,.int (10^(43:Int).toNat+7)])=H7 at s3
  have s17:=s1.trans (s2.trans (s6.trans s3));refine ZbU fun B_ hB=> ?_;refine⟨_,rfl,_,rfl,_,rfl,a,_,rfl,s17.seq hS,fun Pc hP=> ?_⟩;have s4:=Zk hP (o:=.lst (Jr (ns.map V.int) (some 2) (some 42)));have hPc:upd H7 Pc (.lst (Jr (ns.map V.int) (some 2) (some 42))) Pc=some (.lst (ms.map V.int)):=by rw[Zc,em]
  generalize upd H7 Pc (.lst (Jr (ns.map V.int) (some 2) (some 42)))=H8 at s4 hPc
  have bk8:=Jf (s3.trans s4) bk6;obtain⟨es,hes,pes⟩:=id bk8;refine⟨_,rfl,_,rfl,_,rfl,Pc,ms,n0,far,S,rs,rfl,hPc,by omega,⟨es,hes,Zm5 pes⟩,lo,hi,fun ws xs R H9 hR s5 rw9 ri lws=> ?_⟩;refine hB _ _ ?_;have bk9:=Jf s5 bk8;have hS9:=(s17.trans (s4.trans s5)).seq hS;refine ZbU fun B_ hB=> ?_;obtain⟨dy,_,edy⟩:=ZnM [0,far+B%900,far+B%5000] (B%3) rfl (Int.emod_nonneg _ (by decide)) (Int.emod_lt_of_pos _ (by decide))
  refine⟨_,rfl,vI rfl (by show(0:Int)<900;decide) ⟨_,_,rfl,rfl,_,rfl,vI rfl (by show(0:Int)<5000;decide) ⟨_,_,rfl,rfl,show 3<=sizeLine from sl,fun t2 ht2=>vI rfl (by show(0:Int)<3;decide) ⟨t2,_,_,_,rfl,rfl,SqL.of Zc,edy, ?_⟩⟩⟩⟩
  have sA:=Zk ht2 (o:=.lst [.int 0,.int (far+B%900),.int (far+B%5000)]);refine hB _ _ ?_;generalize upd H9 t2 (.lst [.int 0,.int (far+B%900),.int (far+B%5000)])=HA at sA
  refine ZbU fun B_ hB=> ?_;refine(fun Dd hDd=> ?_);have sB:=Zk hDd (o:=.dK []);have hDB:upd HA Dd (.dK []) Dd=some (.dK (kk [])):=Zc;refine hB _ _ ?_;generalize upd HA Dd (.dK [])=HB at sB hDB
  have s9B:=sA.trans sB;have bkB:=Jf s9B bk9;have rwB:=Yh s9B rw9;have hSB:=s9B.seq hS9;have few:Zkn rs ws:=⟨ri.of (by omega),by omega⟩
  refine ZbU fun B_ hB=> ?_;refine⟨_,rfl,_,rfl,_,rfl,S,R,rs,ws,dy,rfl,bkB,bk,by omega,rwB,few,fun L us zs HC hL sC hl po pm _ fd=> ?_⟩;have fo:=Zrb (Zra ri) pm fd;have lz:zs.length<=40:=by
   rw[pm.length_eq];have h1:=Zij rs ws dy (YL ws);have h2:(YL ws).length<=ws.length:=List.length_filterMap_le ..;omega
  have lu:=Paired.length po;have hDC:=sC _ _ hDB;have nLD:L≠Dd:=fun z=>by rw[z,hDB] at hL;cases hL
  have ndz:=fo.one;refine⟨L,rfl,⟨_,SqL.of hl⟩,YH (xs:=us) (fun j σ H'=>∃v8 v9:Option V,σ=[some (.ref a),some (.int n0),some (.int B),some (.ref S),some (.int far),some (.ref R),some (.int dy),some (.ref Dd),v8,v9,none,none,none,none,none]/\H' Dd=some (.dK (kk ((zs.take j).map fun y=>(y.2,y.1))))/\∀c u,c≠Dd->HC c=some u->H' c=some u) ?_ ?_ ?_ ?_⟩
  ·exact⟨none,none,rfl,hDC,fun c u _ e=>e⟩
  ·rintro j σ H3 _ ⟨v8,v9,rfl,_,fr⟩;exact SqL.of (fr _ _ nLD hl)
  ·rintro j v σ H3 hv ⟨v8,v9,rfl,hD3,fr⟩;have kt3:∀c ys,HC c=some (.tup ys)->H3 c=some (.tup ys):=fun c ys e=>fr c _ (Yj e hDC (fun z=>nomatch z)) e;obtain⟨y,ey,p1,rfl,hp1⟩:=Zma (ZbO kt3 po) j v hv;have tkz:zs.take (j+1)=zs.take j++[y]:=by rw[List.take_add_one,ey];rfl
   have lt:=List.length_take_le' j zs;have nin:y.2∉((zs.take j).map fun y:Xd=>((y.2,y.1):Str×Int)).map (·.1):=fun z=>by
    rw[List.map_map] at z
    rw[List.map_map] at ndz
    have e2:(zs.map ((fun x:Str×Int=>x.1)∘fun y:Xd=>(y.2,y.1)))[j]? =some y.2:=by rw[List.getElem?_map,ey];rfl
    refine ZbS ndz e2 ?_;rw[<-List.map_take];exact z
   refine⟨p1,_,rfl,SqT.of hp1,rfl,_,_,rfl,_,_,rfl,rfl, ?_⟩;refine⟨_,rfl,_,rfl,_,rfl,Dd,_,rfl,ZfL.k (k:=Sum.inr y.2) hD3 (by rw[ZcG,List.length_map];omega), ?_⟩
   exact⟨_,_,rfl,by rw[Zc,ZmC,Zqh nin,tkz,List.map_append];rfl,fun c u n e=>by rw[Zm n];exact fr c u n e⟩
  rintro σ HD ⟨v8,v9,rfl,hDD,fr⟩;refine hB _ _ ?_;rw[<-lu,List.take_length] at hDD
  have lds:(zs.map fun y:Xd=>((y.2,y.1):Str×Int)).length<=40:=by rw[List.length_map];exact lz
  generalize (zs.map fun y:Xd=>((y.2,y.1):Str×Int))=ds at hDD fo lds ndz
  have sBD:Zy HA HD:=fun c u e=>fr c u (Zd e hDd) (sC _ _ (sB _ _ e));have hSE:=(sA.trans sBD).seq hS9;obtain⟨rr,hRE,pwE⟩:=Yh (sA.trans sBD) rw9;have lrr:=Paired.length pwE;obtain⟨cs,hcE,pcE⟩:=Jf (sA.trans sBD) bk9;clear fr hl po pm fd hDC hDB bkB rwB hSB sC sB sA s9B rw9 bk9 hS9 em hPc hes pes bk8 bk6 lb ht2;generalize HD=HE at hDD hSE hRE pwE hcE pcE
  refine ZbU fun B_ hB=> ?_;refine⟨_,rfl, ?_⟩;refine(fun x dx hx hdx _=> ?_);have hcS:upd (upd HE dx (.own x)) x (.ins Zo dx []) S=some (.lst (cs.map V.ref)):=by rw[Zm (Zd hcE hx),Zm (Zd hcE hdx)];exact hcE
  refine⟨x,dx,S,_,rfl,Zc,hcS,fun b t o h r k w HF nd fr kp hxA hbA htA hoA hhA hrA hkA hwA=>⟨rfl, ?_⟩⟩;refine hB _ _ ?_;have sF:Zy HE HF:=fun c u e=>kp c u (Zd e hx) (by rw[Zm (Zd e hx),Zm (Zd e hdx)];exact e)
  have hA0:ZL Zh Zf Zg Zb Zo HF x ⟨rs,[],[],[],[]⟩ [t,o,h,r,k,w]:=ZjL (b:=b) (dx:=dx) nd hxA ⟨cs,hbA,Zbt sF pcE⟩ htA hoA hhA hrA hkA hwA;have off0:∀c u,HE c=some u->c∉[t,o,h,r,k,w]:=fun c u e m=>by
   have:=fr c (List.mem_cons_of_mem _ m);rw[Zm (Zd e hx),Zm (Zd e hdx),e] at this
   cases this
  generalize [t,o,h,r,k,w]=F0 at hA0 off0
  have hRF:=sF _ _ hRE;have pwF:=ZM sF pwE;have hDF:=sF _ _ hDD;have hcF:=sF _ _ hcE;have pcF:=Zbt sF pcE;have oR:=off0 _ _ hRE;have oD:=off0 _ _ hDD;have oAF:∀u,HE a=some u->a∉F0:=fun u e=>off0 _ _ e;have mEF:∀u,HE a=some u->HF a=some u:=fun u e=>sF _ _ e;clear off0 fr kp hxA hbA htA hoA hhA hrA hkA hwA nd hcS hx hdx sF hRE pwE hDD hcE pcE;refine ZbU fun B_ hB=> ?_;refine⟨_,rfl, ?_⟩;refine(fun y dy' hy hdy _=> ?_)
  have hcS:upd (upd HF dy' (.own y)) y (.ins Zo dy' []) S=some (.lst (cs.map V.ref)):=by rw[Zm (Zd hcF hy),Zm (Zd hcF hdy)];exact hcF
  refine⟨y,dy',S,_,rfl,Zc,hcS,fun b t o h r k w HL nd fr kp hxA hbA htA hoA hhA hrA hkA hwA=>⟨rfl, ?_⟩⟩;refine hB _ _ ?_;have sL:Zy HF HL:=fun c u e=>kp c u (Zd e hy) (by rw[Zm (Zd e hy),Zm (Zd e hdy)];exact e)
  have hB0:ZL Zh Zf Zg Zb Zo HL y ⟨rs,[],[],[],[]⟩ [t,o,h,r,k,w]:=ZjL (b:=b) (dx:=dy') nd hxA ⟨cs,hbA,Zbt sL pcF⟩ htA hoA hhA hrA hkA hwA;have non:∀c∈[b,t,o,h,r,k,w],HF c=none:=fun c m=>by
   cases e:HF c with
   |none=>rfl
   |some u=>
    have:=fr c m;rw[Zm (Zd e hy),Zm (Zd e hdy),e] at this
    cases this
  have offB:∀c u,HF c=some u->c∉[t,o,h,r,k,w]:=fun c u e m=>by
   rw[non c (List.mem_cons_of_mem _ m)] at e
   cases e
  have hbn:=non b (List.mem_cons_self ..);generalize [t,o,h,r,k,w]=G0 at hB0 offB
  have two0:Two Zh Zf Zg Zb Zo x y ⟨rs,[],[],[],[]⟩ ⟨rs,[],[],[],[]⟩ F0 G0 HL:=by
   refine⟨hA0.same sL,hB0,fun c m=> ?_,fun dx' b' t' o' h' r' k' w' e=> ?_,fun dx' b' t' o' h' r' k' w' e=> ?_⟩
   ·rcases hA0.kinds c m with ⟨_,z⟩|⟨_,z⟩<;>exact offB _ _ z
   ·obtain⟨dx2,b2,t2,o2,h2,r2,k2,w2,ha,_⟩:=hA0.ins;have ha2:=sL _ _ ha;rw[e] at ha2
    obtain⟨u,hu⟩:=hA0.book (show HF x=some (.ins Zo dx' (fH b' t' o' h' r' k' w')) by rw[ha,ha2]);exact offB _ _ hu
   ·rw[hxA] at e
    injection e with e
    injection e with _ _ e
    rw[<-Zqd e];exact hA0.off hbn
  have hRL:=sL _ _ hRF;have pwL:=ZM sL pwF;have hDL:=sL _ _ hDF;have oA0:∀u,HE a=some u->a∉F0++G0:=fun u e z=>(List.mem_append.mp z).elim (oAF u e) (offB _ _ (mEF u e));have mEL:∀u,HE a=some u->HL a=some u:=fun u e=>sL _ _ (mEF u e);have oR0:R∉F0++G0:=fun z=>(List.mem_append.mp z).elim oR (offB _ _ hRF);have oD0:Dd∉F0++G0:=fun z=>(List.mem_append.mp z).elim oD (offB _ _ hDF);have ok0:Zg6 ⟨rs,[],[],[],[]⟩:=⟨bk,by show rs.length<=63;omega,⟨Nat.zero_le _,(by show 0<64;decide),(fun r y z=>nomatch z)⟩,Nat.zero_le _,.nil,(fun g hg=>nomatch hg)⟩
  have wo0:Zef ⟨rs,[],[],[],[]⟩:=⟨rfl,(fun f hf=>nomatch hf)⟩
  clear offB non hbn hB0 hA0 fr kp hxA hbA htA hoA hhA hrA hkA hwA nd hcS hy hdy hRF pwF hDF hcF pcF oR oD oAF mEF;have permx:((⟨rs,[],[],[],[]⟩:Hs).ws++ws++[]).Perm ws:=by show([]++ws++[]).Perm ws;rw[List.append_nil,List.nil_append]
  refine ZbU fun B_ hB=> ?_;refine⟨_,rfl,R,rfl,⟨_,SqL.of hRL⟩,YH (xs:=rr.map V.ref) (fun j σ H'=>∃(s1 s2:Hs) (F1 F2:List Addr) (v12:Option V),σ=[some (.ref a),some (.int n0),some (.int B),some (.ref S),some (.int far),some (.ref R),some (.int dy),some (.ref Dd),v8,v9,some (.ref x),some (.ref y),v12,none,none]/\Two Zh Zf Zg Zb Zo x y s1 s2 F1 F2 H'/\ZjM ⟨rs,[],[],[],[]⟩ s1 (ws.take j)/\ZjM ⟨rs,[],[],[],[]⟩ s2 (ws.take j)/\ZcU (F0++G0) HL (F1++F2) H') ?_ ?_ ?_ ?_⟩
  ·exact⟨_,_,F0,G0,none,rfl,two0,⟨ok0,wo0,rfl,rfl,rfl,rfl⟩,⟨ok0,wo0,rfl,rfl,rfl,rfl⟩,ZcU.refl _ _⟩
  ·rintro j σ H3 _ ⟨s1,s2,F1,F2,v12,rfl,_,_,_,g3⟩;exact SqL.of (g3.at oR0 hRL)
  ·rintro j v σ H3 hv ⟨s1,s2,F1,F2,v12,rfl,tw3,so1,so2,g3⟩;have kt3:∀c ys,HL c=some (.tup ys)->H3 c=some (.tup ys):=fun c ys e=>g3.1 c _ (fun z=>(List.mem_append.mp z).elim (two0.ho.tup e) (two0.ho'.tup e)) e;obtain⟨d,rfl,ed⟩:=Xb hv;obtain⟨w,ew,hd⟩:=Ye (ZiD kt3 pwL) j d ed;have tk:ws.take (j+1)=ws.take j++[w]:=by rw[List.take_add_one,ew];rfl
   have ria:∀{s2:Hs},ZjM ⟨rs,[],[],[],[]⟩ s2 (ws.take j)->YM s2.rs ms.length xs (s2.ws++[w]):=fun so3=>by
    have:=ri.part permx (j+1);rw[so3.ws,List.append_assoc,<-tk,so3.rs];exact this
   have ri1:=ria so1;have ri2:=ria so2;have lg1:=Zqc so1.ok (ri1.sub (vs:=[w]) (.refl _));have lg2:=Zqc so2.ok (ri2.sub (vs:=[w]) (.refl _));obtain⟨dx',b',t',o',h',r',k',w',ha,_⟩:=tw3.ho.ins;refine ZbU fun B_ hB=> ?_;refine⟨_,rfl,x,_,dx',_,rfl,ha,rfl,ZgY (by decide+kernel),_,rfl,x,d,w,s1,F1,rfl,by decide,tw3.ho,hd,YM.takes ri1 rfl rfl,so1.ok.lr,ZkV so1.ok ri1 (by omega),so1.wo,by omega,fun L zs wd H7 F7 kp sub sup hA7 wo7 hL nL hl7 sz _=> ?_⟩
   refine hB _ _ ?_;have tw7:=tw3.step kp sub hA7;have hd7:=tw3.ho.kinds.tup kp _ _ hd;have g7:=g3.trans (ZcU.left (F':=F2) ⟨kp,sub,sup⟩);have so7:=so1.more ri1 (by omega) wo7;obtain⟨dx',b',t',o',h',r',k',w',ha,_⟩:=tw7.ho'.ins;refine⟨_,rfl,y,_,dx',_,rfl,ha,rfl,ZgY (by decide+kernel),_,rfl,y,d,w,s2,F2,rfl,by decide,tw7.ho',hd7,YM.takes ri2 rfl rfl,so2.ok.lr,ZkV so2.ok ri2 (by omega),so2.wo,by omega,fun L zs wd H8 F8 kp sub sup hA8 wo8 hL nL hl7 sz _=> ?_⟩
   refine⟨_,_,F7,F8,_,rfl,(tw7.swap.step kp sub hA8).swap,by rw[tk];exact so7, ?_,g7.trans (ZcU.right ⟨kp,sub,sup⟩)⟩
   rw[tk];exact so2.more ri2 (by omega) wo8
  rintro σ H3 ⟨s1,s2,F1,F2,v12,rfl,tw3,so1,so2,g3⟩;refine hB _ _ ?_;rw[List.length_map,lrr,List.take_length] at so1 so2
  have hD3:=g3.at oD0 hDL
  have oD1:=g3.off oD0 hDL;have mE3:∀u,HE a=some u->H3 a=some u:=fun u e=>g3.at (oA0 u e) (mEL u e)
  have oA3:∀u,HE a=some u->a∉F1++F2:=fun u e=>g3.off (oA0 u e) (mEL u e);clear g3 two0 hRL pwL hDL oA0 mEL;refine ZbU fun B_ hB=> ?_;refine⟨_,rfl,Dd,_,rfl,.inl hD3,fun v hv=>⟨v,Dd,ds,rfl,Zc,Zk hv _ _ hD3,by omega,fun zs pz oz t ht=> ?_⟩⟩;obtain⟨Sd,ps,es3,so⟩:=Zec (ns:=ds.map (·.2)) pz oz;rw[es3];refine hB _ _ ?_;have s4:=(Zk hv (o:=ZcI v Dd)).trans (Zk ht (o:=.lst (Sd.map V.int)));have hT:upd (upd H3 v (ZcI v Dd)) t (.lst (Sd.map V.int)) t=some (.lst (Sd.map V.int)):=Zc
  generalize upd (upd H3 v (ZcI v Dd)) t (.lst (Sd.map V.int))=H4 at s4 hT
  have tw4:=tw3.same s4;have hD4:=s4 _ _ hD3;have mE4:∀u,HE a=some u->H4 a=some u:=fun u e=>s4 _ _ (mE3 u e);have lS:Sd.length<=40:=by rw[ps.length_eq,List.length_map];exact lds
  have inS:∀x∈ds,x.2∈Sd:=fun x hx=>ps.mem_iff.mpr (List.mem_map_of_mem (f:=fun x:Str×Int=>x.2) hx);have geS:∀d∈Sd,dy<=d:=fun d hd=>by
   obtain⟨x,hx,rfl⟩:=List.mem_map.mp (ps.mem_iff.mp hd);exact(fo.yes x hx).1
  have e1:s1.ws=ws:=so1.ws;have e2:s2.ws=ws:=so2.ws;have fo1:Zlw s1.rs s1.ws dy ds:=by rw[so1.rs,e1];exact fo
  have fo2:Zlw s2.rs s2.ws dy ds:=by rw[so2.rs,e2];exact fo
  have fe1:Zfs s1.ws:=by rw[e1];exact ri.recs (by omega)
  have fe2:Zfs s2.ws:=by rw[e2];exact ri.recs (by omega)
  have oF1:Dd∉F1:=fun z=>oD1 (List.mem_append_left _ z);have oF2:Dd∉F2:=fun z=>oD1 (List.mem_append_right _ z);have nT3:H3 t=none:=YS (Zk hv) ht;have oT2:t∉F2:=tw3.ho'.off nT3;refine ZbU fun B_ hB=> ?_;refine⟨_,rfl,_,rfl,_,rfl,_,_,rfl,.inl ⟨_,SqL.of hT,rfl⟩,_,rfl,by rw[List.length_map];omega,by rw[List.length_map];omega,Xa Sd.length (ZiI Sd) (by omega) (fun i=> ?_) (fun j H5 s5 lt=> ?_) (fun H5 s5=> ?_) (fun j yv H5 H6 s5 lt yl RT RF rt rf=> ?_) fun C5 H5 hC5 s5 d5=> ?_⟩
  ·unfold ZiI
   split
   ·cases Sd[i]? <;>simp
   ·simp
  ·show j<((((Sd.map V.int).length:Nat):Int)).toNat;rw[List.length_map];omega
  ·show((((Sd.map V.int).length:Nat):Int)).toNat<=Sd.length;rw[List.length_map];omega
  ·obtain⟨rfl,rfl⟩:=yl;have hT6:=s5 _ _ hT;have i0:=Zsk lt;have get:Sd[j]? =some Sd[j]:=List.getElem?_eq_getElem lt;have ok1:(j=0\/Sd[j]?≠Sd[j-1]?)->ZiI Sd j=[V.int Sd[j]]:=fun c=>by
    unfold ZiI;rw[if_pos c,get]
    rfl
   refine⟨⟨rfl,trivial⟩,_,rfl,rfl,_,rfl,YQ (fun e0=>JZ ⟨_,rfl,_,rfl,t,_,_,_,rfl,rfl,SqL.of hT6,i0,rt _ _ (ok1 (.inl ?_)) (Zy.refl _)⟩) (fun e0=> ?_)⟩
   ·have:=of_decide_eq_true e0
    injection this with this
    omega
   have j0:j≠0:=fun z=>e0 (decide_eq_true (by rw[z];rfl))
   have i1:=Zrd lt j0;have get1:Sd[j-1]? =some (Sd[j-1]'(by omega)):=List.getElem?_eq_getElem (by omega);refine⟨_,rfl,_,rfl,t,_,_,_,rfl,rfl,SqL.of hT6,i0,_,rfl,_,rfl,_,_,rfl,rfl,t,_,_,_,rfl,rfl,SqL.of hT6,i1,rfl,_,rfl, ?_⟩
   by_cases c:Sd[j]=Sd[j-1]'(by omega)
   ·refine Zrt (congrArg V.int c) (rf _ ?_ (Zy.refl _));unfold ZiI;rw[if_neg];rw[get,get1,c];exact fun z=>z.elim j0 fun y=>y rfl
   ·refine iteNe' (fun z=>c (by injection z)) ⟨_,rfl,_,rfl,t,_,_,_,rfl,rfl,SqL.of hT6,i0,rt _ _ (ok1 (.inr ?_)) (Zy.refl _)⟩;rw[get,get1];exact fun z=>c (Option.some.inj z)
  rw[Zrc] at d5
  have oC1:C5∉F1:=tw4.ho.off hC5;have ssub:=Zqi Sd;refine⟨x,Dd,C5,true,dy,s1,F1,ds,Zg9 Sd,rfl,tw4.ho.same s5,so1.ok,so1.wo,fe1,so1.gs,so1.runs,s5 _ _ hD4,oF1,d5,oC1,fo1,by omega,by have:=ssub.length_le;omega,so.sublist ssub,fun d hd=>geS d (ssub.subset hd),fun _ x hx=>Zqj (inS x hx),fun H6 kp6=>⟨true,rfl,Yt ?_⟩⟩
  refine hB _ _ ?_;have tw5:=tw4.same s5;have hB6:=tw5.ho.apart tw5.ho' kp6 tw5.dis tw5.nb';have hD6:=kp6 _ _ oF1 (s5 _ _ hD4);have nT1:t∉F1:=tw3.ho.off nT3;have hT6:=kp6 _ _ nT1 (s5 _ _ hT);have mE6:∀u,HE a=some u->H6 a=some u:=fun u e=>kp6 _ _ (fun z=>oA3 u e (List.mem_append_left _ z)) (s5 _ _ (mE4 u e));have hS6:=Zqk hSE mE6;clear mE3 oA3 mE4 mE6 tw3 tw4 tw5 kp6 d5 s5 hC5 hT hD4 hD3 oD1;refine ZbU fun B_ hB=> ?_
  refine⟨_,rfl,_,rfl,_,rfl,a,_,rfl,hS6,fun Pc hP=> ?_⟩;have s7:=Zk hP (o:=.lst (Jr (ns.map V.int) (some 2) (some 8)));have hPc:upd H6 Pc (.lst (Jr (ns.map V.int) (some 2) (some 8))) Pc=some (.lst (m6.map V.int)):=by rw[Zc,em6]
  generalize upd H6 Pc (.lst (Jr (ns.map V.int) (some 2) (some 8)))=H7 at s7 hPc
  refine⟨Pc,rfl,⟨_,SqL.of hPc⟩,Xa m6.length (fun j=>[((m6[j]?).map fun c=>V.int (dy+(if c<0 then-c else c)*48271%5000)).getD .non]) (by omega) (fun j=>Nat.le_refl 1) (fun j H5 s5 lt=>⟨_,_,SqL.of (s5 _ _ hPc),List.getElem?_eq_getElem (by rw[List.length_map];exact lt)⟩) (fun H5 s5=>⟨_,SqL.of (s5 _ _ hPc),by rw[List.length_map];exact Nat.le_refl _⟩) (fun j yv H5 H8 s5 lt yl RT RF rt rf=> ?_) fun C8 H8 hC8 s8 d8=> ?_⟩
  ·obtain⟨rfl,yl⟩:=yl;have yl:=yl _ (SqL.of (s5 _ _ hPc));have get:m6[j]? =some m6[j]:=List.getElem?_eq_getElem lt;rw[List.getElem?_map,get] at yl
   obtain rfl:V.int m6[j]=yv:=Option.some.inj yl;rw[get] at rt
   exact⟨⟨rfl,trivial⟩,Zji ⟨_,rfl,_,rfl,_,rfl,_,_,rfl,rfl,IntMulOk.of_right (intBits_le_64 (by decide) (by decide)),_,_,rfl,rfl,(by show(0:Int)<5000;decide),_,_,rfl,rfl,rt _ _ rfl (Zy.refl _)⟩⟩
  have e8:(List.range m6.length).flatMap (fun j=>[((m6[j]?).map fun c=>V.int (dy+(if c<0 then-c else c)*48271%5000)).getD .non])=(m6.map fun c=>dy+(if c<0 then-c else c)*48271%5000).map V.int:=by
   rw[Jm,ZcF m6 (fun c=>V.int (dy+(if c<0 then-c else c)*48271%5000)) .non,List.map_map]
   rfl
  rw[e8] at d8
  refine hB _ _ ?_;have geD:∀d∈m6.map (fun c=>dy+(if c<0 then-c else c)*48271%5000),dy<=d:=fun d hd=>by
   obtain⟨c,_,rfl⟩:=List.mem_map.mp hd;have:=Int.emod_nonneg ((if c<0 then-c else c)*48271) (show(5000:Int)≠0 by decide);show dy<=dy+_;omega
  have lD:(m6.map (fun c=>dy+(if c<0 then-c else c)*48271%5000)).length<=6:=by rw[List.length_map];exact lm6
  generalize (m6.map fun c=>dy+(if c<0 then-c else c)*48271%5000)=dr at d8 geD lD
  have s68:=s7.trans s8;have hT8:=s68 _ _ hT6;have hD8:=s68 _ _ hD6;obtain⟨kk2,ek2⟩:∃k:Nat,B%2=(k:Int):=⟨(B%2).toNat,(Int.toNat_of_nonneg (Int.emod_nonneg _ (by decide))).symm⟩
  refine⟨_,rfl,_,rfl,_,rfl,vI rfl (by show(0:Int)<2;decide) ⟨(kk2:Int),congrArg V.int ek2,t,_,rfl,SqL.of hT8,fun a1 h1=>⟨_,rfl,a1,C8,_,_,rfl,rfl,SqL.of Zc,SqL.of (Zk h1 _ _ d8), ?_,fun a2 h2=> ?_⟩⟩⟩
  ·rw[Zmb,List.length_drop,List.length_map,List.length_map];omega
  have s9:=(Zk h1 (o:=.lst (Jr (Sd.map V.int) (some (kk2:Int)) none))).trans (Zk h2 (o:=.lst (Jr (Sd.map V.int) (some (kk2:Int)) none++dr.map V.int)));have h9:upd (upd H8 a1 (.lst (Jr (Sd.map V.int) (some (kk2:Int)) none))) a2 (.lst (Jr (Sd.map V.int) (some (kk2:Int)) none++dr.map V.int)) a2=some (.lst ((Sd.drop kk2++dr).map V.int)):=by rw[Zc,Zmb,List.map_append,List.map_drop]
  generalize upd (upd H8 a1 (.lst (Jr (Sd.map V.int) (some (kk2:Int)) none))) a2 (.lst (Jr (Sd.map V.int) (some (kk2:Int)) none++dr.map V.int))=H9 at s9 h9
  have lx:(Sd.drop kk2++dr).length<=46:=by rw[List.length_append,List.length_drop];omega
  refine⟨a2,_,Sd.drop kk2++dr,rfl,SqL.of h9,by rw[List.length_map];omega,Zii _,fun zs9 pz9 oz9 t9 ht9=> ?_⟩
  obtain⟨Sx,px,ex,sx⟩:=Zec (ns:=Sd.drop kk2++dr) pz9 oz9;rw[ex];have s10:=s68.trans (s9.trans (Zk ht9 (o:=.lst (Sx.map V.int))));have oT9:t9∉F2:=(hB6.same (s68.trans s9)).off ht9;refine⟨y,Dd,t9,false,dy,s2,F2,ds,Sx,rfl,hB6.same s10,so2.ok,so2.wo,fe2,so2.gs,so2.runs,s10 _ _ hD6,oF2,Zc,oT9,fo2,by omega,by rw[px.length_eq];omega,sx,fun d hd=> ?_,(fun z=>nomatch z),fun H' _=>fin _⟩
  rcases List.mem_append.mp (px.mem_iff.mp hd) with m|m
  ·exact geS d (List.mem_of_mem_drop m)
  ·exact geD d m
end
def Gd(K:PySem.W.Frag)(x:Str)(st:Stmt):Prop:=∃A fd,PySem.W.nsIn K mainGlobals x=some (some (.ref A))/\Fun K x x st A fd
def Md(K:PySem.W.Frag)(C:Addr)(x q:Str)(st:Stmt):Prop:=∃A fd,PySem.W.findIn K (.ref C) x=some (some (.ref A))/\PySem.W.isFn K (.ref A)=true/\Fun K x q st A fd
theorem all_mk{l:PySem.W.OpenLaw}{w:World}{K:PySem.W.Frag}{h:Heap}{mg:Str->Option Value}{fa:Addr}{A_law:Addr}{oc_law kV_law dc_law pm_law cd_law ct_law:Value}{od_law an_law:Option Addr}{sl_law:Array (Option Value)}{Zh:Addr}{Zf:Addr}{Zg:Addr}{Zb:Addr}{Zo:Addr}
  (X:K.In h)(G:h.Ns mainGlobals mg)(hfa:mg "law"=some (.ref fa))
  (Z0S:Gd K "never" Zkh)
  (Z0T:Gd K "after" Zki)
  (Z0U:Gd K "later" Zkj)
  (Z0y:Gd K "earlier" Zgk)
  (Z0z:Gd K "line_of" Zgl)
  (Z0j:Gd K "owner_of" Zf5)
  (Z0A:Gd K "term_of" Zgm)
  (Z9:Gd K "owning_series" Zb2)
  (Z0K:Gd K "judged" ZhV)
  (Z0L:Gd K "reason" ZhW)
  (Z0B:Gd K "counted" Zgn)
  (Z0M:Gd K "is_put" ZhX)
  (Z0d:Gd K "series_of" ZdP)
  (Z0C:Gd K "life_of" Zgo)
  (Z0k:Gd K "holds_on" Zf6)
  (Z0l:Gd K "standing" Zf7)
  (Z03:Gd K "is_laid_on" Zda)
  (Z0m:Gd K "word_for" Zf8)
  (Z0n:Gd K "foretold" Zf9)
  (Z0e:Gd K "first_due" ZdQ)
  (Z0o:Gd K "spans_on" Zfa)
  (Z0f:Gd K "free_from" ZdR)
  (Z0g:Gd K "beginning" ZdS)
  (Z0D:Gd K "is_laid" Zgp)
  (Y7:Gd K "series_named" ZbD)
  (X4:Gd K "_law_cell_at" Zcf)
  (X5:Gd K "_law_name_by" Zcg)
  (Y0:Gd K "_law_length_by" Zb3)
  (X6:Gd K "_law_tree_by" Zch)
  (Z0b:Gd K "_law_made" Zfb)
  (X7:Gd K "_law_book_by" Zci)
  (Z0h:Gd K "_law_terms" ZdT)
  (Y4:Gd K "_law_record_by" Zb4)
  (Y5:Gd K "_law_number_by" Zb5)
  (Z04:Gd K "_law_row_by" Zdb)
  (X8:Gd K "_law_rows_by" Zcj)
  (Z0p:Gd K "_law_took" Zfc)
  (Z05:Gd K "_law_walked" Zdc)
  (Z1v:PySem.W.nsIn K mainGlobals "law"=some (some (.ref A_law)))
  (l_law:K.lookup A_law=some ⟨oc_law,od_law,.func (PySem.W.fnOf "law" "law" (ZeB ZfR) (Zd3 ZfR) (Zt ZfR) .none kV_law dc_law pm_law an_law cd_law ct_law),sl_law⟩)
  (cd_law':PySem.W.codeIn K cd_law "law"=true)
  (k_law:PySem.W.keepIn K (.ref A_law)=true)
  (Z1b:PySem.W.nsIn K mainGlobals "Never"=some (some (.ref Zh)))
  (Z1c:PySem.W.nsIn K mainGlobals "After"=some (some (.ref Zf)))
  (Z1d:PySem.W.nsIn K mainGlobals "Later"=some (some (.ref Zg)))
  (Z0N:PySem.W.nsIn K mainGlobals "Earlier"=some (some (.ref Zb)))
  (Z1e:PySem.W.nsIn K mainGlobals "House"=some (some (.ref Zo)))
  (Z0V:PySem.W.plainGet K Zh Str.empty=true)
  (Z0W:PySem.W.hasDictIn K Zh=true)
  (Z0X:PySem.W.plainOver K Zh=true)
  (Z0Y:PySem.W.findIn K (.ref Zh) "__setattr__"=some (some (.builtin "object.__setattr__")))
  (Z1f:PySem.W.makesIn K Zh=true)
  (Z1g:PySem.W.keepIn K (.ref Zh)=true)
  (in_Never:PySem.W.findIn K (.ref Zh) "__init__"=some (some (.builtin "object.__init__")))
  (Z1h:PySem.W.findIn K (.ref Zh) "__class__"=some (some (.builtin "object.__class__")))
  (Z1i:PySem.W.mroIn K Zh (.type "object")=some true)
  (Z0Z:PySem.W.plainGet K Zf Str.empty=true)
  (Z10:PySem.W.hasDictIn K Zf=true)
  (Z11:PySem.W.plainOver K Zf=true)
  (Z12:PySem.W.findIn K (.ref Zf) "__setattr__"=some (some (.builtin "object.__setattr__")))
  (Z1j:PySem.W.makesIn K Zf=true)
  (Z1k:PySem.W.keepIn K (.ref Zf)=true)
  (Z06:Md K Zf "__init__" "After.__init__" Zdd)
  (Z0u:PySem.W.findIn K (.ref Zf) "kind"=some none)
  (Z0v:PySem.W.findIn K (.ref Zf) "days"=some none)
  (Z1l:PySem.W.findIn K (.ref Zf) "__class__"=some (some (.builtin "object.__class__")))
  (Z1m:PySem.W.mroIn K Zf (.type "object")=some true)
  (Z13:PySem.W.plainGet K Zg Str.empty=true)
  (Z14:PySem.W.hasDictIn K Zg=true)
  (Z15:PySem.W.plainOver K Zg=true)
  (Z16:PySem.W.findIn K (.ref Zg) "__setattr__"=some (some (.builtin "object.__setattr__")))
  (Z1n:PySem.W.makesIn K Zg=true)
  (Z1o:PySem.W.keepIn K (.ref Zg)=true)
  (Z07:Md K Zg "__init__" "Pair.__init__" Zc2)
  (Z0E:PySem.W.findIn K (.ref Zg) "one"=some none)
  (Z0q:PySem.W.findIn K (.ref Zg) "other"=some none)
  (Z1p:PySem.W.findIn K (.ref Zg) "__class__"=some (some (.builtin "object.__class__")))
  (Z1q:PySem.W.mroIn K Zg (.type "object")=some true)
  (Z0F:PySem.W.plainGet K Zb Str.empty=true)
  (Z0G:PySem.W.hasDictIn K Zb=true)
  (Z0H:PySem.W.plainOver K Zb=true)
  (Z0I:PySem.W.findIn K (.ref Zb) "__setattr__"=some (some (.builtin "object.__setattr__")))
  (Z0O:PySem.W.makesIn K Zb=true)
  (Z0P:PySem.W.keepIn K (.ref Zb)=true)
  (Y8:Md K Zb "__init__" "Pair.__init__" Zc2)
  (Z0r:PySem.W.findIn K (.ref Zb) "one"=some none)
  (Z0c:PySem.W.findIn K (.ref Zb) "other"=some none)
  (Z0Q:PySem.W.findIn K (.ref Zb) "__class__"=some (some (.builtin "object.__class__")))
  (Z0R:PySem.W.mroIn K Zb (.type "object")=some true)
  (Z17:PySem.W.plainGet K Zo Str.empty=true)
  (Z18:PySem.W.hasDictIn K Zo=true)
  (Z19:PySem.W.plainOver K Zo=true)
  (Z1a:PySem.W.findIn K (.ref Zo) "__setattr__"=some (some (.builtin "object.__setattr__")))
  (Z1r:PySem.W.makesIn K Zo=true)
  (Z1s:PySem.W.keepIn K (.ref Zo)=true)
  (Z08:Md K Zo "__init__" "House.__init__" Zde)
  (Z0w:PySem.W.findIn K (.ref Zo) "book"=some none)
  (Z0x:PySem.W.findIn K (.ref Zo) "told"=some none)
  (Z0J:PySem.W.findIn K (.ref Zo) "own"=some none)
  (Z09:PySem.W.findIn K (.ref Zo) "holdings"=some none)
  (Z0a:PySem.W.findIn K (.ref Zo) "run_days"=some none)
  (Z0s:PySem.W.findIn K (.ref Zo) "taken"=some none)
  (Z0t:PySem.W.findIn K (.ref Zo) "words"=some none)
  (Z1t:PySem.W.findIn K (.ref Zo) "__class__"=some (some (.builtin "object.__class__")))
  (Z1u:PySem.W.mroIn K Zo (.type "object")=some true)
  (hn:PySem.W.specialIn K (.builtin "object.__class__") "__get__"=some (some (.builtin "getset_descriptor.__get__")))
  (htk:PySem.W.takesIn K (.builtin "object.__class__")=some true)
  (J6:Md K Zh "due" "Never.due" ZdU)
  (J7:Md K Zf "due" "After.due" ZdV)
  (J8:Md K Zg "due" "Later.due" ZdW)
  (Y6:Md K Zb "due" "Earlier.due" Zck)
  (Z5:Md K Zh "leaves" "Never.leaves" ZbE)
  (Z6:Md K Zf "leaves" "After.leaves" ZbF)
  (Z7:Md K Zg "leaves" "Pair.leaves" ZaH)
  (Z3:Md K Zb "leaves" "Pair.leaves" ZaH)
  (X3:Md K Zo "tell" "House.tell" Zdf)
  (Z0:Md K Zo "refuse_row" "House.refuse_row" Za0)
  (Z4:Md K Zo "keep_row" "House.keep_row" Zav)
  (Z1:Md K Zo "touched_by" "House.touched_by" Za1)
  (Z2:Md K Zo "words_now" "House.words_now" Zab)
  (J9:Md K Zo "run" "House.run" ZdX)
  (Z8:Md K Zo "due_on" "House.due_on" ZbG)
  (Z0i:Md K Zo "rows" "House.rows" Zkk)
  (z_abs:PySem.W.nsIn K mainGlobals "abs"=some none)
  (z_any:PySem.W.nsIn K mainGlobals "any"=some none)
  (z_int:PySem.W.nsIn K mainGlobals "int"=some none)
  (z_len:PySem.W.nsIn K mainGlobals "len"=some none)
  (z_list:PySem.W.nsIn K mainGlobals "list"=some none)
  (z_max:PySem.W.nsIn K mainGlobals "max"=some none)
  (z_min:PySem.W.nsIn K mainGlobals "min"=some none)
  (z_range:PySem.W.nsIn K mainGlobals "range"=some none)
  (z_reversed:PySem.W.nsIn K mainGlobals "reversed"=some none)
  (z_sorted:PySem.W.nsIn K mainGlobals "sorted"=some none)
  (z_tuple:PySem.W.nsIn K mainGlobals "tuple"=some none)
  (z_zip:PySem.W.nsIn K mainGlobals "zip"=some none)
  (kib:PySem.W.kitOne K (.type "int") (.type "bool")=some false)
  (kii:PySem.W.kitOne K (.type "int") (.type "int")=some true)
  (kll:PySem.W.kitOne K (.type "list") (.type "list")=some true)
  (ktt:PySem.W.kitOne K (.type "tuple") (.type "tuple")=some true)
  (kss:PySem.W.kitOne K (.type "str") (.type "str")=some true)
  (ne_Never_After:Zh≠Zf)
  (ne_Never_Later:Zh≠Zg)
  (ne_Never_Earlier:Zh≠Zb)
  (Z00:Zh≠Zo)
  (ne_After_Later:Zf≠Zg)
  (ne_After_Earlier:Zf≠Zb)
  (Z01:Zf≠Zo)
  (ne_Later_Earlier:Zg≠Zb)
  (Z02:Zg≠Zo)
  (Y9:Zb≠Zo)
  :∃fd:FuncData,(∀(s:Shared) (v:Value),BindsTo s fd ⟨[v],[]⟩ [("_law_script",v)])/\∀base:Heap,K.In base->base.Ns mainGlobals mg->Yl l.prog w K mg base CX0 43 fa fd ["_law_script"] (Zp9 K):=by
 have e:=hfa.symm.trans (PySem.W.mg_of X G Z1v);cases e;have T:Txt K mg Zh Zf Zg Zb Zo:=⟨PySem.W.mg_none_of X G z_abs,PySem.W.mg_none_of X G z_any,PySem.W.mg_none_of X G z_int,PySem.W.mg_none_of X G z_len,PySem.W.mg_none_of X G z_list,PySem.W.mg_none_of X G z_max,PySem.W.mg_none_of X G z_min,PySem.W.mg_none_of X G z_range,PySem.W.mg_none_of X G z_reversed,PySem.W.mg_none_of X G z_sorted,PySem.W.mg_none_of X G z_tuple,PySem.W.mg_none_of X G z_zip,kib,kii,kll,ktt,kss,⟨Z0V,Z0W,Z0X,Z0Y⟩,⟨⟨Z0V,Z0W,Z0X,Z0Y⟩,Z1h,hn,htk,Z1i⟩,⟨Z0Z,Z10,Z11,Z12⟩,Z0u,Z0v,⟨⟨Z0Z,Z10,Z11,Z12⟩,Z1l,hn,htk,Z1m⟩,⟨Z13,Z14,Z15,Z16⟩,Z0E,Z0q,⟨⟨Z13,Z14,Z15,Z16⟩,Z1p,hn,htk,Z1q⟩,⟨Z0F,Z0G,Z0H,Z0I⟩,Z0r,Z0c,⟨⟨Z0F,Z0G,Z0H,Z0I⟩,Z0Q,hn,htk,Z0R⟩,⟨Z17,Z18,Z19,Z1a⟩,Z0w,Z0x,Z0J,Z09,Z0a,Z0s,Z0t,⟨⟨Z17,Z18,Z19,Z1a⟩,Z1t,hn,htk,Z1u⟩,ne_Never_After,ne_Never_Later,ne_Never_Earlier,Z00,ne_After_Later,ne_After_Earlier,Z01,ne_Later_Earlier,Z02,Y9⟩
 have Ztg:=Zmq (st:=ZfR) l_law cd_law' k_law;obtain⟨_,_,Z0S,ZkY⟩:=Z0S;obtain⟨_,_,Z0T,ZkZ⟩:=Z0T;obtain⟨_,_,Z0U,Zl0⟩:=Z0U;obtain⟨_,_,Z0y,ZgG⟩:=Z0y;obtain⟨_,_,Z0z,ZgH⟩:=Z0z;obtain⟨_,_,Z0j,Zfw⟩:=Z0j;obtain⟨_,_,Z0A,ZgI⟩:=Z0A;obtain⟨_,_,Z9,Zbb⟩:=Z9;obtain⟨_,_,Z0K,ZiJ⟩:=Z0K;obtain⟨_,_,Z0L,ZiK⟩:=Z0L;obtain⟨_,_,Z0B,ZgJ⟩:=Z0B;obtain⟨_,_,Z0M,ZiL⟩:=Z0M;obtain⟨_,_,Z0d,Zeo⟩:=Z0d;obtain⟨_,_,Z0C,ZgK⟩:=Z0C;obtain⟨_,_,Z0k,Zfx⟩:=Z0k
 obtain⟨_,_,Z0l,Zfy⟩:=Z0l;obtain⟨_,_,Z03,Zdy⟩:=Z03;obtain⟨_,_,Z0m,Zfz⟩:=Z0m;obtain⟨_,_,Z0n,ZfA⟩:=Z0n;obtain⟨_,_,Z0e,Zep⟩:=Z0e;obtain⟨_,_,Z0o,ZfB⟩:=Z0o;obtain⟨_,_,Z0f,Zeq⟩:=Z0f;obtain⟨_,_,Z0g,Zer⟩:=Z0g;obtain⟨_,_,Z0D,ZgL⟩:=Z0D;obtain⟨_,_,Y7,ZbV⟩:=Y7;obtain⟨_,_,X4,Zcw⟩:=X4;obtain⟨_,_,X5,Zcx⟩:=X5;obtain⟨_,_,Y0,Zbc⟩:=Y0;obtain⟨_,_,X6,Zcy⟩:=X6;obtain⟨_,_,Z0b,ZbW⟩:=Z0b;obtain⟨_,_,X7,Zcz⟩:=X7;obtain⟨_,_,Z0h,Zes⟩:=Z0h
 obtain⟨_,_,Y4,Zbd⟩:=Y4;obtain⟨_,_,Y5,Zbe⟩:=Y5;obtain⟨_,_,Z04,Zdz⟩:=Z04;obtain⟨_,_,X8,ZcA⟩:=X8;obtain⟨_,_,Z0p,ZfC⟩:=Z0p;obtain⟨_,_,Z05,ZdA⟩:=Z05;obtain⟨_,_,Z06,Zl1,Zga⟩:=Z06;obtain⟨_,_,Z07,Zl2,Zgb⟩:=Z07;obtain⟨_,_,Y8,ZiM,Zet⟩:=Y8;obtain⟨_,_,Z08,Zl3,Zgc⟩:=Z08;obtain⟨_,_,J6,Zh1,ZaX⟩:=J6;obtain⟨_,_,J7,Zh2,ZaY⟩:=J7;obtain⟨_,_,J8,Zh3,ZaZ⟩:=J8;obtain⟨_,_,Y6,ZeW,JV⟩:=Y6;obtain⟨_,_,Z5,Zeu,JC⟩:=Z5;obtain⟨_,_,Z6,Zev,JD⟩:=Z6
 obtain⟨_,_,Z7,Zew,JF⟩:=Z7;obtain⟨_,_,Z3,ZcV,Jj⟩:=Z3;obtain⟨_,_,X3,Zgd,Zas⟩:=X3;obtain⟨_,_,Z0,ZbX,Xu⟩:=Z0;obtain⟨_,_,Z4,ZcW,Jk⟩:=Z4;obtain⟨_,_,Z1,ZbY,Xv⟩:=Z1;obtain⟨_,_,Z2,Zcc,XS⟩:=Z2;obtain⟨_,_,J9,Zh4,Zb0⟩:=J9;obtain⟨_,_,Z8,Zex,JG⟩:=Z8;obtain⟨_,_,Z0i,Zre,Zrf⟩:=Z0i;refine⟨PySem.W.fnOf "law" "law" (ZeB ZfR) (Zd3 ZfR) (Zt ZfR) .none kV_law dc_law pm_law an_law cd_law ct_law,fun s v=> .of_eq rfl,fun base Kb _=> ?_⟩
 have Zkr:ZrW K mg "Never" Zh:=⟨PySem.W.mg_of X G Z1b,Z1f,in_Never,Z1g⟩
 have ZkO:Cal l.prog w K mg base CX0 1 "never" [] (ZhZ Zh Zf Zg Zb):=⟨_,_,PySem.W.mg_of X G Z0S,ZkY.kp,ZkY.binds (fun _ _ _ _ _ _=>ZtC rfl),ZpH ZkY T Zkr⟩
 have Zks:Zk7 l.prog w K mg base CX0 1 "After" Zf ["self","kind","days"] (Zcm Zf):=⟨_,_,PySem.W.mg_of X G Z1c,⟨Z1j,Z06,Zl1,Z1k⟩,Zga.binds (fun _ _ _ _ _ _=>Zk8 fun _ _ _=>rfl),ZiU Zga T T.cl_After T.n_After_kind T.n_After_days⟩
 have ZkM:Cal l.prog w K mg base CX0 3 "after" ["kind","days"] (Zi0 Zh Zf Zg Zb):=⟨_,_,PySem.W.mg_of X G Z0T,ZkZ.kp,ZkZ.binds (fun _ _ _ _ _ _=>XJ fun _ _=>rfl),ZpJ ZkZ T Zks⟩
 have Zkt:Zk7 l.prog w K mg base CX0 1 "Later" Zg ["self","one","other"] (Zac Zg):=⟨_,_,PySem.W.mg_of X G Z1d,⟨Z1n,Z07,Zl2,Z1o⟩,Zgb.binds (fun _ _ _ _ _ _=>Zk8 fun _ _ _=>rfl),ZfX Zgb T T.cl_Later T.n_Later_one T.n_Later_other⟩
 have ZkN:Cal l.prog w K mg base CX0 3 "later" ["one","other"] (Zi1 Zh Zf Zg Zb):=⟨_,_,PySem.W.mg_of X G Z0U,Zl0.kp,Zl0.binds (fun _ _ _ _ _ _=>XJ fun _ _=>rfl),ZpL Zl0 T Zkt⟩
 have Zgs:Zk7 l.prog w K mg base CX0 1 "Earlier" Zb ["self","one","other"] (Zac Zb):=⟨_,_,PySem.W.mg_of X G Z0N,⟨Z0O,Y8,ZiM,Z0P⟩,Zet.binds (fun _ _ _ _ _ _=>Zk8 fun _ _ _=>rfl),ZfX Zet T T.cl_Earlier T.n_Earlier_one T.n_Earlier_other⟩
 have ZgA:Cal l.prog w K mg base CX0 3 "earlier" ["one","other"] (Zfd Zh Zf Zg Zb):=⟨_,_,PySem.W.mg_of X G Z0y,ZgG.kp,ZgG.binds (fun _ _ _ _ _ _=>XJ fun _ _=>rfl),ZmQ ZgG T Zgs⟩
 have Zbv:Cal l.prog w K mg base CX0 1 "line_of" ["book","name"] (Zdg Zh Zf Zg Zb):=⟨_,_,PySem.W.mg_of X G Z0z,ZgH.kp,ZgH.binds (fun _ _ _ _ _ _=>XJ fun _ _=>rfl),ZmR ZgH T⟩
 have XC:Cal l.prog w K mg base CX0 1 "owning_series" ["book","name"] (JH Zh Zf Zg Zb):=⟨_,_,PySem.W.mg_of X G Z9,Zbb.kp,Zbb.binds (fun _ _ _ _ _ _=>XJ fun _ _=>rfl),Zgt Zbb T⟩
 have Zfk:Cal l.prog w K mg base CX0 2 "owner_of" ["book","name"] (ZdZ Zh Zf Zg Zb):=⟨_,_,PySem.W.mg_of X G Z0j,Zfw.kp,Zfw.binds (fun _ _ _ _ _ _=>XJ fun _ _=>rfl),Zlz Zfw T XC⟩
 have Zbw:Cal l.prog w K mg base CX0 2 "term_of" ["book","name"] (Zdh Zh Zf Zg Zb):=⟨_,_,PySem.W.mg_of X G Z0A,ZgI.kp,ZgI.binds (fun _ _ _ _ _ _=>XJ fun _ _=>rfl),ZmT ZgI T XC⟩
 have XD:Cal l.prog w K mg base CX0 1 "counted" ["rows","day"] Zax:=⟨_,_,PySem.W.mg_of X G Z0B,ZgJ.kp,ZgJ.binds (fun _ _ _ _ _ _=>XJ fun _ _=>rfl),ZmW ZgJ T⟩
 have ZdC:∀n,Zbj l.prog w K mg base CX0 (0+n+1) "due" ["self","life"] (Zcn Zh Zf Zg Zb n) (fun C=>C=Zh\/C=Zf\/C=Zg\/C=Zb):=fun n=>by
  induction n with
  |zero=>
   refine⟨fun C hC=> ?_⟩;rcases hC with hC|hC|hC|hC
   ·cases hC.symm;exact⟨T.cl_Never,_,_,⟨J6,Zh1,ZaX.kp⟩,ZaX.binds (fun _ _ _ _ _ _=>XJ fun _ _=>rfl),Je ZfV⟩
   ·cases hC.symm;exact⟨T.cl_After,_,_,⟨J7,Zh2,ZaY.kp⟩,ZaY.binds (fun _ _ _ _ _ _=>XJ fun _ _=>rfl),Je ZfV⟩
   ·cases hC.symm;exact⟨T.cl_Later,_,_,⟨J8,Zh3,ZaZ.kp⟩,ZaZ.binds (fun _ _ _ _ _ _=>XJ fun _ _=>rfl),Je ZfV⟩
   ·cases hC.symm;exact⟨T.cl_Earlier,_,_,⟨Y6,ZeW,JV.kp⟩,JV.binds (fun _ _ _ _ _ _=>XJ fun _ _=>rfl),Je ZfV⟩
  |succ n ih=>
   refine⟨fun C hC=> ?_⟩;rcases hC with hC|hC|hC|hC
   ·cases hC.symm;exact⟨T.cl_Never,_,_,⟨J6,Zh1,ZaX.kp⟩,ZaX.binds (fun _ _ _ _ _ _=>XJ fun _ _=>rfl),ZkQ ZaX T n⟩
   ·cases hC.symm;exact⟨T.cl_After,_,_,⟨J7,Zh2,ZaY.kp⟩,ZaY.binds (fun _ _ _ _ _ _=>XJ fun _ _=>rfl),ZkS ZaY T n⟩
   ·cases hC.symm;exact⟨T.cl_Later,_,_,⟨J8,Zh3,ZaZ.kp⟩,ZaZ.binds (fun _ _ _ _ _ _=>XJ fun _ _=>rfl),ZkT ZaZ T n ih⟩
   ·cases hC.symm;exact⟨T.cl_Earlier,_,_,⟨Y6,ZeW,JV.kp⟩,JV.binds (fun _ _ _ _ _ _=>XJ fun _ _=>rfl),Ziy JV T n ih⟩
 have JL:Cal l.prog w K mg base CX0 1 "is_laid_on" ["row","record","over"] ZaI:=⟨_,_,PySem.W.mg_of X G Z03,Zdy.kp,Zdy.binds (fun _ _ _ _ _ _=>Zk8 fun _ _ _=>rfl),ZiW Zdy T⟩
 have Jq:Cal l.prog w K mg base CX0 1 "standing" ["rows"] ZaR:=⟨_,_,PySem.W.mg_of X G Z0l,Zfy.kp,Zfy.binds (fun _ _ _ _ _ _=>Zf2 fun _=>rfl),ZlF Zfy T⟩
 have Zfj:Cal l.prog w K mg base CX0 2 "holds_on" ["rows","record","line"] Ze1:=⟨_,_,PySem.W.mg_of X G Z0k,Zfx.kp,Zfx.binds (fun _ _ _ _ _ _=>Zk8 fun _ _ _=>rfl),ZlI Zfx T JL Jq⟩
 have Zak:Cal l.prog w K mg base CX0 1 "is_put" ["rows","record"] ZcN:=⟨_,_,PySem.W.mg_of X G Z0M,ZiL.kp,ZiL.binds (fun _ _ _ _ _ _=>XJ fun _ _=>rfl),Zok ZiL T⟩
 have Zbu:Cal l.prog w K mg base CX0 1 "life_of" ["rows","record"] Zdi:=⟨_,_,PySem.W.mg_of X G Z0C,ZgK.kp,ZgK.binds (fun _ _ _ _ _ _=>XJ fun _ _=>rfl),ZmX ZgK T⟩
 have Za6:Cal l.prog w K mg base CX0 1 "series_of" ["rows","record"] Zbl:=⟨_,_,PySem.W.mg_of X G Z0d,Zeo.kp,Zeo.binds (fun _ _ _ _ _ _=>XJ fun _ _=>rfl),Zkw Zeo T⟩
 have Zfl:Cal l.prog w K mg base CX0 1 "word_for" ["due","holds","day"] Ze2:=⟨_,_,PySem.W.mg_of X G Z0m,Zfz.kp,Zfz.binds (fun _ _ _ _ _ _=>Zk8 fun _ _ _=>rfl),ZlD Zfz T⟩
 have Zam:Cal l.prog w K mg base CX0 14 "judged" ["book","rows","record","day"] (ZcO Zh Zf Zg Zb):=⟨_,_,PySem.W.mg_of X G Z0K,ZiJ.kp,ZiJ.binds (fun _ _ _ _ _ _=>ZmE fun _ _ _ _=>rfl),Zoo ZiJ T XD (ZdC 12) Zfj Zak Zbu Zbv Zfk Za6 Zbw Zfl⟩
 have ZaT:∀n,Zbj l.prog w K mg base CX0 (0+n+1) "leaves" ["self"] (Za4 Zh Zf Zg Zb n) (fun C=>C=Zh\/C=Zf\/C=Zg\/C=Zb):=fun n=>by
  induction n with
  |zero=>
   refine⟨fun C hC=> ?_⟩;rcases hC with hC|hC|hC|hC
   ·cases hC.symm;exact⟨T.cl_Never,_,_,⟨Z5,Zeu,JC.kp⟩,JC.binds (fun _ _ _ _ _ _=>Zf2 fun _=>rfl),Je Zc3⟩
   ·cases hC.symm;exact⟨T.cl_After,_,_,⟨Z6,Zev,JD.kp⟩,JD.binds (fun _ _ _ _ _ _=>Zf2 fun _=>rfl),Je Zc3⟩
   ·cases hC.symm;exact⟨T.cl_Later,_,_,⟨Z7,Zew,JF.kp⟩,JF.binds (fun _ _ _ _ _ _=>Zf2 fun _=>rfl),Je Zc3⟩
   ·cases hC.symm;exact⟨T.cl_Earlier,_,_,⟨Z3,ZcV,Jj.kp⟩,Jj.binds (fun _ _ _ _ _ _=>Zf2 fun _=>rfl),Je Zc3⟩
  |succ n ih=>
   refine⟨fun C hC=> ?_⟩;rcases hC with hC|hC|hC|hC
   ·cases hC.symm;exact⟨T.cl_Never,_,_,⟨Z5,Zeu,JC.kp⟩,JC.binds (fun _ _ _ _ _ _=>Zf2 fun _=>rfl),Zh7 JC T n⟩
   ·cases hC.symm;exact⟨T.cl_After,_,_,⟨Z6,Zev,JD.kp⟩,JD.binds (fun _ _ _ _ _ _=>Zf2 fun _=>rfl),Zh9 JD T n⟩
   ·cases hC.symm;exact⟨T.cl_Later,_,_,⟨Z7,Zew,JF.kp⟩,JF.binds (fun _ _ _ _ _ _=>Zf2 fun _=>rfl),Ze9 JF T n (.inl rfl) ih⟩
   ·cases hC.symm;exact⟨T.cl_Earlier,_,_,⟨Z3,ZcV,Jj.kp⟩,Jj.binds (fun _ _ _ _ _ _=>Zf2 fun _=>rfl),Ze9 Jj T n (.inr (rfl)) ih⟩
 have Zis:Cal l.prog w K mg base CX0 14 "reason" ["book","rows","record","day"] (Zgq Zh Zf Zg Zb):=⟨_,_,PySem.W.mg_of X G Z0L,ZiK.kp,ZiK.binds (fun _ _ _ _ _ _=>ZmE fun _ _ _ _=>rfl),Zop ZiK T XD (ZdC 12) (ZaT 12) Zak Zbu Za6 Zbw⟩
 have Zeb:Cal l.prog w K mg base CX0 1 "beginning" ["span"] Zbm:=⟨_,_,PySem.W.mg_of X G Z0g,Zer.kp,Zer.binds (fun _ _ _ _ _ _=>Zf2 fun _=>rfl),Zkz Zer T⟩
 have Zed:Cal l.prog w K mg base CX0 4 "free_from" ["day","spans"] Zdl:=⟨_,_,PySem.W.mg_of X G Z0f,Zeq.kp,Zeq.binds (fun _ _ _ _ _ _=>XJ fun _ _=>rfl),ZkB Zeq T Zeb⟩
 have Zfo:Cal l.prog w K mg base CX0 2 "spans_on" ["rows","record","line"] Ze5:=⟨_,_,PySem.W.mg_of X G Z0o,ZfB.kp,ZfB.binds (fun _ _ _ _ _ _=>Zk8 fun _ _ _=>rfl),ZlM ZfB T JL⟩
 have Zee:Cal l.prog w K mg base CX0 15 "first_due" ["book","rows","record","day"] (Zdm Zh Zf Zg Zb):=⟨_,_,PySem.W.mg_of X G Z0e,Zep.kp,Zep.binds (fun _ _ _ _ _ _=>ZmE fun _ _ _ _=>rfl),ZkE Zep T Zed Zam Zbv Zfo⟩
 have Zfv:Cal l.prog w K mg base CX0 16 "foretold" ["book","rows","day"] (Ze6 Zh Zf Zg Zb):=⟨_,_,PySem.W.mg_of X G Z0n,ZfA.kp,ZfA.binds (fun _ _ _ _ _ _=>Zk8 fun _ _ _=>rfl),ZlV ZfA T Zee⟩
 have Zgy:Cal l.prog w K mg base CX0 1 "is_laid" ["rows","hold"] Zff:=⟨_,_,PySem.W.mg_of X G Z0D,ZgL.kp,ZgL.binds (fun _ _ _ _ _ _=>XJ fun _ _=>rfl),Zn4 ZgL T⟩
 have ZbQ:Cal l.prog w K mg base CX0 1 "series_named" ["row"] Zb6:=⟨_,_,PySem.W.mg_of X G Y7,ZbV.kp,ZbV.binds (fun _ _ _ _ _ _=>Zf2 fun _=>rfl),Zhb ZbV T⟩
 have Xn:Cal l.prog w K mg base CX0 1 "_law_cell_at" ["_law_script","_law_k"] (Zaf K):=⟨_,_,PySem.W.mg_of X G X4,Zcw.kp,Zcw.binds (fun _ _ _ _ _ _=>XJ fun _ _=>rfl),ZiA Zcw T⟩
 have Yi:Cal l.prog w K mg base CX0 1 "_law_name_by" ["_law_cell","_law_k"] Jg:=⟨_,_,PySem.W.mg_of X G X5,Zcx.kp,Zcx.binds (fun _ _ _ _ _ _=>XJ fun _ _=>rfl),Ziv Zcx T⟩
 have Zb8:Cal l.prog w K mg base CX0 1 "_law_length_by" ["_law_cell"] Zaw:=⟨_,_,PySem.W.mg_of X G Y0,Zbc.kp,Zbc.binds (fun _ _ _ _ _ _=>Zf2 fun _=>rfl),ZgB Zbc T⟩
 have Zcs:Cal l.prog w K mg base CX0 2 "_law_tree_by" ["_law_cells","_law_names_by","_law_most"] ZbH:=⟨_,_,PySem.W.mg_of X G X6,Zcy.kp,Zcy.binds (fun _ _ _ _ _ _=>Zk8 fun _ _ _=>rfl),Zix Zcy T Zb8 Yi⟩
 have JB:∀n,Cal l.prog w K mg base CX0 (3+n+1) "_law_made" ["_law_tree"] (ZaQ Zh Zf Zg Zb n):=fun n=>by
  induction n with
  |zero=>exact⟨_,_,PySem.W.mg_of X G Z0b,ZbW.kp,ZbW.binds (fun _ _ _ _ _ _=>Zf2 fun _=>rfl),Je ZiS⟩
  |succ n ih=>exact⟨_,_,PySem.W.mg_of X G Z0b,ZbW.kp,ZbW.binds (fun _ _ _ _ _ _=>Zf2 fun _=>rfl),Zm3 ZbW T n ih ZkM ZgA ZkN ZkO⟩
 have Zcu:Cal l.prog w K mg base CX0 3 "_law_book_by" ["_law_script","_law_names_by"] (ZbJ K):=⟨_,_,PySem.W.mg_of X G X7,Zcz.kp,Zcz.binds (fun _ _ _ _ _ _=>XJ fun _ _=>rfl),ZiB Zcz T Xn Yi Zcs⟩
 have Zen:Cal l.prog w K mg base CX0 17 "_law_terms" ["_law_book"] (Zdk Zh Zf Zg Zb):=⟨_,_,PySem.W.mg_of X G Z0h,Zes.kp,Zes.binds (fun _ _ _ _ _ _=>Zf2 fun _=>rfl),ZkU Zes T (JB 12)⟩
 have Zba:Cal l.prog w K mg base CX0 2 "_law_record_by" ["_law_number","_law_names_by"] Zay:=⟨_,_,PySem.W.mg_of X G Y4,Zbd.kp,Zbd.binds (fun _ _ _ _ _ _=>XJ fun _ _=>rfl),ZgF Zbd T Yi⟩
 have Zb9:Cal l.prog w K mg base CX0 1 "_law_number_by" ["_law_cell","_law_names_by"] Zaz:=⟨_,_,PySem.W.mg_of X G Y5,Zbe.kp,Zbe.binds (fun _ _ _ _ _ _=>XJ fun _ _=>rfl),ZgD Zbe T⟩
 have Zdx:Cal l.prog w K mg base CX0 3 "_law_row_by" ["_law_cell","_law_names_by","_law_far","_law_book"] Zcr:=⟨_,_,PySem.W.mg_of X G Z04,Zdz.kp,Zdz.binds (fun _ _ _ _ _ _=>ZmE fun _ _ _ _=>rfl),Zj4 Zdz T Yi Zb9 Zba⟩
 have Zcv:Cal l.prog w K mg base CX0 4 "_law_rows_by" ["_law_cells","_law_names_by","_law_far","_law_book"] ZbK:=⟨_,_,PySem.W.mg_of X G X8,ZcA.kp,ZcA.binds (fun _ _ _ _ _ _=>ZmE fun _ _ _ _=>rfl),ZiF ZcA T Zdx⟩
 have Ziu:∀n,Zbj l.prog w K mg base CX0 (14+n+1) "due_on" ["self","day"] (ZeK Zh Zf Zg Zb n) (fun C=>C=Zo):=fun n=>by
  induction n with
  |zero=>
   refine⟨fun C hC=> ?_⟩;rcases hC with hC
   ·cases hC.symm;exact⟨T.cl_House,_,_,⟨Z8,Zex,JG.kp⟩,JG.binds (fun _ _ _ _ _ _=>XJ fun _ _=>rfl),Je Zm0⟩
  |succ n ih=>
   refine⟨fun C hC=> ?_⟩;rcases hC with hC
   ·cases hC.symm;exact⟨T.cl_House,_,_,⟨Z8,Zex,JG.kp⟩,JG.binds (fun _ _ _ _ _ _=>XJ fun _ _=>rfl),Zhe JG T n XD Zam Zis Jq⟩
 have Zqg:∀n,Zbj l.prog w K mg base CX0 (27+n+1) "run" ["self","day"] (ZkJ Zh Zf Zg Zb n) (fun C=>C=Zo):=fun n=>by
  induction n with
  |zero=>
   refine⟨fun C hC=> ?_⟩;rcases hC with hC
   ·cases hC.symm;exact⟨T.cl_House,_,_,⟨J9,Zh4,Zb0.kp⟩,Zb0.binds (fun _ _ _ _ _ _=>XJ fun _ _=>rfl),Je Zq4⟩
  |succ n ih=>
   refine⟨fun C hC=> ?_⟩;rcases hC with hC
   ·cases hC.symm;exact⟨T.cl_House,_,_,⟨J9,Zh4,Zb0.kp⟩,Zb0.binds (fun _ _ _ _ _ _=>XJ fun _ _=>rfl),ZkK Zb0 T n (Ziu 12)⟩
 have Zfu:Cal l.prog w K mg base CX0 41 "_law_took" ["_law_house","_law_day","_law_days","_law_away"] (Zem Zh Zf Zg Zb Zo):=⟨_,_,PySem.W.mg_of X G Z0p,ZfC.kp,ZfC.binds (fun _ _ _ _ _ _=>ZmE fun _ _ _ _=>rfl),Zm8 ZfC T (Zqg 12)⟩
 have Zbp:Cal l.prog w K mg base CX0 42 "_law_walked" ["_law_house","_law_days","_law_runs","_law_alone"] (Zct Zh Zf Zg Zb Zo):=⟨_,_,PySem.W.mg_of X G Z05,ZdA.kp,ZdA.binds (fun _ _ _ _ _ _=>ZmE fun _ _ _ _=>rfl),Zj5 ZdA T Zfu⟩
 have Zhu:Zk7 l.prog w K mg base CX0 1 "House" Zo ["self","book"] (Zcq Zo):=⟨_,_,PySem.W.mg_of X G Z1e,⟨Z1r,Z08,Zl3,Z1s⟩,Zgc.binds (fun _ _ _ _ _ _=>XJ fun _ _=>rfl),ZiY Zgc T T.cl_House T.n_House_book T.n_House_told T.n_House_own T.n_House_holdings T.n_House_run_days T.n_House_taken T.n_House_words⟩
 have Zfr:∀n,Zbj l.prog w K mg base CX0 (0+n+1) "keep_row" ["self","row"] (Zc9 Zh Zf Zg Zb n) (fun C=>C=Zo):=fun n=>by
  induction n with
  |zero=>
   refine⟨fun C hC=> ?_⟩;rcases hC with hC
   ·cases hC.symm;exact⟨T.cl_House,_,_,⟨Z4,ZcW,Jk.kp⟩,Jk.binds (fun _ _ _ _ _ _=>XJ fun _ _=>rfl),Je ZiZ⟩
  |succ n ih=>
   refine⟨fun C hC=> ?_⟩;rcases hC with hC
   ·cases hC.symm;exact⟨T.cl_House,_,_,⟨Z4,ZcW,Jk.kp⟩,Jk.binds (fun _ _ _ _ _ _=>XJ fun _ _=>rfl),Zg3 Jk T n⟩
 have Zds:∀n,Zbj l.prog w K mg base CX0 (1+n+1) "refuse_row" ["self","row"] (ZaJ Zh Zf Zg Zb n) (fun C=>C=Zo):=fun n=>by
  induction n with
  |zero=>
   refine⟨fun C hC=> ?_⟩;rcases hC with hC
   ·cases hC.symm;exact⟨T.cl_House,_,_,⟨Z0,ZbX,Xu.kp⟩,Xu.binds (fun _ _ _ _ _ _=>XJ fun _ _=>rfl),Je Zhc⟩
  |succ n ih=>
   refine⟨fun C hC=> ?_⟩;rcases hC with hC
   ·cases hC.symm;exact⟨T.cl_House,_,_,⟨Z0,ZbX,Xu.kp⟩,Xu.binds (fun _ _ _ _ _ _=>XJ fun _ _=>rfl),ZeP Xu T n Zgy Zak ZbQ⟩
 have Zdt:∀n,Zbj l.prog w K mg base CX0 (0+n+1) "touched_by" ["self","row"] (ZaK Zh Zf Zg Zb n) (fun C=>C=Zo):=fun n=>by
  induction n with
  |zero=>
   refine⟨fun C hC=> ?_⟩;rcases hC with hC
   ·cases hC.symm;exact⟨T.cl_House,_,_,⟨Z1,ZbY,Xv.kp⟩,Xv.binds (fun _ _ _ _ _ _=>XJ fun _ _=>rfl),Je Zhd⟩
  |succ n ih=>
   refine⟨fun C hC=> ?_⟩;rcases hC with hC
   ·cases hC.symm;exact⟨T.cl_House,_,_,⟨Z1,ZbY,Xv.kp⟩,Xv.binds (fun _ _ _ _ _ _=>XJ fun _ _=>rfl),ZeR Xv T n⟩
 have Zeh:∀n,Zbj l.prog w K mg base CX0 (14+n+1) "words_now" ["self","records"] (Zbo Zh Zf Zg Zb n) (fun C=>C=Zo):=fun n=>by
  induction n with
  |zero=>
   refine⟨fun C hC=> ?_⟩;rcases hC with hC
   ·cases hC.symm;exact⟨T.cl_House,_,_,⟨Z2,Zcc,XS.kp⟩,XS.binds (fun _ _ _ _ _ _=>XJ fun _ _=>rfl),Je Zio⟩
  |succ n ih=>
   refine⟨fun C hC=> ?_⟩;rcases hC with hC
   ·cases hC.symm;exact⟨T.cl_House,_,_,⟨Z2,Zcc,XS.kp⟩,XS.binds (fun _ _ _ _ _ _=>XJ fun _ _=>rfl),Zfq XS T n XD Zam Jq⟩
 have ZkX:∀n,Zbj l.prog w K mg base CX0 (27+n+1) "tell" ["self","row"] (Zhs Zh Zf Zg Zb n) (fun C=>C=Zo):=fun n=>by
  induction n with
  |zero=>
   refine⟨fun C hC=> ?_⟩;rcases hC with hC
   ·cases hC.symm;exact⟨T.cl_House,_,_,⟨X3,Zgd,Zas.kp⟩,Zas.binds (fun _ _ _ _ _ _=>XJ fun _ _=>rfl),Je Zoy⟩
  |succ n ih=>
   refine⟨fun C hC=> ?_⟩;rcases hC with hC
   ·cases hC.symm;exact⟨T.cl_House,_,_,⟨X3,Zgd,Zas.kp⟩,Zas.binds (fun _ _ _ _ _ _=>XJ fun _ _=>rfl),Zj3 Zas T n (Zfr 12) (Zds 12) (Zdt 12) (Zeh 12)⟩
 exact Zsl Ztg T Zhu Zcu Xn Zcv Zen Zbp (ZkX 12) Zfv
end K95
namespace PySem.W.Fast
theorem tw6421218469707834368:0=0:=rfl
theorem tw18185847227785970720:0=0:=rfl
theorem tw16929977950636663072:0=0:=rfl
theorem tw4046547413728213344:0=0:=rfl
theorem tw11350903482462587264:0=0:=rfl
theorem tw6082890922889097664:0=0:=rfl
theorem tw12085874609786774976:0=0:=rfl
theorem tw14747727414451887584:0=0:=rfl
theorem tw15092152712234201728:0=0:=rfl
theorem tw7795669087066993344:0=0:=rfl
theorem tw2484630034683219712:0=0:=rfl
theorem tw15048365184444312320:0=0:=rfl
theorem tw15978758113897414432:0=0:=rfl
theorem tw4000349259168100160:0=0:=rfl
theorem tw2908265925647835040:0=0:=rfl
theorem tw1374361725869022112:0=0:=rfl
theorem tw14944303138356004832:0=0:=rfl
theorem tw4591428315951239136:0=0:=rfl
theorem tw5046424135757365216:0=0:=rfl
theorem tw2326994669828795425:0=0:=rfl
theorem tw14458214799601457281:0=0:=rfl
theorem tw6713803824768931041:0=0:=rfl
theorem tw13936929850644622561:0=0:=rfl
theorem tw1802567035761873281:0=0:=rfl
theorem tw8036722492266609249:0=0:=rfl
theorem tw14309041910834762433:0=0:=rfl
theorem tw7681278829942818561:0=0:=rfl
theorem tw16850895314001356577:0=0:=rfl
theorem tw2954033231394962209:0=0:=rfl
theorem tw15848848956502862657:0=0:=rfl
theorem tw9479529127834368865:0=0:=rfl
theorem tw16890600507310382017:0=0:=rfl
theorem tw12866760167078862817:0=0:=rfl
theorem tw11613941595429074946:0=0:=rfl
theorem tw1460397881730359362:0=0:=rfl
theorem tw2262823323433504866:0=0:=rfl
theorem tw11741184746157157506:0=0:=rfl
theorem tw11637809725119134882:0=0:=rfl
theorem tw2830336107284170914:0=0:=rfl
theorem tw1989038436392224962:0=0:=rfl
theorem tw17825197027927581922:0=0:=rfl
theorem tw5220204994372441314:0=0:=rfl
theorem tw810267874352800098:0=0:=rfl
theorem tw14358837882742269346:0=0:=rfl
theorem tw11560957329477364194:0=0:=rfl
theorem tw8422225193653668322:0=0:=rfl
theorem tw14985425122826414562:0=0:=rfl
theorem tw63098670180142658:0=0:=rfl
theorem tw9218815172085041794:0=0:=rfl
theorem tw3713091173502625442:0=0:=rfl
theorem tw6079488367461718722:0=0:=rfl
theorem tw14973897321330895586:0=0:=rfl
theorem tw589043409957934850:0=0:=rfl
theorem tw5936601607213303586:0=0:=rfl
theorem tw3052608895419793218:0=0:=rfl
theorem tw7818011557756597058:0=0:=rfl
theorem tw11162094946830687202:0=0:=rfl
theorem tw8286334950132028386:0=0:=rfl
theorem tw16089201347315036195:0=0:=rfl
theorem tw9726421598246294595:0=0:=rfl
theorem tw15760100265933704291:0=0:=rfl
theorem tw7168787944919275715:0=0:=rfl
theorem tw14617429580007090371:0=0:=rfl
theorem tw14680318722819549411:0=0:=rfl
theorem tw11813301816079038755:0=0:=rfl
theorem tw697183348669703523:0=0:=rfl
theorem tw17159787551553122659:0=0:=rfl
theorem tw2972491260351621507:0=0:=rfl
theorem tw15544249257030915459:0=0:=rfl
theorem tw6048514354179117475:0=0:=rfl
theorem tw14273633909887540643:0=0:=rfl
theorem tw10406767564637078051:0=0:=rfl
theorem tw5701132601693049411:0=0:=rfl
theorem tw15457602068841423491:0=0:=rfl
theorem tw11927348378219005603:0=0:=rfl
theorem tw6075822071825669827:0=0:=rfl
theorem tw13127723403793598179:0=0:=rfl
theorem tw8466332864399987459:0=0:=rfl
theorem tw14242856841666064163:0=0:=rfl
theorem tw4189653357063971747:0=0:=rfl
theorem tw4917324185812671716:0=0:=rfl
theorem tw1255640126872101092:0=0:=rfl
theorem tw3462612786292961572:0=0:=rfl
theorem tw13491587249473295716:0=0:=rfl
theorem tw11958983262273973604:0=0:=rfl
theorem tw17538848128380119428:0=0:=rfl
theorem tw14258086549332329892:0=0:=rfl
theorem tw4446072963045759460:0=0:=rfl
theorem tw11884145767818110436:0=0:=rfl
theorem tw11808188926844167652:0=0:=rfl
theorem tw8817708524399603204:0=0:=rfl
theorem tw4793592582900884100:0=0:=rfl
theorem tw7842048929183531844:0=0:=rfl
theorem tw12826598157046713188:0=0:=rfl
theorem tw16901695397249078116:0=0:=rfl
theorem tw12281224984879847268:0=0:=rfl
theorem tw8973792077879844740:0=0:=rfl
theorem tw2625098031197010820:0=0:=rfl
theorem tw13571721749628812164:0=0:=rfl
theorem tw8835932545167133668:0=0:=rfl
theorem tw13959075034693204005:0=0:=rfl
theorem tw2470497745747718245:0=0:=rfl
theorem tw16750432260881025157:0=0:=rfl
theorem tw3762493952166381733:0=0:=rfl
theorem tw17189684773530153157:0=0:=rfl
theorem tw6594068959157893317:0=0:=rfl
theorem tw7621740770905944325:0=0:=rfl
theorem tw8573285971868584293:0=0:=rfl
theorem tw14149755923871463845:0=0:=rfl
theorem tw13361724445688631749:0=0:=rfl
theorem tw3876765194302170565:0=0:=rfl
theorem tw10935144523805192773:0=0:=rfl
theorem tw6616088661875463813:0=0:=rfl
theorem tw6680738687590930053:0=0:=rfl
theorem tw3140192897788375877:0=0:=rfl
theorem tw406382270384255845:0=0:=rfl
theorem tw1705021754419157925:0=0:=rfl
theorem tw4295093563345866822:0=0:=rfl
theorem tw4720841369732740262:0=0:=rfl
theorem tw13114298004844939494:0=0:=rfl
theorem tw2106270200686898438:0=0:=rfl
theorem tw17040806526721495302:0=0:=rfl
theorem tw16189715663972317478:0=0:=rfl
theorem tw3814965229916495270:0=0:=rfl
theorem tw9899006483199643046:0=0:=rfl
theorem tw1525746999844043174:0=0:=rfl
theorem tw1900012518203473382:0=0:=rfl
theorem tw7068408175210998278:0=0:=rfl
theorem tw5924843885610205734:0=0:=rfl
theorem tw13546791294147265222:0=0:=rfl
theorem tw6429419621125215942:0=0:=rfl
theorem tw14945010386993776454:0=0:=rfl
theorem tw10222188758611304262:0=0:=rfl
theorem tw1237417849965226822:0=0:=rfl
theorem tw9880074028899269446:0=0:=rfl
theorem tw7622055733697597286:0=0:=rfl
theorem tw12928082803121835878:0=0:=rfl
theorem tw6517799327087023014:0=0:=rfl
theorem tw3762432698422675398:0=0:=rfl
theorem tw2044587008873732199:0=0:=rfl
theorem tw12214073626329859271:0=0:=rfl
theorem tw1862504759187516679:0=0:=rfl
theorem tw7882831274141024519:0=0:=rfl
theorem tw5840334298540941671:0=0:=rfl
theorem tw8037504899206036967:0=0:=rfl
theorem tw4669751573709049351:0=0:=rfl
theorem tw2301433466498356775:0=0:=rfl
theorem tw5499404758808275719:0=0:=rfl
theorem tw18154727947606975239:0=0:=rfl
theorem tw13610085039318953799:0=0:=rfl
theorem tw14079108076063660935:0=0:=rfl
theorem tw13434151230277940328:0=0:=rfl
theorem tw8874924383102789768:0=0:=rfl
theorem tw3048081437798599880:0=0:=rfl
theorem tw7593091662157634824:0=0:=rfl
theorem tw14815411052280320296:0=0:=rfl
theorem tw10444512452474245416:0=0:=rfl
theorem tw17002287948230999432:0=0:=rfl
theorem tw16151935688426131912:0=0:=rfl
theorem tw6277702245704085000:0=0:=rfl
theorem tw16167569799384187496:0=0:=rfl
theorem tw10360014307113391720:0=0:=rfl
theorem tw18141934789747470952:0=0:=rfl
theorem tw2836371318296744584:0=0:=rfl
theorem tw10510106016688407176:0=0:=rfl
theorem tw5918280213139518216:0=0:=rfl
theorem tw13946524507642871592:0=0:=rfl
theorem tw13226884583252461384:0=0:=rfl
theorem tw4357926034517530472:0=0:=rfl
theorem tw3859047730677580680:0=0:=rfl
theorem tw5325678379937749928:0=0:=rfl
theorem tw9887561006285217736:0=0:=rfl
theorem tw4333756490734158857:0=0:=rfl
theorem tw10375414175966226473:0=0:=rfl
theorem tw13082903952817593417:0=0:=rfl
theorem tw6325812131580952681:0=0:=rfl
theorem tw14520098218348733577:0=0:=rfl
theorem tw6868080278346739881:0=0:=rfl
theorem tw18026139875980469481:0=0:=rfl
theorem tw17496258775905730889:0=0:=rfl
theorem tw9888726680201853353:0=0:=rfl
theorem tw6583035909529840105:0=0:=rfl
theorem tw3501374357985276393:0=0:=rfl
theorem tw3133988124333889065:0=0:=rfl
theorem tw6152214429337088649:0=0:=rfl
theorem tw12787552109532252873:0=0:=rfl
theorem tw10969413963359861545:0=0:=rfl
theorem tw17333151738577063753:0=0:=rfl
theorem tw11520225677581901673:0=0:=rfl
theorem tw5351765789650508649:0=0:=rfl
theorem tw4377312034292085641:0=0:=rfl
theorem tw2471396445391935401:0=0:=rfl
theorem tw17085189846786601897:0=0:=rfl
theorem tw5037583576985534409:0=0:=rfl
theorem tw14198365804743299017:0=0:=rfl
theorem tw7621745242868948042:0=0:=rfl
theorem tw3543735945677122634:0=0:=rfl
theorem tw10662571874407271562:0=0:=rfl
theorem tw9909101408294107306:0=0:=rfl
theorem tw6822975385576665258:0=0:=rfl
theorem tw7729376393640186058:0=0:=rfl
theorem tw10423330508584354026:0=0:=rfl
theorem tw15794429700984290570:0=0:=rfl
theorem tw9414439778485897482:0=0:=rfl
theorem tw4912636795156665642:0=0:=rfl
theorem tw9168659735743434026:0=0:=rfl
theorem tw10595523929502572938:0=0:=rfl
theorem tw10022130839529961002:0=0:=rfl
theorem tw6701773740704566954:0=0:=rfl
theorem tw13984696758429717162:0=0:=rfl
theorem tw3731255351183382186:0=0:=rfl
theorem tw2065523500742996778:0=0:=rfl
theorem tw17747718761752569674:0=0:=rfl
theorem tw8717246925415114666:0=0:=rfl
theorem tw11836434641118983179:0=0:=rfl
theorem tw16834965570126320651:0=0:=rfl
theorem tw16054075297674056747:0=0:=rfl
theorem tw13838923826231446603:0=0:=rfl
theorem tw1495269900565793931:0=0:=rfl
theorem tw5604621967048849707:0=0:=rfl
theorem tw7341559625483507019:0=0:=rfl
theorem tw18229774825943029067:0=0:=rfl
theorem tw10268119833855155531:0=0:=rfl
theorem tw5191751015207137611:0=0:=rfl
theorem tw14019588604798418347:0=0:=rfl
theorem tw17221551253836389835:0=0:=rfl
theorem tw16250890226501066379:0=0:=rfl
theorem tw12745328519780545163:0=0:=rfl
theorem tw3097846768944866955:0=0:=rfl
theorem tw11182320037879597739:0=0:=rfl
theorem tw3632081508308177579:0=0:=rfl
theorem tw12896871492570578603:0=0:=rfl
theorem tw3693792453887502059:0=0:=rfl
theorem tw13331923334045953803:0=0:=rfl
theorem tw14412260685662877451:0=0:=rfl
theorem tw3537256649923435307:0=0:=rfl
theorem tw15371209640980852523:0=0:=rfl
theorem tw7739266167725797163:0=0:=rfl
theorem tw17648578040973203275:0=0:=rfl
theorem tw2104431503841691499:0=0:=rfl
theorem tw7905291029698925419:0=0:=rfl
theorem tw13724729222497298283:0=0:=rfl
theorem tw12224373943645049771:0=0:=rfl
theorem tw10279610147290266539:0=0:=rfl
theorem tw5063949832195329003:0=0:=rfl
theorem tw5004010846915639340:0=0:=rfl
theorem tw15209129804616591628:0=0:=rfl
theorem tw4570087624416927148:0=0:=rfl
theorem tw4519142569786638796:0=0:=rfl
theorem tw9224677951968957900:0=0:=rfl
theorem tw4254376696558418604:0=0:=rfl
theorem tw2148701556864965324:0=0:=rfl
theorem tw11064175861297144620:0=0:=rfl
theorem tw6811682404365638604:0=0:=rfl
theorem tw1018078872541804492:0=0:=rfl
theorem tw4515395889286857708:0=0:=rfl
theorem tw9863367974810757197:0=0:=rfl
theorem tw1728305304143106221:0=0:=rfl
theorem tw14024627523685248173:0=0:=rfl
theorem tw5718484896337785069:0=0:=rfl
theorem tw5655034514545552621:0=0:=rfl
theorem tw137143699344779629:0=0:=rfl
theorem tw14856840646574722445:0=0:=rfl
theorem tw7371003751099378061:0=0:=rfl
theorem tw4590340521596703149:0=0:=rfl
theorem tw18315929646451970477:0=0:=rfl
theorem tw18005286459588817357:0=0:=rfl
theorem tw6646005576556549645:0=0:=rfl
theorem tw13275325849920386605:0=0:=rfl
theorem tw1963034751696677453:0=0:=rfl
theorem tw2746327154821467789:0=0:=rfl
theorem tw4608426053204220589:0=0:=rfl
theorem tw11793615958995957421:0=0:=rfl
theorem tw5558452337275453133:0=0:=rfl
theorem tw1938757512481845005:0=0:=rfl
theorem tw10838494544896139053:0=0:=rfl
theorem tw4200089352881530733:0=0:=rfl
theorem tw14517626816350452685:0=0:=rfl
theorem tw7976375844920954894:0=0:=rfl
theorem tw10795867966830968878:0=0:=rfl
theorem tw6592190163044885582:0=0:=rfl
theorem tw15371261458043900078:0=0:=rfl
theorem tw1134778081246840014:0=0:=rfl
theorem tw5330004154544003374:0=0:=rfl
theorem tw13035525575140666670:0=0:=rfl
theorem tw17701734564977298766:0=0:=rfl
theorem tw2155995738969235790:0=0:=rfl
theorem tw3907177950086081998:0=0:=rfl
theorem tw15393969836711398862:0=0:=rfl
theorem tw16643201513461543438:0=0:=rfl
theorem tw10551904643493380686:0=0:=rfl
theorem tw10882101396381053550:0=0:=rfl
theorem tw13474114768156296846:0=0:=rfl
theorem tw15123550634235629230:0=0:=rfl
theorem tw16300076627862935374:0=0:=rfl
theorem tw15346581332209802094:0=0:=rfl
theorem tw10594370196732196814:0=0:=rfl
theorem tw10574635476132425678:0=0:=rfl
theorem tw1752316377838401583:0=0:=rfl
theorem tw13455762660661984431:0=0:=rfl
theorem tw11202794597209226511:0=0:=rfl
theorem tw4206563451787660623:0=0:=rfl
theorem tw1087368502561673615:0=0:=rfl
theorem tw11649887450025936367:0=0:=rfl
theorem tw16406881118101423791:0=0:=rfl
theorem tw7554094378226168623:0=0:=rfl
theorem tw55815280289253231:0=0:=rfl
theorem tw66795496805444495:0=0:=rfl
theorem tw2188566877806391183:0=0:=rfl
theorem tw11748062699786017711:0=0:=rfl
theorem tw16912649024332979119:0=0:=rfl
theorem tw15849864066310288335:0=0:=rfl
theorem tw93542745513116655:0=0:=rfl
theorem tw9404667162401180720:0=0:=rfl
theorem tw4573280988315148432:0=0:=rfl
theorem tw5638494775233956048:0=0:=rfl
theorem tw15948954825210320080:0=0:=rfl
theorem tw16884666578092437744:0=0:=rfl
theorem tw12596552669690400016:0=0:=rfl
theorem tw14186576292727502128:0=0:=rfl
theorem tw3152290118235514160:0=0:=rfl
theorem tw16784438182417358256:0=0:=rfl
theorem tw2029001063355618800:0=0:=rfl
theorem tw1758050635260432208:0=0:=rfl
theorem tw6241495714714018640:0=0:=rfl
theorem tw11693016629024590704:0=0:=rfl
theorem tw13262061261539548144:0=0:=rfl
theorem tw6865685136219463697:0=0:=rfl
theorem tw10714247488526761201:0=0:=rfl
theorem tw2052374839083073841:0=0:=rfl
theorem tw16089979611851326801:0=0:=rfl
theorem tw4215651014148098449:0=0:=rfl
theorem tw3108125245839016529:0=0:=rfl
theorem tw101388744422948465:0=0:=rfl
theorem tw17333582376543200977:0=0:=rfl
theorem tw18011894788427542257:0=0:=rfl
theorem tw12321221602416353009:0=0:=rfl
theorem tw10452474403397972753:0=0:=rfl
theorem tw9142340581209157521:0=0:=rfl
theorem tw12688942774364783730:0=0:=rfl
theorem tw3331631030565468306:0=0:=rfl
theorem tw12372240931211812018:0=0:=rfl
theorem tw10638832204071036146:0=0:=rfl
theorem tw12046966018985260370:0=0:=rfl
theorem tw4078159765837550962:0=0:=rfl
theorem tw12821111180943846770:0=0:=rfl
theorem tw2750749182777493938:0=0:=rfl
theorem tw3664517151207108114:0=0:=rfl
theorem tw8370088900374106770:0=0:=rfl
theorem tw16729238967800109714:0=0:=rfl
theorem tw3039926908027174610:0=0:=rfl
theorem tw5482176904029842162:0=0:=rfl
theorem tw12351556312704667410:0=0:=rfl
theorem tw16880806208753806130:0=0:=rfl
theorem tw7963848265293161266:0=0:=rfl
theorem tw12951593938874301266:0=0:=rfl
theorem tw5785037933540815762:0=0:=rfl
theorem tw7702597989773236146:0=0:=rfl
theorem tw16789875213214332914:0=0:=rfl
theorem tw343887564773704690:0=0:=rfl
theorem tw16769391783754636307:0=0:=rfl
theorem tw8327004753303186515:0=0:=rfl
theorem tw15523032726826350771:0=0:=rfl
theorem tw977530453159419091:0=0:=rfl
theorem tw2641419105751740723:0=0:=rfl
theorem tw16101624998330233139:0=0:=rfl
theorem tw406678714537712019:0=0:=rfl
theorem tw1259882967516886515:0=0:=rfl
theorem tw10157580374111587827:0=0:=rfl
theorem tw151833937146341907:0=0:=rfl
theorem tw13521122248451997235:0=0:=rfl
theorem tw9358562724274642515:0=0:=rfl
theorem tw10074573065990557299:0=0:=rfl
theorem tw5349391243905567411:0=0:=rfl
theorem tw16847906597455401683:0=0:=rfl
theorem tw12050787476109218515:0=0:=rfl
theorem tw1617968309297019603:0=0:=rfl
theorem tw13384117298512153331:0=0:=rfl
theorem tw15355399263739065107:0=0:=rfl
theorem tw4250298109810057011:0=0:=rfl
theorem tw16773232187532606355:0=0:=rfl
theorem tw4743322987372912563:0=0:=rfl
theorem tw12991715770782721971:0=0:=rfl
theorem tw16622489317741783124:0=0:=rfl
theorem tw3195974853879579732:0=0:=rfl
theorem tw13840727285489128628:0=0:=rfl
theorem tw8247129484101125300:0=0:=rfl
theorem tw14831078580954554580:0=0:=rfl
theorem tw6506620983754372372:0=0:=rfl
theorem tw17232940703790676244:0=0:=rfl
theorem tw5069576510115222836:0=0:=rfl
theorem tw3896848646856799572:0=0:=rfl
theorem tw9488743100941796692:0=0:=rfl
theorem tw5357182871805464948:0=0:=rfl
theorem tw5239138915828904404:0=0:=rfl
theorem tw14895850767924939284:0=0:=rfl
theorem tw17612413837046942260:0=0:=rfl
theorem tw7543290533844334132:0=0:=rfl
theorem tw351951994519176788:0=0:=rfl
theorem tw17962754979953039956:0=0:=rfl
theorem tw16509061057187196628:0=0:=rfl
theorem tw11110827206155214612:0=0:=rfl
theorem tw5903862951218621204:0=0:=rfl
theorem tw17987978759724600244:0=0:=rfl
theorem tw5438273883227819988:0=0:=rfl
theorem tw4074814264961613845:0=0:=rfl
theorem tw9740882957523585109:0=0:=rfl
theorem tw9594857931805072501:0=0:=rfl
theorem tw6821599404270592277:0=0:=rfl
theorem tw8223052857875620149:0=0:=rfl
theorem tw17245545739602850101:0=0:=rfl
theorem tw10092668737014631829:0=0:=rfl
theorem tw15633120947086366101:0=0:=rfl
theorem tw16809813000322992565:0=0:=rfl
theorem tw1064302301184229813:0=0:=rfl
theorem tw2594994697124802005:0=0:=rfl
theorem tw4574537613649586677:0=0:=rfl
theorem tw4088223263068678773:0=0:=rfl
theorem tw7204016496337415797:0=0:=rfl
theorem tw16655031684015145749:0=0:=rfl
theorem tw13464247087620650805:0=0:=rfl
theorem tw5787962056797894581:0=0:=rfl
theorem tw14995970230509264821:0=0:=rfl
theorem tw316136385476953045:0=0:=rfl
theorem tw3853868049915151414:0=0:=rfl
theorem tw7488406107434925174:0=0:=rfl
theorem tw15821114557481387158:0=0:=rfl
theorem tw8472488542290731286:0=0:=rfl
theorem tw3213390461034460438:0=0:=rfl
theorem tw6627607217754321206:0=0:=rfl
theorem tw16771019527485089110:0=0:=rfl
theorem tw9892462186893053302:0=0:=rfl
theorem tw1305490685156657558:0=0:=rfl
theorem tw6223620006308783510:0=0:=rfl
theorem tw7282423715032483222:0=0:=rfl
theorem tw11417758045348340150:0=0:=rfl
theorem tw9905971909964684726:0=0:=rfl
theorem tw13248100740117203414:0=0:=rfl
theorem tw11097815691214000726:0=0:=rfl
theorem tw17699664419527524982:0=0:=rfl
theorem tw11490805487174463094:0=0:=rfl
theorem tw1527942074360152726:0=0:=rfl
theorem tw9132027343638692566:0=0:=rfl
theorem tw16496979432440439542:0=0:=rfl
theorem tw13436030673769710326:0=0:=rfl
theorem tw11416933750292509430:0=0:=rfl
theorem tw8204369038000214806:0=0:=rfl
theorem tw17424215482322334486:0=0:=rfl
theorem tw9742115012523394870:0=0:=rfl
theorem tw4415712450933038902:0=0:=rfl
theorem tw2807126706875660182:0=0:=rfl
theorem tw1391018091579923382:0=0:=rfl
theorem tw15370734073981307830:0=0:=rfl
theorem tw6874232252187836374:0=0:=rfl
theorem tw6552220525294260247:0=0:=rfl
theorem tw8419030628768113751:0=0:=rfl
theorem tw17675174351800517751:0=0:=rfl
theorem tw5511437719994181783:0=0:=rfl
theorem tw13350175354073279639:0=0:=rfl
theorem tw14233506929542231191:0=0:=rfl
theorem tw17571475086824933559:0=0:=rfl
theorem tw5424870108629806263:0=0:=rfl
theorem tw2157745263948298455:0=0:=rfl
theorem tw13933569251961814231:0=0:=rfl
theorem tw16704011976023278839:0=0:=rfl
theorem tw17871740192824870231:0=0:=rfl
theorem tw8206591321836539223:0=0:=rfl
theorem tw2732931048822962551:0=0:=rfl
theorem tw5328928183186056823:0=0:=rfl
theorem tw9596429712414324375:0=0:=rfl
theorem tw12922617232877311639:0=0:=rfl
theorem tw16189264190255306423:0=0:=rfl
theorem tw15525592448072524471:0=0:=rfl
theorem tw2064666792351945431:0=0:=rfl
theorem tw9173828860401024759:0=0:=rfl
theorem tw7980937224865389335:0=0:=rfl
theorem tw15241139631449480983:0=0:=rfl
theorem tw4988275324270881559:0=0:=rfl
theorem tw7793296959158705047:0=0:=rfl
theorem tw11042672376398841880:0=0:=rfl
theorem tw71519325166771320:0=0:=rfl
theorem tw6464704438501505240:0=0:=rfl
theorem tw7686890702424759608:0=0:=rfl
theorem tw14685984600479748440:0=0:=rfl
theorem tw4441209782779659672:0=0:=rfl
theorem tw15458764295343634872:0=0:=rfl
theorem tw12336964875617435096:0=0:=rfl
theorem tw10975521278991410744:0=0:=rfl
theorem tw12418178281841212088:0=0:=rfl
theorem tw2517282687001280184:0=0:=rfl
theorem tw15216606366456529592:0=0:=rfl
theorem tw728556374068400856:0=0:=rfl
theorem tw7012859078385283864:0=0:=rfl
theorem tw17717340503137285912:0=0:=rfl
theorem tw15654858088739821368:0=0:=rfl
theorem tw7841092908365981528:0=0:=rfl
theorem tw6725985311482294104:0=0:=rfl
theorem tw2734763508431455096:0=0:=rfl
theorem tw15400859139549166488:0=0:=rfl
theorem tw2144223693426232248:0=0:=rfl
theorem tw6663185654580235256:0=0:=rfl
theorem tw2024606415071405081:0=0:=rfl
theorem tw156754553066310777:0=0:=rfl
theorem tw11020515804104246489:0=0:=rfl
theorem tw8853257412191418617:0=0:=rfl
theorem tw16083885642761235801:0=0:=rfl
theorem tw11047902630552852921:0=0:=rfl
theorem tw10897795273790173785:0=0:=rfl
theorem tw11106319763396634233:0=0:=rfl
theorem tw4107805897652646713:0=0:=rfl
theorem tw5895497255625621337:0=0:=rfl
theorem tw10864400666581113817:0=0:=rfl
theorem tw10705129145493233625:0=0:=rfl
theorem tw868912648504880089:0=0:=rfl
theorem tw15999715024686907385:0=0:=rfl
theorem tw8492133798226111481:0=0:=rfl
theorem tw17788220469409152058:0=0:=rfl
theorem tw10063700333475251290:0=0:=rfl
theorem tw8434415640688222362:0=0:=rfl
theorem tw11453823783314351322:0=0:=rfl
theorem tw127864857686643962:0=0:=rfl
theorem tw8534810373094610202:0=0:=rfl
theorem tw12467733896069610810:0=0:=rfl
theorem tw12629473462664326490:0=0:=rfl
theorem tw6807076483078631866:0=0:=rfl
theorem tw16786669596874871258:0=0:=rfl
theorem tw6919392202732526106:0=0:=rfl
theorem tw4740495667529870874:0=0:=rfl
theorem tw4257867514945889914:0=0:=rfl
theorem tw13522570705796243162:0=0:=rfl
theorem tw5940157415874866938:0=0:=rfl
theorem tw5149465839650470778:0=0:=rfl
theorem tw16932012313574370202:0=0:=rfl
theorem tw17153032817834728410:0=0:=rfl
theorem tw4864325870137620474:0=0:=rfl
theorem tw15383546825447557147:0=0:=rfl
theorem tw2839029141658063963:0=0:=rfl
theorem tw18049378111651055739:0=0:=rfl
theorem tw15856764674878647579:0=0:=rfl
theorem tw8895893609061192123:0=0:=rfl
theorem tw16082897997995152827:0=0:=rfl
theorem tw248961079017412027:0=0:=rfl
theorem tw15161194914673364443:0=0:=rfl
theorem tw146567138555041307:0=0:=rfl
theorem tw6439116635084762811:0=0:=rfl
theorem tw8747189554636398267:0=0:=rfl
theorem tw11000336948020088603:0=0:=rfl
theorem tw7934031517215768347:0=0:=rfl
theorem tw3057118598244535131:0=0:=rfl
theorem tw11881518870825194331:0=0:=rfl
theorem tw6263049263920455547:0=0:=rfl
theorem tw11510988910134120379:0=0:=rfl
theorem tw11504470447132642332:0=0:=rfl
theorem tw16347321109327045660:0=0:=rfl
theorem tw9028002739821670428:0=0:=rfl
theorem tw12854149027805781084:0=0:=rfl
theorem tw11979869668164989052:0=0:=rfl
theorem tw17605560119034055836:0=0:=rfl
theorem tw3978987374891581596:0=0:=rfl
theorem tw11066321099815733468:0=0:=rfl
theorem tw2916767127325170012:0=0:=rfl
theorem tw3629780467643843036:0=0:=rfl
theorem tw11507051049841470940:0=0:=rfl
theorem tw14816910075600458236:0=0:=rfl
theorem tw986901822173034044:0=0:=rfl
theorem tw7035627614506982044:0=0:=rfl
theorem tw2274711069573380796:0=0:=rfl
theorem tw2331952010214562588:0=0:=rfl
theorem tw17335373271511863164:0=0:=rfl
theorem tw4768196423955758972:0=0:=rfl
theorem tw17652290389290437500:0=0:=rfl
theorem tw8524933113276814268:0=0:=rfl
theorem tw14755268559427185596:0=0:=rfl
theorem tw16694381385668218973:0=0:=rfl
theorem tw5905453126547901597:0=0:=rfl
theorem tw13094117175717145821:0=0:=rfl
theorem tw14313269586248431837:0=0:=rfl
theorem tw17390753889459835133:0=0:=rfl
theorem tw16315840497173615869:0=0:=rfl
theorem tw16041725352339022109:0=0:=rfl
theorem tw5126408879718027549:0=0:=rfl
theorem tw3950025308978445661:0=0:=rfl
theorem tw12795130186335712637:0=0:=rfl
theorem tw13251310672462259613:0=0:=rfl
theorem tw14011775136660888029:0=0:=rfl
theorem tw17171892248178570717:0=0:=rfl
theorem tw9602048857290855965:0=0:=rfl
theorem tw228980766608801373:0=0:=rfl
theorem tw17072162848404125309:0=0:=rfl
theorem tw16420235641002034845:0=0:=rfl
theorem tw3261564845892508317:0=0:=rfl
theorem tw10227138942043684509:0=0:=rfl
theorem tw7644455550068854493:0=0:=rfl
theorem tw4718613227409146653:0=0:=rfl
theorem tw7680636834146340765:0=0:=rfl
theorem tw10158713981152539645:0=0:=rfl
theorem tw7558043268710121566:0=0:=rfl
theorem tw753882983855126686:0=0:=rfl
theorem tw12072240913935370462:0=0:=rfl
theorem tw6485532611606673790:0=0:=rfl
theorem tw3975487635558342046:0=0:=rfl
theorem tw16750990903343690174:0=0:=rfl
theorem tw14368285306011295198:0=0:=rfl
theorem tw7707820633418805918:0=0:=rfl
theorem tw160958180408876734:0=0:=rfl
theorem tw2830469266572877534:0=0:=rfl
theorem tw9920229968167042814:0=0:=rfl
theorem tw7133029748423362462:0=0:=rfl
theorem tw8000514457244545982:0=0:=rfl
theorem tw6132483543256332254:0=0:=rfl
theorem tw17854979968352186366:0=0:=rfl
theorem tw4086232725194582014:0=0:=rfl
theorem tw12855981934124799007:0=0:=rfl
theorem tw9543176753078483999:0=0:=rfl
theorem tw13229176340755247199:0=0:=rfl
theorem tw2103296924916450399:0=0:=rfl
theorem tw16382426650866177119:0=0:=rfl
theorem tw6862005832324356287:0=0:=rfl
theorem tw11506935464458677567:0=0:=rfl
theorem tw11332256566897994399:0=0:=rfl
theorem tw16632551039251603167:0=0:=rfl
theorem tw1791826988874006239:0=0:=rfl
theorem tw6555981159730041599:0=0:=rfl
theorem tw11880714473209754431:0=0:=rfl
theorem tw9207156288317969311:0=0:=rfl
theorem tw1440992977420802975:0=0:=rfl
theorem tw7703603251695907839:0=0:=rfl
theorem tw18435972342747268700:0=0:=rfl
end PySem.W.Fast
open PySem PySem.W PyProof.Rows
set_option maxRecDepth 100000 in
set_option maxHeartbeats 0 in
theorem PySem.Challenge.cw_disposehall_k95_whole_runs_on_days_foret_holds : PySem.Challenge.rw_disposehall_k95_whole_runs_on_days_foret.Holds := by
 w_on;o_law;k_head;(case hw=>w_witness2)
 k_fill
 refine L3.ZsM (l:=PySem.Challenge.rw_disposehall_k95_whole_runs_on_days_foret) (k:=43) (x:="_law_script") rfl rfl ⟨rfl,by decide,by decide⟩ (fun w h Y=>PySem.W.kIn_of Y) ?F
 case F=>
  intro w mg fa h KX G hmg;refine' K95.all_mk KX G hmg ?Z0S ?Z0T ?Z0U ?Z0y ?Z0z ?Z0j ?Z0A ?Z9 ?Z0K ?Z0L ?Z0B ?Z0M ?Z0d ?Z0C ?Z0k ?Z0l ?Z03 ?Z0m ?Z0n ?Z0e ?Z0o ?Z0f ?Z0g ?Z0D ?Y7 ?X4 ?X5 ?Y0 ?X6 ?Z0b ?X7 ?Z0h ?Y4 ?Y5 ?Z04 ?X8 ?Z0p ?Z05 ?Z1v ?l_law ?cd_law2 ?k_law ?Z1b ?Z1c ?Z1d ?Z0N ?Z1e ?Z0V ?Z0W ?Z0X ?Z0Y ?Z1f ?Z1g ?in_Never ?Z1h ?Z1i ?Z0Z ?Z10 ?Z11 ?Z12 ?Z1j ?Z1k ?Z06 ?Z0u ?Z0v ?Z1l ?Z1m ?Z13 ?Z14 ?Z15 ?Z16 ?Z1n ?Z1o ?Z07 ?Z0E ?Z0q ?Z1p ?Z1q ?Z0F ?Z0G ?Z0H ?Z0I ?Z0O ?Z0P ?Y8 ?Z0r ?Z0c ?Z0Q ?Z0R ?Z17 ?Z18 ?Z19 ?Z1a ?Z1r ?Z1s ?Z08 ?Z0w ?Z0x ?Z0J ?Z09 ?Z0a ?Z0s ?Z0t ?Z1t ?Z1u ?hn ?htk ?J6 ?J7 ?J8 ?Y6 ?Z5 ?Z6 ?Z7 ?Z3 ?X3 ?Z0 ?Z4 ?Z1 ?Z2 ?J9 ?Z8 ?Z0i ?z_abs ?z_any ?z_int ?z_len ?z_list ?z_max ?z_min ?z_range ?z_reversed ?z_sorted ?z_tuple ?z_zip ?kib ?kii ?kll ?ktt ?kss ?ne_Never_After ?ne_Never_Later ?ne_Never_Earlier ?Z00 ?ne_After_Later ?ne_After_Earlier ?Z01 ?ne_Later_Earlier ?Z02 ?Y9
  (case Z1v|Z1b|Z1c|Z1d|Z0N|Z1e=>k_is)
  (case Z0S|Z0T|Z0U|Z0y|Z0z|Z0j|Z0A|Z9|Z0K|Z0L|Z0B|Z0M|Z0d|Z0C|Z0k|Z0l|Z03|Z0m|Z0n|Z0e|Z0o|Z0f|Z0g|Z0D|Y7|X4|X5|Y0|X6|Z0b|X7|Z0h|Y4|Y5|Z04|X8|Z0p|Z05=>exact⟨_,_,by k_is,L2.Zmq (by k_is) (by k_is) (by k_is)⟩)
  (case l_law|cd_law2|k_law|Z0V|Z0W|Z0X|Z0Y|Z1f|Z1g|in_Never|Z1h|Z1i|Z0Z|Z10|Z11|Z12|Z1j|Z1k|Z0u|Z0v|Z1l|Z1m|Z13|Z14|Z15|Z16|Z1n|Z1o|Z0E|Z0q|Z1p|Z1q|Z0F|Z0G|Z0H|Z0I|Z0O|Z0P|Z0r|Z0c|Z0Q|Z0R|Z17|Z18|Z19|Z1a|Z1r|Z1s|Z0w|Z0x|Z0J|Z09|Z0a|Z0s|Z0t|Z1t|Z1u|hn|htk|z_abs|z_any|z_int|z_len|z_list|z_max|z_min|z_range|z_reversed|z_sorted|z_tuple|z_zip=>k_is)
  (case Z06|Z07|Y8|Z08|J6|J7|J8|Y6|Z5|Z6|Z7|Z3|X3|Z0|Z4|Z1|Z2|J9|Z8|Z0i=>exact⟨_,_,by k_is,by k_is,L2.Zmq (by k_is) (by k_is) (by k_is)⟩)
  (case kib|kii|kll|ktt|kss=>first|rfl|decide+kernel|k_is)
  (case ne_Never_After|ne_Never_Later|ne_Never_Earlier|Z00|ne_After_Later|ne_After_Earlier|Z01|ne_Later_Earlier|Z02|Y9=>decide)
