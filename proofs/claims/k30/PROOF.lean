import PyProof.Rows.All
import Wide.All
import OpenK.AllK
import Wide.FinOn
import Lean
import PyProof.EqAt
import PyProof.EqKinds
import PyProof.TupleCall
import PySem.Challenge.RW_disposehall_k30_one_run
set_option Elab.async false
set_option linter.all false
set_option maxRecDepth 100000
namespace L2
open PySem PySem.Spec PyProof.Rows
abbrev Key:=Sum Int Str
def Zi7:Key->Value->Bool
 | .inl k,v=>Value.isInt k v
 | .inr x,v=>Value.isStrOf x v
def Ztk(w:World):Key->Int
 | .inl k=>hashInt k
 | .inr x=>hashStr w x
theorem Xx:∀{k:Key} {v:Value},Zi7 k v=true->(∃i t,k=Sum.inl i/\v=Value.int i t)\/(∃x t,k=Sum.inr x/\v=Value.str x t)
 | .inl i,v,h=>by
  obtain⟨t,e⟩:=Value.isInt_shape (k:=i) (v:=v) h;exact .inl ⟨i,t,rfl,e⟩
 | .inr x,v,h=>by
  obtain⟨t,e⟩:=Value.isStrOf_shape (x:=x) (v:=v) h;exact .inr ⟨x,t,rfl,e⟩
theorem Zo1(i:Int)(t:Tok):Zi7 (.inl i) (.int i t)=true:=by simp[Zi7,Value.isInt]
theorem Zo2(x:Str)(t:Tok):Zi7 (.inr x) (.str x t)=true:=by simp[Zi7,Value.isStrOf]
theorem ZrB(a b:Int):decide ((Sum.inl a:Key)=Sum.inl b)=(a==b):=by
 by_cases e:a=b
 ·subst e;simp
 ·have h:¬(Sum.inl a:Key)=Sum.inl b:=fun q=>e (Sum.inl.inj q);rw[decide_eq_false h];exact(beq_eq_false_iff_ne.mpr e).symm
theorem ZoT(a b:Str):decide ((Sum.inr a:Key)=Sum.inr b)=decide (a=b):=by
 by_cases e:a=b
 ·subst e;simp
 ·have h:¬(Sum.inr a:Key)=Sum.inr b:=fun q=>e (Sum.inr.inj q);rw[decide_eq_false h,decide_eq_false e]
theorem ZrC(a:Int)(b:Str):decide ((Sum.inl a:Key)=Sum.inr b)=false:=decide_eq_false (fun q=>nomatch q)
theorem ZrD(a:Str)(b:Int):decide ((Sum.inr a:Key)=Sum.inl b)=false:=decide_eq_false (fun q=>nomatch q)
def Xd(prog:Program)(w:World):PySem.KeyKind prog w Key where
 is:=Zi7
 hash:=Ztk w
 inj:=fun v a b ha hb=>by
  rcases Xx ha with ⟨i,t,rfl,rfl⟩|⟨x,t,rfl,rfl⟩
  ·rcases Xx hb with ⟨j,u,rfl,e⟩|⟨y,u,rfl,e⟩
   ·injection e with e1 _;rw[e1]
   ·exact nomatch e
  ·rcases Xx hb with ⟨j,u,rfl,e⟩|⟨y,u,rfl,e⟩
   ·exact nomatch e
   ·injection e with e1 _;rw[e1]
 byValue:=fun k v h=>by
  rcases Xx h with ⟨i,t,rfl,rfl⟩|⟨x,t,rfl,rfl⟩<;>rfl
 pyHash:=fun hv h=>by
  rcases Xx hv with ⟨i,t,rfl,rfl⟩|⟨x,t,rfl,rfl⟩
  ·exact wpAny_pyHash_int h
  ·exact wpAny_pyHash_str h
 eqBool:=fun hu hv h=>by
  rcases Xx hu with ⟨i,t,rfl,rfl⟩|⟨x,t,rfl,rfl⟩
  ·rcases Xx hv with ⟨j,u,rfl,rfl⟩|⟨y,u,rfl,rfl⟩
   ·rw[ZrB] at h;exact wpAny_eqBool_int h
   ·rw[ZrC] at h;exact SeqAt.EqAt.int_str i t y u _ _ _ _ h
  ·rcases Xx hv with ⟨j,u,rfl,rfl⟩|⟨y,u,rfl,rfl⟩
   ·rw[ZrD] at h;exact SeqAt.EqAt.str_int x t j u _ _ _ _ h
   ·rw[ZoT] at h;exact wpAny_eqBool_str h
 «strs»:=fun k x t v h=>by
  rcases Xx h with ⟨i,u,rfl,e⟩|⟨y,u,rfl,e⟩
  ·exact nomatch e
  ·injection e with e1 _
   subst e1;cases v<;>rfl
theorem ZlD(prog:Program)(w:World)(i:Int)(t:Tok):(Xd prog w).is (.inl i) (.int i t)=true:=Zo1 i t
theorem ZlE(prog:Program)(w:World)(x:Str)(t:Tok):(Xd prog w).is (.inr x) (.str x t)=true:=Zo2 x t
end L2
namespace L2
open PySem PySem.Spec PyProof.Rows
inductive V where
 |non|bl (b:Bool)|int (i:Int)|str (x:Str)|byt (b:Array UInt8)|flt (b:UInt64)|ref (a:Addr)|ty (n:String)
 deriving DecidableEq
def Ye:V->Value->Prop
 | .non,u=>u=Value.none
 | .bl b,u=>u=Value.bool b
 | .int i,u=>∃t,u=Value.int i t
 | .str x,u=>∃t,u=Value.str x t
 | .byt b,u=>∃t,u=Value.bytes b t
 | .flt b,u=>∃t,u=Value.float b t
 | .ref a,u=>u=Value.ref a
 | .ty n,u=>u=Value.type n
abbrev Yl:List V->List Value->Prop:=Paired Ye
theorem Yl.length{xs:List V}{us:List Value}(r:Yl xs us):xs.length=us.length:=Paired.length r
theorem Yl.get:∀{xs:List V} {us:List Value} {i:Nat} {x:V},Yl xs us->xs[i]? =some x->∃u,us[i]? =some u/\Ye x u
 |_,_,_,_,.nil,e=>by simp at e
 |_,_,0,_,.cons r _,e=>by simp at e;subst e;exact⟨_,rfl,r⟩
 |_,_,i+1,x,.cons _ t,e=>by
  obtain⟨u,h1,h2⟩:=Yl.get (i:=i) (x:=x) t (by simpa using e);exact⟨u,by simpa using h1,h2⟩
theorem Yl.append:∀{xs ys:List V} {us ws:List Value},Yl xs us->Yl ys ws->Yl (xs++ys) (us++ws)
 |_,_,_,_,.nil,s=>s
 |_,_,_,_,.cons r t,s=> .cons r (Yl.append t s)
theorem Yl.take:∀{xs:List V} {us:List Value} (n:Nat),Yl xs us->Yl (xs.take n) (us.take n)
 |_,_,0,_=> .nil
 |_,_,_+1,.nil=> .nil
 |_,_,n+1,.cons r t=> .cons r (Yl.take n t)
theorem Yl.drop:∀{xs:List V} {us:List Value} (n:Nat),Yl xs us->Yl (xs.drop n) (us.drop n)
 |_,_,0,r=>r
 |_,_,_+1,.nil=> .nil
 |_,_,n+1,.cons _ t=>Yl.drop n t
def Zdn:Option V->Option Value->Prop
 |some v,some u=>Ye v u
 |none,none=>True
 |_,_=>False
def KV{κ:Type}:List (κ×V)->List (κ×Value)->Prop:=Paired fun(p:κ×V) (q:κ×Value)=>p.1=q.1/\Ye p.2 q.2
def kV:Key->V
 | .inl i=> .int i
 | .inr x=> .str x
inductive HO where
 |lst (xs:List V)
 |tup (xs:List V)
 |dK (kvs:List (Key×V))|dT (kvs:List (List Key×V))
 |set (S:Int->Bool) (n:Nat)
 |ins (C dx:Addr) (fs:List (Str×V))
 |own (x:Addr)
 |xd (fs:List (Str×V))
 |met (f x:Addr)
 |rng (lo hi:Int)
 |frz (o:Obj) (u:HO)
 |tbl (ps:Array Value)
 |ext (φ:Heap->Prop)
abbrev Hp:=Addr->Option HO
def upd(H:Hp)(a:Addr)(o:HO):Hp:=fun b=>if b=a then some o else H b
theorem Zc{H:Hp}{a:Addr}{o:HO}:upd H a o a=some o:=by unfold upd;rw[if_pos rfl]
theorem Zm{H:Hp}{a b:Addr}{o:HO}(h:b≠a):upd H a o b=H b:=by unfold upd;rw[if_neg h]
theorem ZfN{H:Hp}{a:Addr}{o u:HO}:upd (upd H a o) a u=upd H a u:=by
 funext b;unfold upd;split<;>rfl
theorem Yj{H:Hp}{a b:Addr}{o u:HO}(h:H a=some o)(h':H b=some u)(d:o≠u):a≠b:=by
 intro e;subst e;rw[h] at h';exact d (Option.some.inj h')
theorem Zf{H:Hp}{a b:Addr}{o:HO}(h:H a=some o)(h':H b=none):a≠b:=by
 intro e;subst e;rw[h] at h';cases h'
section
variable (P:Program) (w:World)
def Xu(H:Hp)(h:Heap)(a:Addr):HO->Prop
 | .lst xs=>xs.length<=sizeLine/\∃(its:List Value) (n:Nat),Yl xs its/\h.get? a=some {cls:=.type "list",data:=.seq its.toArray n}
 | .tup xs=>xs.length<=sizeLine/\∃its:List Value,Yl xs its/\IsTup h a its.toArray
 | .dK kvs=>kvs.length<=sizeLine/\(a==sysModules)=false/\∃vs,KV kvs vs/\h.DictOf (Xd P w) a vs
 | .dT kvs=>kvs.length<=sizeLine/\(a==sysModules)=false/\∃xs:List (List Key×Addr×Value),
   Paired (fun(p:List Key×V) (q:List Key×Addr×Value)=>p.1=q.1/\H q.2.1=some (.tup (p.1.map kV))/\Ye p.2 q.2.2) kvs xs/\
   ∃o es ep,h.get? a=some o/\o.ExactDict/\o.data=.dict es ep/\es.toList=xs.map (entryOfKey (tupleKind (Xd P w)))/\(xs.map (·.1)).Nodup
 | .set S n=>h.SetOf (intKind P w) a S n
 | .ins C dx fs=>H dx=some (.own a)/\fs.length<=1000/\dx≠a/\h.get? a=some (PySem.W.instObj C dx)/\
   ∃mA,h.Ns1 dx mA/\(∀f,Zdn (fs.lookup f) (mA f))/\PySem.Within mA (fs.map (·.1))
 | .own _=>∃o,h.get? a=some o
 | .xd fs=>∃mA,h.Ns1 a mA/\∀f,Zdn (fs.lookup f) (mA f)
 | .rng lo hi=>∃t u v,h.get? a=some {cls:=.type "range",data:=.fields #[.int lo t,.int hi u,.int 1 v]}
 | .frz o u=>h.get? a=some o/\Xu H h a u
 | .tbl ps=>h.get? a=some {cls:=.none,data:=.fields ps}
 | .met f x=>h.get? a=some (PySem.W.methodObj (.ref f) (.ref x))
 | .ext φ=>φ h/\(∃o,h.get? a=some o)/\∀h1 h2:Heap,φ h1->(∀o,h1.get? a=some o->h2.get? a=some o)->φ h2
def HOk(H:Hp)(h:Heap):Prop:=∀a o,H a=some o->Xu P w H h a o
end
section
variable {P:Program} {w:World} {H H':Hp} {h h':Heap} {a:Addr} {o:HO}
theorem Xu.lt(x:Xu P w H h a o):a<h.objs.size:=by
 cases o with
 |lst xs=>obtain⟨_,_,_,_,e⟩:=x;exact Heap.lt_size e
 |tup xs=>obtain⟨_,_,_,p⟩:=x;exact p.lt
 |dK kvs=>obtain⟨_,_,_,_,o,_,_,e,_⟩:=x;exact Heap.lt_size e
 |dT kvs=>obtain⟨_,_,_,_,o,_,_,e,_⟩:=x;exact Heap.lt_size e
 |set S n=>obtain⟨o,_,_,_,e,_⟩:=x;exact Heap.lt_size e
 |ins C dx fs=>obtain⟨_,_,_,e,_⟩:=x;exact Heap.lt_size e
 |own y=>obtain⟨_,e⟩:=x;exact Heap.lt_size e
 |xd fs=>obtain⟨_,⟨_,_,_,e,_⟩,_⟩:=x;exact Heap.lt_size e
 |rng lo hi=>obtain⟨_,_,_,e⟩:=x;exact Heap.lt_size e
 |frz ob u=>obtain⟨e,_⟩:=x;exact Heap.lt_size e
 |tbl ps=>exact Heap.lt_size (show h.get? a=some _ from x)
 |met f y=>exact Heap.lt_size (show h.get? a=some _ from x)
 |ext φ=>obtain⟨_,⟨_,e⟩,_⟩:=x;exact Heap.lt_size e
theorem Paired.mapP{α β:Type}{F G:α->β->Prop}:∀{l₁:List α} {l₂:List β},Paired F l₁ l₂->(∀a b,F a b->G a b)->Paired G l₁ l₂
 |_,_,.nil,_=> .nil
 |_,_,.cons r t,f=> .cons (f _ _ r) (Paired.mapP t f)
theorem Xu.stay(x:Xu P w H h a o)(k:∀b u,(b=a\/H b=some (.own a))->h.get? b=some u->h'.get? b=some u)
  (ho:∀b,H b=some (.own a)->H' b=some (.own a))(ht:∀b xs,H b=some (.tup xs)->H' b=some (.tup xs)):Xu P w H' h' a o:=by
 induction o with
 |lst xs=>obtain⟨z,its,n,r,e⟩:=x;exact⟨z,its,n,r,k _ _ (.inl rfl) e⟩
 |tup xs=>obtain⟨z,its,r,ob,e,c⟩:=x;exact⟨z,its,r,ob,k _ _ (.inl rfl) e,c⟩
 |dK kvs=>obtain⟨z,y,vs,r,ob,es,ep,e,c⟩:=x;exact⟨z,y,vs,r,ob,es,ep,k _ _ (.inl rfl) e,c⟩
 |dT kvs=>
  obtain⟨z,y,xs,r,ob,es,ep,e,c⟩:=x;exact⟨z,y,xs,Paired.mapP r fun p q z=>⟨z.1,ht _ _ z.2.1,z.2.2⟩,ob,es,ep,k _ _ (.inl rfl) e,c⟩
 |set S n=>obtain⟨ob,es,ep,t,e,c⟩:=x;exact⟨ob,es,ep,t,k _ _ (.inl rfl) e,c⟩
 |ins C dx fs=>
  obtain⟨d,z,ne,e,mA,⟨od,es,ep,e2,c⟩,r⟩:=x;exact⟨ho _ d,z,ne,k _ _ (.inl rfl) e,mA,⟨od,es,ep,k _ _ (.inr d) e2,c⟩,r⟩
 |own y=>obtain⟨ob,e⟩:=x;exact⟨ob,k _ _ (.inl rfl) e⟩
 |xd fs=>obtain⟨mA,⟨od,es,ep,e,c⟩,r⟩:=x;exact⟨mA,⟨od,es,ep,k _ _ (.inl rfl) e,c⟩,r⟩
 |rng lo hi=>obtain⟨t,u,v,e⟩:=x;exact⟨t,u,v,k _ _ (.inl rfl) e⟩
 |frz ob u ih=>obtain⟨e,q⟩:=x;exact⟨k _ _ (.inl rfl) e,ih q⟩
 |tbl ps=>
  have e:h.get? a=some {cls:=.none,data:=.fields ps}:=x;show h'.get? a=some {cls:=.none,data:=.fields ps};exact k a _ (.inl rfl) e
 |met f y=>
  have e:h.get? a=some (PySem.W.methodObj (.ref f) (.ref y)):=x;show h'.get? a=some (PySem.W.methodObj (.ref f) (.ref y));exact k a _ (.inl rfl) e
 |ext φ=>obtain⟨p,⟨o,e⟩,st⟩:=x;exact⟨st _ _ p fun o q=>k _ _ (.inl rfl) q,⟨o,k _ _ (.inl rfl) e⟩,st⟩
theorem HOk.lt(x:HOk P w H h)(e:H a=some o):a<h.objs.size:=(x a o e).lt
theorem HOk.fresh(x:HOk P w H h)(e:h.objs.size<=a):H a=none:=by
 cases q:H a with
 |none=>rfl
 |some u=>exact absurd (Nat.lt_of_lt_of_le (x.lt q) e) (Nat.lt_irrefl _)
theorem HOk.kept(x:HOk P w H h)(k:∀b u,h.get? b=some u->h'.get? b=some u):HOk P w H h':=fun a o e=>
 (x a o e).stay (fun b u _ q=>k b u q) (fun _ q=>q) fun _ _ q=>q
theorem HOk.laid(x:HOk P w H h)(k:∀b u,h.get? b=some u->h'.get? b=some u)(hp:h.objs.size<=a)(new:Xu P w (upd H a o) h' a o):HOk P w (upd H a o) h':=fun b u e=>by
 have hn:=x.fresh hp
 by_cases hb:b=a
 ·subst hb;rw[Zc] at e;cases e;exact new
 ·rw[Zm hb] at e
  exact(x b u e).stay (fun c v _ q=>k c v q) (fun c q=>by rw[Zm (Zf q hn)];exact q) fun c xs q=>by rw[Zm (Zf q hn)];exact q
end
def Rd(H:Hp)(a:Addr)(u:HO):Prop:=H a=some u\/∃o,H a=some (.frz o u)
theorem Rd.ok{P:Program}{w:World}{H:Hp}{h:Heap}{a:Addr}{u:HO}(r:Rd H a u)(x:HOk P w H h):Xu P w H h a u:=by
 rcases r with r|⟨o,r⟩
 ·exact x a u r
 ·obtain⟨_,q⟩:=x a _ r;exact q
def Mut:Option HO->Prop
 |some (.lst _)=>True
 |some (.dK _)=>True
 |some (.dT _)=>True
 |some (.set _ _)=>True
 |some (.ins _ _ _)=>True
 |some (.ext _)=>True
 |_=>False
section
variable {P:Program} {w:World} {H:Hp} {h h':Heap} {x e:Addr} {o':HO}
theorem HOk.write(ok:HOk P w H h)(mu:Mut (H x))(he:e=x\/H e=some (.own x))(k:∀b u,b≠e->h.get? b=some u->h'.get? b=some u)(heo:∃u,h'.get? e=some u)
  (new:Xu P w (upd H x o') h' x o'):HOk P w (upd H x o') h':=fun b u q=>by
 have nown:∀c y,H c=some (.own y)->c≠x:=fun c y r z=>by subst z;rw[r] at mu;exact mu
 have ntup:∀c xs,H c=some (.tup xs)->c≠x:=fun c xs r z=>by subst z;rw[r] at mu;exact mu
 by_cases hb:b=x
 ·subst hb;rw[Zc] at q;cases q;exact new
 ·rw[Zm hb] at q
  by_cases hbe:b=e
  ·have q':H b=some (.own x):=by
    rcases he with z|z
    ·exact absurd (hbe.trans z) hb
    ·rw[hbe];exact z
   rw[q] at q';cases q'
   obtain⟨v,hv⟩:=heo;exact⟨v,by rw[hbe];exact hv⟩
  ·refine(ok b u q).stay (fun c v hc r=>k c v ?_ r) (fun c r=>by rw[Zm (nown c b r)];exact r) fun c xs r=>by rw[Zm (ntup c xs r)];exact r
   rcases hc with rfl|hc
   ·exact hbe
   ·rintro rfl;rcases he with z|z
    ·exact nown c b hc z
    ·rw[hc] at z;cases z;exact hb rfl
end
structure Un (fs ex:List Addr) (H H':Hp) (h h':Heap):Prop where
 keep:∀b o,h.get? b=some o->H b=none->b∉fs->b∉ex->h'.get? b=some o
 slot:∀b o,h.get? b=some o->H b=none->b∈fs->b∉ex->∃sl,h'.get? b=some {o with slots:=sl}
 free:∀b o,h.get? b=some o->H b=none->b∉ex->H' b=none
 there:∀b o,h.get? b=some o->b∉ex->∃o',h'.get? b=some o'
 tups:∀b xs,H b=some (.tup xs)->H' b=some (.tup xs)
 frzs:∀b o u,H b=some (.frz o u)->H' b=some (.frz o u)
 tbls:∀b ps,H b=some (.tbl ps)->∃more,H' b=some (.tbl (ps++more))
section
variable {fs fs' ex ex':List Addr} {H H1 H2:Hp} {h h1 h2 h':Heap} {a x e:Addr} {o:HO}
theorem Un.any(u:Un fs ex H H1 h h1){b:Addr}{ob:Obj}(q:h.get? b=some ob)(n:H b=none)(hx:b∉ex):∃sl,h1.get? b=some {ob with slots:=sl}:=by
 by_cases hb:b∈fs
 ·exact u.slot b ob q n hb hx
 ·exact⟨ob.slots,u.keep b ob q n hb hx⟩
theorem Un.kept(k:∀b u,h.get? b=some u->h'.get? b=some u):Un fs ex H H h h':=
 ⟨fun b ob q _ _ _=>k b ob q,fun b ob q _ _ _=>⟨ob.slots,k b ob q⟩,fun _ _ _ n _=>n,fun b ob q _=>⟨ob,k b ob q⟩,fun _ _ q=>q,fun _ _ _ q=>q,fun _ ps q=>⟨#[],by rw[q];simp⟩⟩
theorem Un.refl:Un fs ex H H h h:=Un.kept fun _ _ q=>q
theorem Un.laid(k:∀b u,h.get? b=some u->h'.get? b=some u)(hp:h.objs.size<=a)(hn:H a=none):Un fs ex H (upd H a o) h h' where
 keep:=fun b u q _ _ _=>k b u q
 slot:=fun b u q _ _ _=>⟨u.slots,k b u q⟩
 free:=fun b u q n _=>by rw[Zm (Nat.ne_of_lt (Nat.lt_of_lt_of_le (Heap.lt_size q) hp))];exact n
 there:=fun b u q _=>⟨u,k b u q⟩
 tups:=fun b xs q=>by rw[Zm (Zf q hn)];exact q
 frzs:=fun b u xs q=>by rw[Zm (Zf q hn)];exact q
 tbls:=fun b ps q=>⟨#[],by rw[Zm (Zf q hn),q];simp⟩
theorem Un.write(mu:Mut (H x))(he:e=x\/H e=some (.own x))(k:∀b u,b≠e->h.get? b=some u->h'.get? b=some u)(heo:∃u,h'.get? e=some u):Un fs ex H (upd H x o) h h':=by
 have hx:∀b,H b=none->b≠x:=fun b n z=>by subst z;rw[n] at mu;exact mu
 have hb:∀b,H b=none->b≠e:=fun b n z=>by
  subst z;rcases he with r|r
  ·exact hx b n r
  ·rw[n] at r;cases r
 have hm:∀b u,H b=some u->¬Mut (some u)->b≠x:=fun b u q nm z=>by subst z;rw[q] at mu;exact nm mu
 refine⟨fun b u q n _ _=>k b u (hb b n) q,fun b u q n _ _=>⟨u.slots,k b u (hb b n) q⟩,fun b u q n _=>by rw[Zm (hx b n)];exact n,fun b u q _=> ?_,
  fun b xs q=>by rw[Zm (hm b _ q fun z=>z)];exact q,fun b u xs q=>by rw[Zm (hm b _ q fun z=>z)];exact q,fun b ps q=>⟨#[],by rw[Zm (hm b _ q fun z=>z),q];simp⟩⟩
 by_cases hbe:b=e
 ·subst hbe;exact heo
 ·exact⟨u,k b u hbe q⟩
end
def trk(h:Heap)(H:Hp):List Addr:=(List.range h.objs.size).filter fun a=>(H a).isSome
def Zkv(h:Heap)(H:Hp):Heap:=PySem.W.hideAll h (trk h H)
theorem Zo3(h:Heap)(H:Hp):(Zkv h H).objs.size=h.objs.size:=PySem.W.hideAll_size _ _
theorem ZoU{h:Heap}{H:Hp}{b:Addr}{o:Obj}(e:h.get? b=some o)(n:H b=none):(Zkv h H).get? b=some o:=
 PySem.W.hideAll_get _ e fun hm=>by
  have q:(H b).isSome=true:=(List.mem_filter.mp hm).2;rw[n] at q;simp at q
theorem Zqt{h:Heap}{H:Hp}{b:Addr}{o:Obj}(e:(Zkv h H).get? b=some o):h.get? b=some o/\H b=none:=by
 have e':h.get? b=some o:=PySem.W.of_hideAll (trk h H) e;refine⟨e', ?_⟩;cases q:H b with
 |none=>rfl
 |some x=>
  have hm:b∈trk h H:=List.mem_filter.mpr ⟨List.mem_range.mpr (Heap.lt_size e'),by simp[q]⟩;have z:(Zkv h H).get? b=none:=PySem.W.hideAll_none (trk h H) hm;rw[z] at e;cases e
def ZhO(g h:Heap)(L:Addr):List (Addr×Obj):=(List.range h.objs.size).filterMap fun a=>if a=L\/(g.get? a).isSome=true then none else(h.get? a).map fun o=>(a,o)
theorem Zhg{g h:Heap}{L a:Addr}{o:Obj}(h1:a≠L)(h2:g.get? a=none)(h3:h.get? a=some o):(a,o)∈ZhO g h L:=
 List.mem_filterMap.mpr ⟨a,List.mem_range.mpr (Heap.lt_size h3),by simp[h1,h2,h3]⟩
theorem Zi8{g h:Heap}{L:Addr}{p:Addr×Obj}(hp:p∈ZhO g h L):p.1≠L/\g.get? p.1=none/\h.get? p.1=some p.2:=by
 obtain⟨b,_,e⟩:=List.mem_filterMap.mp hp
 split at e
 ·cases e
 ·rename_i hn
  cases q:h.get? b with
  |none=>rw[q] at e;simp at e
  |some u=>
   rw[q] at e
   simp only [Option.map_some,Option.some.injEq] at e
   subst e;refine⟨fun z=>hn (.inl z), ?_,q⟩;show g.get? b=none;cases r:g.get? b with
   |none=>rfl
   |some v=>exact(hn (.inr (by simp[r]))).elim
theorem ZoV{g h:Heap}{L:Addr}:News g L h (ZhO g h L):=fun p hp=>let ⟨a,b,c⟩:=Zi8 hp;⟨c,a,b⟩
end L2
namespace L2
open PySem PySem.Spec PyProof.Rows
structure Mod (K:PySem.W.Frag) (mg:Str->Option Value) (base:Heap):Prop where
 kin:K.In base
 glob:base.Ns mainGlobals mg
 blt:∃mb,base.Ns builtinsNs mb/\∀x:Str,x≠"__name__"->mb x=bootBuiltins x
 nolimit:base.NoLimit
structure Cx where
 prog:Program
 w:World
 K:PySem.W.Frag
 mg:Str->Option Value
 base:Heap
 A:Around
 N:List Str
 s₀:Shared
 H₀:Hp
 env:Env
 outer:List Env
 stack:List Env
 ex:List Addr
 fn:Str->Bool
 calm:Bool
 pn:List (Addr×Obj)
 xe:Value->Shared->Prop
def frs(l:List Env):List Addr:=l.filterMap (·.frame)
abbrev Cx.fs(X:Cx):List Addr:=frs X.outer
def Vis(sc:Scope)(x:Str):Prop:=sc.names.lookup x=some .local\/sc.names.lookup x=some .cell\/sc.names.lookup x=some .free
def Loc(sc:Scope)(x:Str):Prop:=sc.names.lookup x=some .local\/sc.names.lookup x=some .cell
def Ztl(env:Env)(h:Heap)(m:Str->Option Value)(x:Str)(u:Value):Prop:=
 (env.kindOf x=some .local/\m x=some u)\/((env.kindOf x=some .cell\/env.kindOf x=some .free)/\∃c,env.cells.lookup x=some c/\h.IsCell c (some u))
structure Cx.Ok (X:Cx):Prop where
 mod:Mod X.K X.mg X.base
 kind:X.env.scope.kind=.function
 glob:X.env.globals=mainGlobals
 blt:X.env.builtins=builtinsNs
 above:X.s₀.heap.objs.size<=X.env.locals
 inj:∀x y c,X.env.cells.lookup x=some c->X.env.cells.lookup y=some c->x=y
 has:∀x,(X.env.kindOf x=some .cell\/X.env.kindOf x=some .free)->∃c,X.env.cells.lookup x=some c
 cab:∀x c,X.fn x=true->X.env.cells.lookup x=some c->X.s₀.heap.objs.size<=c
 hd:X.calm=true->X.A.handled=none
 frames:X.A.frames=some X.stack
 stk:X.stack=X.outer\/(X.stack=X.env::X.outer/\X.env.frame=some X.env.locals)
 exf:∀b∈X.ex,b≠X.env.locals/\∀x c,X.env.cells.lookup x=some c->c≠b
 bs:∀b o,X.base.get? b=some o->X.s₀.heap.get? b=some o/\X.H₀ b=none
 bsz:X.base.objs.size<=X.s₀.heap.objs.size
 noex:∀b o,X.base.get? b=some o->b∉X.ex
 exfs:∀b∈X.ex,b∉X.fs
 funs:X.s₀.heap.FunFrames X.base X.outer
 frf:∀b∈X.fs,X.H₀ b=none
structure Inv (X:Cx) (pins:List (Addr×Obj)) (σ:List (Option V)) (H:Hp) (s:Shared):Prop where
 ok:X.Ok
 os:s.os=X.s₀.os
 bare:AllBare s.gens
 base:Un X.fs X.ex X.H₀ H X.s₀.heap s.heap
 loc:∃m,s.heap.Ns X.env.locals m/\∀(i:Nat) (x:Str) (v:V),X.N[i]? =some x->σ[i]? =some (some v)->Vis X.env.scope x->∃u,Ye v u/\Ztl X.env s.heap m x u
 cell:∀x c,X.env.cells.lookup x=some c->∃v,s.heap.IsCell c v
 free:H X.env.locals=none
 freeC:∀x c,X.env.cells.lookup x=some c->H c=none
 pin:∀p∈X.pn++pins,s.heap.get? p.1=some p.2/\H p.1=none/\p.1≠X.env.locals/\p.1∉X.fs/\∀v,p.2.data≠.cell v
 hok:HOk X.prog X.w H s.heap
 len:σ.length=X.N.length
section
variable {X:Cx} {pins:List (Addr×Obj)} {σ:List (Option V)} {H H':Hp} {s:Shared} {h':Heap}
theorem Cx.Ok.nofr(ok:X.Ok){b:Addr}{o:Obj}(e:X.base.get? b=some o):b∉X.fs:=fun hb=>by
 have:=(ok.funs.mem hb).1;rw[e] at this;cases this
theorem Inv.bs(I:Inv X pins σ H s):∀b o,X.base.get? b=some o->s.heap.get? b=some o/\H b=none:=fun b o e=>
 ⟨I.base.keep b o (I.ok.bs b o e).1 (I.ok.bs b o e).2 (I.ok.nofr e) (I.ok.noex b o e),I.base.free b o (I.ok.bs b o e).1 (I.ok.bs b o e).2 (I.ok.noex b o e)⟩
theorem Inv.bk(I:Inv X pins σ H s):∀b o,X.base.get? b=some o->s.heap.get? b=some o:=fun b o e=>(I.bs b o e).1
theorem Inv.mod(I:Inv X pins σ H s):Mod X.K X.mg X.base:=I.ok.mod
theorem Inv.kIn(I:Inv X pins σ H s):X.K.In s.heap:=I.ok.mod.kin.keeps I.bk
theorem Inv.fr(I:Inv X pins σ H s):∃m,Fr X.base X.env.locals s.heap m:=
 let ⟨m,hn,_⟩:=I.loc
 ⟨m,hn,I.bk,Nat.le_trans I.ok.bsz I.ok.above⟩
theorem Inv.lt(I:Inv X pins σ H s):X.env.locals<s.heap.objs.size:=let ⟨_,hn,_⟩:=I.loc;hn.lt
theorem Inv.sz(I:Inv X pins σ H s):X.s₀.heap.objs.size<=s.heap.objs.size:=Nat.le_trans I.ok.above (Nat.le_of_lt I.lt)
theorem Inv.nofs(I:Inv X pins σ H s){a:Addr}(h:s.heap.objs.size<=a):a∉X.fs:=fun hb=>by
 obtain⟨_,o,ho,_⟩:=I.ok.funs.mem hb;exact absurd (Nat.lt_of_lt_of_le (Heap.lt_size ho) (Nat.le_trans I.sz h)) (Nat.lt_irrefl _)
theorem Inv.cne(I:Inv X pins σ H s):∀x c,X.env.cells.lookup x=some c->c≠X.env.locals:=fun x c e z=>by
 obtain⟨v,o,ho,hd⟩:=I.cell x c e;obtain⟨m,⟨o',es,ep,ho',hd',_⟩,_⟩:=I.loc;rw[z,ho'] at ho;cases ho;rw[hd'] at hd;cases hd
theorem Inv.funs(I:Inv X pins σ H s):s.heap.FunFrames X.base X.outer:=by
 have all:∀(l:List Env),(∀b∈frs l,b∈X.fs)->X.s₀.heap.FunFrames X.base l->s.heap.FunFrames X.base l:=by
  intro l
  induction l with
  |nil=>intro _ _;trivial
  |cons env r ih=>
   intro hs hl;obtain⟨hk,⟨L,o,hf,hn,ho,hd⟩,hr⟩:=hl;have hL:L∈X.fs:=hs L (by unfold frs;rw[List.filterMap_cons,hf];exact List.mem_cons_self)
   obtain⟨sl,e⟩:=I.base.slot L o ho (I.ok.frf L hL) hL fun z=>I.ok.exfs L z hL;exact⟨hk,⟨L,_,hf,hn,e,hd⟩,ih (fun b hb=>hs b (by unfold frs;rw[List.filterMap_cons,hf];exact List.mem_cons_of_mem _ hb)) hr⟩
 exact all X.outer (fun _ hb=>hb) I.ok.funs
theorem Inv.stack(I:Inv X pins σ H s):s.heap.FunFrames X.base X.stack:=by
 rcases I.ok.stk with e|⟨e,hf⟩
 ·rw[e];exact I.funs
 ·rw[e];obtain⟨m,hn,_⟩:=I.loc;refine .cons (by rw[I.ok.kind];decide) hf hn ?_ I.funs
  exact Heap.get?_none_of_le (Nat.le_trans I.ok.bsz I.ok.above)
theorem Inv.stkSub(I:Inv X pins σ H s):∀b∈frs X.stack,b∈X.env.locals::X.fs:=fun b hb=>by
 rcases I.ok.stk with e|⟨e,hf⟩
 ·rw[e] at hb;exact List.mem_cons_of_mem _ hb
 ·rw[e] at hb
  unfold frs at hb
  rw[List.filterMap_cons,hf] at hb
  exact hb
theorem Inv.stkFree(I:Inv X pins σ H s):∀b∈frs X.stack,H b=none:=fun b hb=>by
 rcases List.mem_cons.mp (I.stkSub b hb) with e|hb
 ·rw[e];exact I.free
 ·obtain⟨_,o,ho,_⟩:=I.ok.funs.mem hb;exact I.base.free b o ho (I.ok.frf b hb) fun z=>I.ok.exfs b z hb
theorem Inv.step{g':Array GenState}{t':Nat}{d':Drawn}{ch:List Addr}(I:Inv X pins σ H s)
  (hch:∀b∈ch,(b∈X.ex\/X.s₀.heap.objs.size<=b)/\b≠X.env.locals/\(∀x c,X.env.cells.lookup x=some c->c≠b)/\∀p∈X.pn++pins,p.1≠b)
  (keep:∀b o,b≠X.env.locals->b∉X.fs->b∉ch->s.heap.get? b=some o->H b=none->h'.get? b=some o)
  (slot:∀b o,b≠X.env.locals->b∈X.fs->b∉ch->s.heap.get? b=some o->H b=none->∃sl,h'.get? b=some {o with slots:=sl})(free:∀b o,b∉ch->s.heap.get? b=some o->H b=none->H' b=none)
  (there:∀b o,b∉ch->s.heap.get? b=some o->∃o',h'.get? b=some o')
  (tups:∀b xs,H b=some (.tup xs)->H' b=some (.tup xs))(frzs:∀b o u,H b=some (.frz o u)->H' b=some (.frz o u))(tbls:∀b ps,H b=some (.tbl ps)->∃more,H' b=some (.tbl (ps++more)))
  (ns:∀m,s.heap.Ns X.env.locals m->h'.Ns X.env.locals m)(hok:HOk X.prog X.w H' h')(hg:AllBare g'):
  Inv X pins σ H' {s with heap:=h',gens:=g',drawn:=d',toks:=t'}:=by
 have neL:∀b o,X.s₀.heap.get? b=some o->b≠X.env.locals:=fun b o e=>Nat.ne_of_lt (Nat.lt_of_lt_of_le (Heap.lt_size e) I.ok.above);have neC:∀b o,X.s₀.heap.get? b=some o->b∉X.ex->b∉ch:=fun b o e hx hb=>by
  rcases(hch b hb).1 with z|z
  ·exact hx z
  ·exact absurd (Nat.lt_of_lt_of_le (Heap.lt_size e) z) (Nat.lt_irrefl _)
 have cellK:∀x c,X.env.cells.lookup x=some c->∀v,s.heap.IsCell c v->h'.IsCell c v:=fun x c e v ⟨o,ho,hd⟩=>by
  have nch:c∉ch:=fun z=>(hch c z).2.2.1 x c e rfl
  by_cases hc:c∈X.fs
  ·obtain⟨sl,q⟩:=slot c o (I.cne x c e) hc nch ho (I.freeC x c e);exact⟨_,q,hd⟩
  ·exact⟨o,keep c o (I.cne x c e) hc nch ho (I.freeC x c e),hd⟩
 refine⟨I.ok,I.os,hg,⟨fun b o e n hb hx=> ?_,fun b o e n hb hx=> ?_,fun b o e n hx=> ?_,fun b o e hx=> ?_,fun b xs e=>tups b xs (I.base.tups b xs e),fun b o xs e=>frzs b o xs (I.base.frzs b o xs e),fun b ps e=> ?_⟩, ?_,fun x c e=> ?_, ?_,fun x c e=> ?_,fun p hp=> ?_,hok,I.len⟩
 ·exact keep b o (neL b o e) hb (neC b o e hx) (I.base.keep b o e n hb hx) (I.base.free b o e n hx)
 ·obtain⟨sl,e1⟩:=I.base.slot b o e n hb hx;obtain⟨sl',e2⟩:=slot b _ (neL b o e) hb (neC b o e hx) e1 (I.base.free b o e n hx);exact⟨sl',e2⟩
 ·obtain⟨o',e1⟩:=I.base.there b o e hx;exact free b o' (neC b o e hx) e1 (I.base.free b o e n hx)
 ·obtain⟨o',e1⟩:=I.base.there b o e hx;exact there b o' (neC b o e hx) e1
 ·obtain⟨m1,e1⟩:=I.base.tbls b ps e;obtain⟨m2,e2⟩:=tbls b _ e1;exact⟨m1++m2,by rw[e2,Array.append_assoc]⟩
 ·obtain⟨m,hn,hl⟩:=I.loc;refine⟨m,ns m hn,fun i x v e1 e2 e3=> ?_⟩;obtain⟨u,r,l⟩:=hl i x v e1 e2 e3;refine⟨u,r, ?_⟩;rcases l with l|⟨k,c,e,z⟩
  ·exact .inl l
  ·exact .inr ⟨k,c,e,cellK x c e _ z⟩
 ·obtain⟨v,z⟩:=I.cell x c e;exact⟨v,cellK x c e v z⟩
 ·obtain⟨m,⟨o,_,_,ho,_⟩,_⟩:=I.loc;exact free _ o (fun z=>(hch _ z).2.1 rfl) ho I.free
 ·obtain⟨v,o,ho,hd⟩:=I.cell x c e;exact free c o (fun z=>(hch c z).2.2.1 x c e rfl) ho (I.freeC x c e)
 ·obtain⟨e,n,ne,nf,d⟩:=I.pin p hp;have nch:p.1∉ch:=fun z=>(hch p.1 z).2.2.2 p hp rfl;exact⟨keep p.1 p.2 ne nf nch e n,free p.1 p.2 nch e n,ne,nf,d⟩
theorem Inv.un{t':Nat}(I:Inv X pins σ H s)(u:Un X.fs [] H H' s.heap h')(hok:HOk X.prog X.w H' h'):Inv X pins σ H' {s with heap:=h',toks:=t'}:=by
 obtain⟨m,⟨o,es,ep,ho,r⟩,_⟩:=id I.loc;obtain⟨sl,hL⟩:=u.any ho I.free (by simp);exact I.step (g':=s.gens) (d':=s.drawn) (ch:=[]) (fun _ z=>nomatch z) (fun b o _ hb _ e n=>u.keep b o e n hb (by simp)) (fun b o _ hb _ e n=>u.slot b o e n hb (by simp)) (fun b o _ e n=>u.free b o e n (by simp)) (fun b o _ e=>u.there b o e (by simp)) u.tups u.frzs u.tbls (fun m' hm=>by
  obtain⟨o',es',ep',ho',r'⟩:=hm;rw[ho] at ho';cases ho'
  exact⟨_,es',ep',hL,r'⟩) hok I.bare
theorem Inv.call{g':Array GenState}{t':Nat}{d':Drawn}{ch:List Addr}(I:Inv X pins σ H s)(u:Un (frs X.stack) ch H H' s.heap h')(hok:HOk X.prog X.w H' h')(hg:AllBare g')
  (hch:∀b∈ch,(b∈X.ex\/X.s₀.heap.objs.size<=b)/\b≠X.env.locals/\(∀x c,X.env.cells.lookup x=some c->c≠b)/\∀p∈X.pn++pins,p.1≠b):
  Inv X pins σ H' {s with heap:=h',gens:=g',drawn:=d',toks:=t'}:=by
 obtain⟨m,⟨o,es,ep,ho,r⟩,_⟩:=id I.loc;obtain⟨sl,hL⟩:=u.any ho I.free fun z=>(hch _ z).2.1 rfl;exact I.step (ch:=ch) hch (fun b o hL hb hc e n=>u.keep b o e n (fun z=>(List.mem_cons.mp (I.stkSub b z)).elim hL hb) hc) (fun b o _ _ hc e n=>u.any e n hc) (fun b o hc e n=>u.free b o e n hc) (fun b o hc e=>u.there b o e hc) u.tups u.frzs u.tbls (fun m' hm=>by
  obtain⟨o',es',ep',ho',r'⟩:=hm;rw[ho] at ho';cases ho'
  exact⟨_,es',ep',hL,r'⟩) hok hg
theorem Inv.turned{t':Nat}{it:Addr}(I:Inv X pins σ H s)(k:∀b o,b≠it->s.heap.get? b=some o->h'.get? b=some o)(hn:H it=none)(hL:it≠X.env.locals)
  (h1:it∈X.ex\/X.s₀.heap.objs.size<=it)(h2:∀x c,X.env.cells.lookup x=some c->c≠it)(h3:∀p∈X.pn++pins,p.1≠it):Inv X pins σ H {s with heap:=h',toks:=t'}:=by
 have nit:∀b u,H b=some u->b≠it:=fun b u e z=>by rw[z,hn] at e;cases e
 refine I.step (g':=s.gens) (d':=s.drawn) (ch:=[it]) (fun b hb=> ?_) (fun b o _ _ hc e _=>k b o (fun z=>hc (by simp[z])) e) (fun b o _ _ hc e _=>⟨o.slots,k b o (fun z=>hc (by simp[z])) e⟩) (fun _ _ _ _ n=>n)
  (fun b o hc e=>⟨o,k b o (fun z=>hc (by simp[z])) e⟩) (fun _ _ e=>e) (fun _ _ _ e=>e) (fun b ps e=>⟨#[],by rw[e];simp⟩) (fun m hm=> ?_) (fun b u e=> ?_) I.bare
 ·have e:b=it:=by simpa using hb
  subst e;exact⟨h1,hL,h2,h3⟩
 ·obtain⟨o,es,ep,ho,r⟩:=hm;exact⟨o,es,ep,k _ o (Ne.symm hL) ho,r⟩
 ·refine(I.hok b u e).stay (fun c v hc q=>k c v ?_ q) (fun _ q=>q) fun _ _ q=>q;rcases hc with z|z
  ·rw[z];exact nit b u e
  ·exact nit c _ z
theorem Inv.tok(I:Inv X pins σ H s)(t:Nat):Inv X pins σ H {s with toks:=t}:=I.un (h':=s.heap) (t':=t) Un.refl I.hok
theorem Inv.kept{t':Nat}(I:Inv X pins σ H s)(k:∀b u,s.heap.get? b=some u->h'.get? b=some u):Inv X pins σ H {s with heap:=h',toks:=t'}:=I.un (Un.kept k) (I.hok.kept k)
theorem Inv.laid{a:Addr}{o:HO}{t':Nat}(I:Inv X pins σ H s)(k:∀b u,s.heap.get? b=some u->h'.get? b=some u)(hp:s.heap.objs.size<=a)(new:Xu X.prog X.w (upd H a o) h' a o):
  Inv X pins σ (upd H a o) {s with heap:=h',toks:=t'}:=I.un (Un.laid k hp (I.hok.fresh hp)) (I.hok.laid k hp new)
theorem Inv.write{x e:Addr}{o:HO}{t':Nat}(I:Inv X pins σ H s)(mu:Mut (H x))(he:e=x\/H e=some (.own x))(k:∀b u,b≠e->s.heap.get? b=some u->h'.get? b=some u)(heo:∃u,h'.get? e=some u)
  (new:Xu X.prog X.w (upd H x o) h' x o):Inv X pins σ (upd H x o) {s with heap:=h',toks:=t'}:=I.un (Un.write mu he k heo) (I.hok.write mu he k heo new)
theorem Inv.weak{σ':List (Option V)}(I:Inv X pins σ H s)(hl:σ'.length=σ.length)(w:∀(i:Nat) v,σ'[i]? =some (some v)->σ[i]? =some (some v)):Inv X pins σ' H s:=
 ⟨I.ok,I.os,I.bare,I.base,let ⟨m,hn,hl'⟩:=I.loc;⟨m,hn,fun i x v e1 e2 e3=>hl' i x v e1 (w i v e2) e3⟩,I.cell,I.free,I.freeC,I.pin,I.hok,hl.trans I.len⟩
theorem Inv.pins_of{pins':List (Addr×Obj)}(I:Inv X pins σ H s)(h:∀p∈pins',s.heap.get? p.1=some p.2/\H p.1=none/\p.1≠X.env.locals/\p.1∉X.fs/\∀v,p.2.data≠.cell v):Inv X pins' σ H s:=
 ⟨I.ok,I.os,I.bare,I.base,I.loc,I.cell,I.free,I.freeC,fun p hp=>(List.mem_append.mp hp).elim (fun z=>I.pin p (List.mem_append_left _ z)) (h p),I.hok,I.len⟩
theorem ZlF{N:List Str}(hN:N.Nodup){i j:Nat}{x:Str}(a:N[i]? =some x)(b:N[j]? =some x):i=j:=by
 obtain⟨h1,e1⟩:=List.getElem?_eq_some_iff.mp a;obtain⟨h2,e2⟩:=List.getElem?_eq_some_iff.mp b;exact(List.getElem_inj hN).mp (e1.trans e2.symm)
theorem Zo4{M:Model}{A:Around}{E:Value->Shared->Prop}{i:Nat}{x:Str}{v:V}{u:Value}{Q:Unit->Shared->Prop}(I:Inv X pins σ H s)(hN:X.N.Nodup)(hi:X.N[i]? =some x)(hx:Loc X.env.scope x)(r:Ye v u)
  (h:∀s',Inv X pins (σ.set i (some v)) H s'->(∃a,Heap.SameBut a s.heap s'.heap/\(a=X.env.locals\/X.env.cells.lookup x=some a))->Q () s')(hf:X.fn x=true\/X.env.scope.names.lookup x=some .local:=by first|exact .inl rfl|exact .inr rfl|assumption):wpAny M A (storeName X.env x u) Q E s:=by
 obtain⟨m,hn,hl⟩:=id I.loc;have hcls:(X.env.scope.kind==.class||(X.env.scope.kind==.module&&X.env.locals !=X.env.globals))=false:=by rw[I.ok.kind];rfl
 have hiσ:i<σ.length:=by rw[I.len];exact(List.getElem?_eq_some_iff.mp hi).1
 have cne:=I.cne;have tracked:∀{a:Addr} {h':Heap},(∃o,s.heap.get? a=some o/\H a=none)->Heap.SameBut a s.heap h'->HOk X.prog X.w H h':=fun{a h'} ha hs b ob e=>by
  obtain⟨_,_,hfree⟩:=ha;refine(I.hok b ob e).stay (fun c w' hc q=>(hs.2 c ?_).trans q) (fun _ q=>q) fun _ _ q=>q;rintro rfl;rcases hc with rfl|hc
  ·rw[hfree] at e;cases e
  ·rw[hfree] at hc;cases hc
 rcases hx with hk|hk
 ·refine wpAny_storeName_local hk hn (fun h' hn' hs=> ?_) hcls;obtain⟨oL,_,_,hoL,_⟩:=id hn;refine h _ ⟨I.ok,I.os,I.bare,⟨fun b o e n hb hx=> ?_,fun b o e n hb hx=> ?_,I.base.free,fun b o e hx=> ?_,I.base.tups,I.base.frzs,I.base.tbls⟩,⟨_,hn',fun j y v' e1 e2 e3=> ?_⟩,fun y c e=> ?_,I.free,I.freeC,fun p hp=> ?_,tracked ⟨oL,hoL,I.free⟩ hs,by simpa using I.len⟩ ⟨_,hs,.inl rfl⟩
  ·exact(hs.2 b (Nat.ne_of_lt (Nat.lt_of_lt_of_le (Heap.lt_size e) I.ok.above))).trans (I.base.keep b o e n hb hx)
  ·obtain⟨sl,e1⟩:=I.base.slot b o e n hb hx;exact⟨sl,(hs.2 b (Nat.ne_of_lt (Nat.lt_of_lt_of_le (Heap.lt_size e) I.ok.above))).trans e1⟩
  ·obtain⟨o',e1⟩:=I.base.there b o e hx;exact⟨o',(hs.2 b (Nat.ne_of_lt (Nat.lt_of_lt_of_le (Heap.lt_size e) I.ok.above))).trans e1⟩
  ·by_cases hj:j=i
   ·subst hj;rw[hi] at e1;cases e1
    rw[List.getElem?_set_self hiσ] at e2
    cases e2;exact⟨u,r,.inl ⟨hk,by simp⟩⟩
   ·rw[List.getElem?_set_ne (Ne.symm hj)] at e2
    obtain⟨u',r',q⟩:=hl j y v' e1 e2 e3;refine⟨u',r', ?_⟩;rcases q with ⟨k,e⟩|⟨k,c,e,z⟩
    ·refine .inl ⟨k, ?_⟩;have:y≠x:=fun e=>hj (ZlF hN e1 (e▸hi));simp[this,e]
    ·exact .inr ⟨k,c,e,z.sameBut hs (cne y c e)⟩
  ·obtain⟨w',z⟩:=I.cell y c e;exact⟨w',z.sameBut hs (cne y c e)⟩
  ·obtain⟨e,n,ne,nf,d⟩:=I.pin p hp;exact⟨(hs.2 p.1 ne).trans e,n,ne,nf,d⟩
 ·have hfn:X.fn x=true:=by
   rcases hf with z|z
   ·exact z
   ·rw[z] at hk;cases hk
  obtain⟨c,hc⟩:=I.ok.has x (.inl hk);obtain⟨w',z⟩:=I.cell x c hc;refine wpAny_storeName_cell I.ok.kind hk hc z (fun h' hc' hs=> ?_);obtain⟨oc,hoc,hocd⟩:=id z;refine h {s with heap:=h'} ⟨I.ok,I.os,I.bare,⟨fun b o e n hb hx=> ?_,fun b o e n hb hx=> ?_,I.base.free,fun b o e hx=> ?_,I.base.tups,I.base.frzs,I.base.tbls⟩,⟨m,hn.sameBut hs (Ne.symm (cne x c hc)),fun j y v' e1 e2 e3=> ?_⟩,fun y c' e=> ?_,I.free,I.freeC,fun p hp=> ?_,tracked ⟨oc,hoc,I.freeC x c hc⟩ hs,by simpa using I.len⟩ ⟨c,hs,.inr hc⟩
  ·exact(hs.2 b (Nat.ne_of_lt (Nat.lt_of_lt_of_le (Heap.lt_size e) (I.ok.cab x c hfn hc)))).trans (I.base.keep b o e n hb hx)
  ·obtain⟨sl,e1⟩:=I.base.slot b o e n hb hx;exact⟨sl,(hs.2 b (Nat.ne_of_lt (Nat.lt_of_lt_of_le (Heap.lt_size e) (I.ok.cab x c hfn hc)))).trans e1⟩
  ·obtain⟨o',e1⟩:=I.base.there b o e hx;exact⟨o',(hs.2 b (Nat.ne_of_lt (Nat.lt_of_lt_of_le (Heap.lt_size e) (I.ok.cab x c hfn hc)))).trans e1⟩
  ·by_cases hj:j=i
   ·subst hj;rw[hi] at e1;cases e1
    rw[List.getElem?_set_self hiσ] at e2
    cases e2;exact⟨u,r,.inr ⟨.inl hk,c,hc,hc'⟩⟩
   ·rw[List.getElem?_set_ne (Ne.symm hj)] at e2
    obtain⟨u',r',q⟩:=hl j y v' e1 e2 e3;refine⟨u',r', ?_⟩;rcases q with q|⟨k,c',e,z'⟩
    ·exact .inl q
    ·refine .inr ⟨k,c',e,z'.sameBut hs ?_⟩;rintro rfl;exact hj (ZlF hN e1 (I.ok.inj _ _ _ e hc▸hi))
  ·by_cases hcc:c'=c
   ·subst hcc;exact⟨_,hc'⟩
   ·obtain⟨w2,z2⟩:=I.cell y c' e;exact⟨w2,z2.sameBut hs hcc⟩
  ·obtain⟨e,n,ne,nf,d⟩:=I.pin p hp;refine⟨(hs.2 p.1 ?_).trans e,n,ne,nf,d⟩;intro q;rw[q,hoc] at e
   have q':oc=p.2:=Option.some.inj e;exact d w' (by rw[<-q'];exact hocd)
theorem ZlG{M:Model}{A:Around}{E:Value->Shared->Prop}{i:Nat}{x:Str}{v:V}{u:Value}{Q:Unit->Shared->Prop}(I:Inv X pins σ H s)(hN:X.N.Nodup)(hi:X.N[i]? =some x)(hx:Loc X.env.scope x)(r:Ye v u)
  (h:∀s',Inv X pins (σ.set i (some v)) H s'->Q () s')(hf:X.fn x=true\/X.env.scope.names.lookup x=some .local:=by first|exact .inl rfl|exact .inr rfl|assumption):wpAny M A (storeName X.env x u) Q E s:=
 Zo4 I hN hi hx r (fun s' I' _=>h s' I') hf
theorem Inv.call'{s':Shared}{ch:List Addr}(I:Inv X pins σ H s)(ho:s'.os=s.os)(u:Un (frs X.stack) ch H H' s.heap s'.heap)(hok:HOk X.prog X.w H' s'.heap)(hg:AllBare s'.gens)
  (hch:∀b∈ch,(b∈X.ex\/X.s₀.heap.objs.size<=b)/\b≠X.env.locals/\(∀x c,X.env.cells.lookup x=some c->c≠b)/\∀p∈X.pn++pins,p.1≠b):Inv X pins σ H' s':=by
 obtain⟨h',g',d',t',o'⟩:=s';have e:o'=s.os:=ho;subst e;exact I.call (g':=g') (t':=t') (d':=d') u hok hg hch
end
abbrev XK:=Value->Option Addr->Hp->Prop
abbrev St:=List (Option V)
abbrev VK:=V->Hp->Prop
abbrev TE:=St->Hp->VK->Prop
abbrev TT:=St->Hp->(Bool->Hp->Prop)->Prop
abbrev TA:=St->Hp->(List V->Hp->Prop)->Prop
structure Zkw where
 nx:St->Hp->Prop
 rt:VK
 bk:St->Hp->Prop:=fun _ _=>False
 ct:St->Hp->Prop:=fun _ _=>False
abbrev TS:=Zkw->St->Hp->Prop
def EP(X:Cx)(pins:List (Addr×Obj))(σ:St)(Q:VK)(u:Value)(s':Shared):Prop:=∃v H',Inv X pins σ H' s'/\Ye v u/\Q v H'
def TP(X:Cx)(pins:List (Addr×Obj))(σ:St)(Q:Bool->Hp->Prop)(b:Bool)(s':Shared):Prop:=∃H',Inv X pins σ H' s'/\Q b H'
def AP(X:Cx)(pins:List (Addr×Obj))(σ:St)(Q:List V->Hp->Prop)(us:List Value)(s':Shared):Prop:=∃vs H',Inv X pins σ H' s'/\Yl vs us/\Q vs H'
def SP(X:Cx)(pins:List (Addr×Obj))(D:Zkw)(f:Flow)(s':Shared):Prop:=
 match f with
 | .next=>∃σ' H',Inv X pins σ' H' s'/\D.nx σ' H'
 | .brk=>∃σ' H',Inv X pins σ' H' s'/\D.bk σ' H'
 | .cont=>∃σ' H',Inv X pins σ' H' s'/\D.ct σ' H'
 | .ret u=>∃v σ' H',Inv X pins σ' H' s'/\Ye v u/\D.rt v H'
def PE(X:Cx)(e:Expr)(t:TE):Prop:=
 ∀(pins:List (Addr×Obj)) (s:Shared) (σ:St) (H:Hp) (Q:VK),Inv X pins σ H s->t σ H Q->wpAny (model X.prog X.w) X.A (eval e X.env) (EP X pins σ Q) X.xe s
def PT(X:Cx)(e:Expr)(t:TT):Prop:=
 ∀(pins:List (Addr×Obj)) (s:Shared) (σ:St) (H:Hp) (Q:Bool->Hp->Prop),Inv X pins σ H s->t σ H Q->wpAny (model X.prog X.w) X.A (isTrue e X.env (eval e X.env)) (TP X pins σ Q) X.xe s
def PW(X:Cx)(e:Expr)(t:TT):Prop:=
 ∀(whole:Sem Value) (pins:List (Addr×Obj)) (s:Shared) (σ:St) (H:Hp) (Q:Bool->Hp->Prop),Inv X pins σ H s->t σ H Q->wpAny (model X.prog X.w) X.A (isTrue e X.env whole) (TP X pins σ Q) X.xe s
theorem PW.pt{X:Cx}{e:Expr}{t:TT}(h:PW X e t):PT X e t:=h _
def PA(X:Cx)(es:List Expr)(t:TA):Prop:=
 ∀(pos:Pos) (pins:List (Addr×Obj)) (s:Shared) (σ:St) (H:Hp) (Q:List V->Hp->Prop),Inv X pins σ H s->t σ H Q->wpAny (model X.prog X.w) X.A (spliced (backTo pos (starEach es X.env))) (AP X pins σ Q) X.xe s
def PS(X:Cx)(st:Stmt)(t:TS):Prop:=
 ∀(pins:List (Addr×Obj)) (s:Shared) (σ:St) (H:Hp) (D:Zkw),Inv X pins σ H s->t D σ H->wpAny (model X.prog X.w) X.A (exec st X.env) (SP X pins D) X.xe s
def PSs(X:Cx)(st:List Stmt)(t:TS):Prop:=
 ∀(pins:List (Addr×Obj)) (s:Shared) (σ:St) (H:Hp) (D:Zkw),Inv X pins σ H s->t D σ H->wpAny (model X.prog X.w) X.A (execs st X.env) (SP X pins D) X.xe s
theorem thn{α:Type}{t:Sem α}{Q Q':α->Shared->Prop}{M:Model}{A:Around}{E:Value->Shared->Prop}{s:Shared}(h:wpAny M A t Q E s)(hQ:∀a s,Q a s->Q' a s):wpAny M A t Q' E s:=wpAny_mono h hQ fun _ _ x=>x
end L2
namespace L2
open PySem PySem.Spec PyProof.Rows
section
variable {X:Cx}
def Zo5(i:Nat):TE:=fun σ H Q=>∃v,σ[i]? =some (some v)/\Q v H
def tC(v:V):TE:=fun _ H Q=>Q v H
theorem ZrE{i:Nat}{x:Str}{pos:Pos}(hN:X.N[i]? =some x)(hv:Vis X.env.scope x)(hd:(x==("__debug__":Str))=false:=by decide)(hcd:(x==("__classdict__":Str))=false:=by decide):PE X (.Name x pos) (Zo5 i):=by
 intro pins s σ H Q I h;obtain⟨v,e,h⟩:=h;obtain⟨m,hn,hl⟩:=I.loc;obtain⟨u,r,l⟩:=hl i x v hN e hv;have fin:EP X pins σ Q u s:=⟨v,H,I,r,h⟩
 rcases l with ⟨hk,hm⟩|⟨hk,c,hc,hcell⟩
 ·exact wpAny_Name (wpAny_loadName_local I.ok.kind hk hn hm fin) hd
 ·rcases hk with hk|hk
  ·exact wpAny_Name (wpAny_loadName_cell I.ok.kind hk hc hcell fin) hd
  ·exact wpAny_Name (wpAny_loadName_free I.ok.kind hk hc hcell fin hcd) hd
theorem Zd{i j pos}:PE X (.Constant (.int i) j pos) (tC (.int i)):=fun _ _ _ H _ I h=>wpAny_Constant_int ⟨.int i,H,I.tok _,⟨_,rfl⟩,h⟩
theorem Zf9{b j pos}:PE X (.Constant (.bool b) j pos) (tC (.bl b)):=fun _ _ _ H _ I h=>Constant_bool ⟨.bl b,H,I,rfl,h⟩
theorem Yz{j pos}:PE X (.Constant .none j pos) (tC .non):=fun _ _ _ H _ I h=>Constant_none ⟨.non,H,I,rfl,h⟩
theorem ZD{x j pos}:PE X (.Constant (.str x) j pos) (tC (.str x)):=fun _ _ _ H _ I h=>Calls.Constant_str ⟨.str x,H,I.tok _,⟨_,rfl⟩,h⟩
def Gl(X:Cx)(x:Str):Prop:=X.env.kindOf x=some .globalImplicit
theorem ZhP{E:Value->Shared->Prop}{pins:List (Addr×Obj)}{s:Shared}{σ:St}{H:Hp}{x:Str}{u:Value}{pos:Pos}{Q:Value->Shared->Prop}(I:Inv X pins σ H s)(hg:Gl X x)(hm:X.mg x=some u)(h:Q u s)
  (hd:(x==("__debug__":Str))=false:=by decide):wpAny (model X.prog X.w) X.A (eval (.Name x pos) X.env) Q E s:=
 Calls.Name_function_global I.ok.kind hg (Calls.loadGlobal_global (by rw[I.ok.glob];exact I.mod.glob.keeps I.bk) hm h) hd
theorem Zi9{E:Value->Shared->Prop}{pins:List (Addr×Obj)}{s:Shared}{σ:St}{H:Hp}{x:Str}{u:Value}{pos:Pos}{Q:Value->Shared->Prop}(I:Inv X pins σ H s)(hg:Gl X x)(hm:X.mg x=none)(hv:bootBuiltins x=some u)(h:Q u s)
  (hn:x≠"__name__":=by decide)(hd:(x==("__debug__":Str))=false:=by decide):wpAny (model X.prog X.w) X.A (eval (.Name x pos) X.env) Q E s:=by
 obtain⟨mb,h1,h2⟩:=I.mod.blt;exact Calls.Name_function_global I.ok.kind hg (Calls.loadGlobal_builtin (by rw[I.ok.glob];exact I.mod.glob.keeps I.bk) hm (by rw[I.ok.blt];exact h1.keeps I.bk) ((h2 x hn).trans hv) h) hd
theorem ZeP{x:Str}{v:V}{u:Value}{pos:Pos}(hg:Gl X x)(hm:X.mg x=none)(hv:bootBuiltins x=some u)(r:Ye v u)(hn:x≠"__name__":=by decide)(hd:(x==("__debug__":Str))=false:=by decide):PE X (.Name x pos) (tC v):=
 fun _ _ _ H _ I h=>Zi9 I hg hm hv ⟨v,H,I,r,h⟩ hn hd
variable {a b:Expr} {ta tb:TE} {pos:Pos}
def PC(X:Cx)(op:CmpOp)(a b:Expr)(t:TE):Prop:=
 ∀(pins:List (Addr×Obj)) (s:Shared) (σ:St) (H:Hp) (Q:VK),Inv X pins σ H s->t σ H Q->
  wpAny (model X.prog X.w) X.A (eval a X.env) (fun v s₁=>wpAny (model X.prog X.w) X.A (eval b X.env) (fun u s₂=>wpAny (model X.prog X.w) X.A (compareOp op v u) (EP X pins σ Q) X.xe s₂) X.xe s₁) X.xe s
def tB(t:TE):TT:=fun σ H Q=>t σ H fun x H1=>∃c,x=.bl c/\Q c H1
theorem ZrF{op:CmpOp}{t:TE}(h:PC X op a b t)(h1:behindInMarks op b=false:=by first|exact nobehind _ (by decide) (by decide)|rfl):PE X (.Compare a [op] [b] pos) t:=fun pins s σ H Q I hw=>wpAny_Compare1 (h pins s σ H Q I hw) h1
theorem Zdo{op:CmpOp}{t:TE}(h:PC X op a b t)(h1:behindInMarks op b=false:=by first|exact nobehind _ (by decide) (by decide)|rfl):PT X (.Compare a [op] [b] pos) (tB t):=by
 intro pins s σ H Q I hw;refine wpAny_isTrue_Compare1 (thn (h pins s σ H _ I hw) fun v s1 h1=>thn h1 fun u s2 h2=>thn h2 fun c s3 ⟨x,H1,I1,r1,q1⟩=> ?_) h1;obtain⟨d,rfl,q⟩:=q1;cases r1;exact wpAny_truthy_bool ⟨H1,I1,q⟩
theorem Zaq{e:Expr}{t:TE}(h:PE X e t)(he:∀whole,isTrue e X.env whole=(do let v<-whole;standAt e.pos;holding [v] (truthy v)):=by intro _;rfl):PT X e (tB t):=by
 intro pins s σ H Q I hw;refine isTrue_plain (thn (h pins s σ H _ I hw) fun v s1 ⟨x,H1,I1,r1,q1⟩=> ?_) (he _);obtain⟨d,rfl,q⟩:=q1;cases r1;exact wpAny_truthy_bool ⟨H1,I1,q⟩
variable {tA tB':TT} {rest:List Expr}
def Ztm(t u:TT):TT:=fun σ H Q=>t σ H fun c H1=>if c=true then u σ H1 Q else Q false H1
def tOr(t u:TT):TT:=fun σ H Q=>t σ H fun c H1=>if c=true then Q true H1 else u σ H1 Q
def Ztn(t:TT):TT:=fun σ H Q=>t σ H fun c H1=>Q (!c) H1
theorem YT(ha:PT X a tA):PW X (.BoolOp .And [a] pos) tA:=by
 intro wh pins s σ H Q I h;refine isTrue_and (thn (ha pins s σ H Q I h) fun c s1 e=> ?_);cases c with
 |true=>exact isTrue_and_nil e
 |false=>exact e
theorem ZbS(ha:PT X a tA):PW X (.BoolOp .Or [a] pos) tA:=by
 intro wh pins s σ H Q I h;refine isTrue_or (thn (ha pins s σ H Q I h) fun c s1 e=> ?_);cases c with
 |false=>exact isTrue_or_nil e
 |true=>exact e
theorem Xb(ha:PT X a tA)(hb:PW X (.BoolOp .And (b::rest) pos) tB'):PW X (.BoolOp .And (a::b::rest) pos) (Ztm tA tB'):=by
 intro wh pins s σ H Q I h;refine isTrue_and (thn (ha pins s σ H _ I h) fun c s1 ⟨H1,I1,q1⟩=> ?_);cases c with
 |true=>exact hb wh pins s1 σ H1 Q I1 q1
 |false=>exact⟨H1,I1,q1⟩
theorem Zb5(ha:PT X a tA)(hb:PW X (.BoolOp .Or (b::rest) pos) tB'):PW X (.BoolOp .Or (a::b::rest) pos) (tOr tA tB'):=by
 intro wh pins s σ H Q I h;refine isTrue_or (thn (ha pins s σ H _ I h) fun c s1 ⟨H1,I1,q1⟩=> ?_);cases c with
 |true=>exact⟨H1,I1,q1⟩
 |false=>exact hb wh pins s1 σ H1 Q I1 q1
theorem ZbT(ha:PT X a tA):PT X (.UnaryOp .Not a pos) (Ztn tA):=by
 intro pins s σ H Q I h;exact isTrue_not (ha pins s σ H (fun c H1=>Q (!c) H1) I h)
def Zst(ta tb:TE):TE:=fun σ H Q=>ta σ H fun x H1=>∃c,x=.bl c/\if c=true then tb σ H1 Q else Q (.bl false) H1
def Zto(ta tb:TE):TE:=fun σ H Q=>ta σ H fun x H1=>∃c,x=.bl c/\if c=true then Q (.bl true) H1 else tb σ H1 Q
def Zsu(ta:TE):TE:=fun σ H Q=>ta σ H fun x H1=>∃c,x=.bl c/\Q (.bl (!c)) H1
theorem Zia{op}{t:TE}(h:PE X a t):PE X (.BoolOp op [a] pos) t:=fun pins s σ H Q I hw=>BoolOp_one (h pins s σ H Q I hw)
theorem Zib(ha:PE X a ta)(hb:PE X (.BoolOp .And (b::rest) pos) tb):PE X (.BoolOp .And (a::b::rest) pos) (Zst ta tb):=by
 intro pins s σ H Q I h;refine BoolOp_and (thn (ha pins s σ H _ I h) fun v s1 ⟨x,H1,I1,r1,q1⟩=> ?_);obtain⟨c,rfl,q1⟩:=q1;cases r1;refine wpAny_truthy_bool ?_;cases c with
 |true=>exact hb pins s1 σ H1 Q I1 q1
 |false=>exact⟨.bl false,H1,I1,rfl,q1⟩
theorem Zsv(ha:PE X a ta)(hb:PE X (.BoolOp .Or (b::rest) pos) tb):PE X (.BoolOp .Or (a::b::rest) pos) (Zto ta tb):=by
 intro pins s σ H Q I h;refine BoolOp_or (thn (ha pins s σ H _ I h) fun v s1 ⟨x,H1,I1,r1,q1⟩=> ?_);obtain⟨c,rfl,q1⟩:=q1;cases r1;refine wpAny_truthy_bool ?_;cases c with
 |false=>exact hb pins s1 σ H1 Q I1 q1
 |true=>exact⟨.bl true,H1,I1,rfl,q1⟩
theorem ZrG(ha:PE X a ta):PE X (.UnaryOp .Not a pos) (Zsu ta):=by
 intro pins s σ H Q I h;refine UnaryOp_ (thn (ha pins s σ H _ I h) fun v s1 ⟨x,H1,I1,r1,q1⟩=> ?_);obtain⟨c,rfl,q1⟩:=q1;cases r1;exact not_of (wpAny_truthy_bool ⟨.bl (!c),H1,I1,rfl,q1⟩)
def tIf(t:TT)(ta tb:TE):TE:=fun σ H Q=>t σ H fun c H1=>if c=true then ta σ H1 Q else tb σ H1 Q
theorem ZbU{c:Expr}(hc:PT X c tA)(ha:PE X a ta)(hb:PE X b tb):PE X (.IfExp c a b pos) (tIf tA ta tb):=by
 intro pins s σ H Q I h;refine wpAny_IfExp (thn (hc pins s σ H _ I h) fun d s1 ⟨H1,I1,q1⟩=> ?_);cases d with
 |true=>exact ha pins s1 σ H1 Q I1 q1
 |false=>exact hb pins s1 σ H1 Q I1 q1
end
end L2
namespace L2
open PySem PySem.Spec PyProof.Rows
def SqL(K:PySem.W.Frag)(H:Hp)(a:Addr)(xs:List V):Prop:=
 Rd H a (.lst xs)\/
  ∃(o:Obj) (its:Array Value) (n:Nat),K.lookup a=some o/\o.cls=.type "list"/\o.dict=none/\o.data=.seq its n/\its.size<=sizeLine/\Yl xs its.toList
def SqT(K:PySem.W.Frag)(H:Hp)(a:Addr)(xs:List V):Prop:=
 Rd H a (.tup xs)\/
  ∃(o:Obj) (its:Array Value) (n:Nat),K.lookup a=some o/\o.cls=.type "tuple"/\o.data=.seq its n/\its.size<=sizeLine/\Yl xs its.toList
def Ztp:Value->Option V
 | .none=>some .non
 | .bool b=>some (.bl b)
 | .int i _=>some (.int i)
 | .str x _=>some (.str x)
 | .bytes b _=>some (.byt b)
 | .float b _=>some (.flt b)
 | .ref a=>some (.ref a)
 | .type n=>some (.ty n)
 |_=>none
theorem Ye.abs{x:V}{u:Value}(r:Ye x u):Ztp u=some x:=by
 cases x with
 |non=>cases r;rfl
 |bl _=>cases r;rfl
 |int _=>obtain⟨t,rfl⟩:=r;rfl
 |str _=>obtain⟨t,rfl⟩:=r;rfl
 |byt _=>obtain⟨t,rfl⟩:=r;rfl
 |flt _=>obtain⟨t,rfl⟩:=r;rfl
 |ref _=>cases r;rfl
 |ty _=>cases r;rfl
theorem Ye.inj{x y:V}{u:Value}(r:Ye x u)(q:Ye y u):x=y:=Option.some.inj (r.abs.symm.trans q.abs)
theorem Yl.inj:∀{xs ys:List V} {us:List Value},Yl xs us->Yl ys us->xs=ys
 |_,_,_,.nil,.nil=>rfl
 |_,_,_,.cons r t,.cons r' t'=>by rw[r.inj r',Yl.inj t t']
section
variable {X:Cx} {pins:List (Addr×Obj)} {σ:St} {H:Hp} {s:Shared} {a:Addr} {xs ys:List V}
theorem SqL.of{K:PySem.W.Frag}(h:H a=some (.lst xs)):SqL K H a xs:=.inl (.inl h)
theorem SqT.of{K:PySem.W.Frag}(h:H a=some (.tup xs)):SqT K H a xs:=.inl (.inl h)
theorem Inv.list(I:Inv X pins σ H s)(h:SqL X.K H a xs):∃its:List Value,Yl xs its/\PlainL s.heap a its.toArray/\xs.length<=sizeLine:=by
 rcases h with h|⟨o,its,n,hk,hc,hd,hs,hz,r⟩
 ·obtain⟨z,its,n,r,e⟩:=h.ok I.hok;exact⟨its,r,⟨_,n,e,rfl,rfl,rfl⟩,z⟩
 ·refine⟨its.toList,r,⟨o,n,I.kIn a o hk,hc,hd,by simpa using hs⟩, ?_⟩;have e:=r.length;simp only [Array.length_toList] at e
  omega
theorem Inv.tuple(I:Inv X pins σ H s)(h:SqT X.K H a xs):∃its:List Value,Yl xs its/\IsTup s.heap a its.toArray/\xs.length<=sizeLine:=by
 rcases h with h|⟨o,its,n,hk,hc,hs,hz,r⟩
 ·obtain⟨z,its,r,p⟩:=h.ok I.hok;exact⟨its,r,p,z⟩
 ·refine⟨its.toList,r,⟨o,I.kIn a o hk,hc,n,by simpa using hs⟩, ?_⟩;have e:=r.length;simp only [Array.length_toList] at e
  omega
theorem Inv.list_inj(I:Inv X pins σ H s)(h:SqL X.K H a xs)(h':SqL X.K H a ys):xs=ys:=by
 obtain⟨its,r,⟨o,n,e,_,_,d⟩,_⟩:=I.list h;obtain⟨its',r',⟨o',n',e',_,_,d'⟩,_⟩:=I.list h';rw[e] at e';cases e'
 rw[d] at d'
 injection d' with d1 _
 have:its=its':=by simpa using congrArg Array.toList d1
 subst this;exact r.inj r'
theorem Inv.tuple_inj(I:Inv X pins σ H s)(h:SqT X.K H a xs)(h':SqT X.K H a ys):xs=ys:=by
 obtain⟨its,r,⟨o,e,_,n,d⟩,_⟩:=I.tuple h;obtain⟨its',r',⟨o',e',_,n',d'⟩,_⟩:=I.tuple h';rw[e] at e';cases e'
 rw[d] at d'
 injection d' with d1 _
 have:its=its':=by simpa using congrArg Array.toList d1
 subst this;exact r.inj r'
end
abbrev Cx.wish(X:Cx)(E:Value->Shared->Prop):Cx:={X with xe:=E}
abbrev Cx.nox(X:Cx):Cx:=X.wish fun _ _=>False
theorem Cx.Ok.wish{X:Cx}(ok:X.Ok)(E:Value->Shared->Prop):(X.wish E).Ok:=
 ⟨ok.mod,ok.kind,ok.glob,ok.blt,ok.above,ok.inj,ok.has,ok.cab,ok.hd,ok.frames,ok.stk,ok.exf,ok.bs,ok.bsz,ok.noex,ok.exfs,ok.funs,ok.frf⟩
theorem Cx.Ok.unwish{X:Cx}{E:Value->Shared->Prop}(ok:(X.wish E).Ok):X.Ok:=
 ⟨ok.mod,ok.kind,ok.glob,ok.blt,ok.above,ok.inj,ok.has,ok.cab,ok.hd,ok.frames,ok.stk,ok.exf,ok.bs,ok.bsz,ok.noex,ok.exfs,ok.funs,ok.frf⟩
section
variable {X:Cx} {pins:List (Addr×Obj)} {σ:St} {H:Hp} {s:Shared} {E:Value->Shared->Prop}
theorem Inv.wish(I:Inv X pins σ H s)(E:Value->Shared->Prop):Inv (X.wish E) pins σ H s:=⟨I.ok.wish E,I.os,I.bare,I.base,I.loc,I.cell,I.free,I.freeC,I.pin,I.hok,I.len⟩
theorem Inv.unwish(I:Inv (X.wish E) pins σ H s):Inv X pins σ H s:=⟨I.ok.unwish,I.os,I.bare,I.base,I.loc,I.cell,I.free,I.freeC,I.pin,I.hok,I.len⟩
theorem SP.unwish{D:Zkw}{f:Flow}{s':Shared}(h:SP (X.wish E) pins D f s'):SP X pins D f s':=by
 cases f with
 |next=>obtain⟨σ',H',I,q⟩:=h;exact⟨σ',H',I.unwish,q⟩
 |brk=>obtain⟨σ',H',I,q⟩:=h;exact⟨σ',H',I.unwish,q⟩
 |cont=>obtain⟨σ',H',I,q⟩:=h;exact⟨σ',H',I.unwish,q⟩
 |ret u=>obtain⟨v,σ',H',I,r,q⟩:=h;exact⟨v,σ',H',I.unwish,r,q⟩
theorem PSs.nox{st:List Stmt}{t:TS}(h:PSs X.nox st t):PSs X st t:=fun pins s σ H D I hw=>
 wpAny_mono (h pins s σ H D (I.wish _) hw) (fun _ _ q=>q.unwish) fun _ _ z=>False.elim z
end
section
variable {X:Cx} {st:Stmt} {rest:List Stmt} {t u:TS} {e:Expr} {te:TE} {pos:Pos}
def Zsw:TS:=fun D σ H=>D.nx σ H
def Zkx(t u:TS):TS:=fun D σ H=>t {D with nx:=u D} σ H
theorem ZF:PSs X [] Zsw:=fun _ _ σ H _ I h=>wpAny_execs_nil ⟨σ,H,I,h⟩
theorem Ze(h1:PS X st t)(h2:PSs X rest u):PSs X (st::rest) (Zkx t u):=by
 intro pins s σ H D I h;refine wpAny_execs_cons (thn (h1 pins s σ H {D with nx:=u D} I h) fun f s1 q=> ?_);cases f with
 |next=>
  obtain⟨σ',H',I',q⟩:=q;exact h2 pins s1 σ' H' D I' q
 |ret v=>exact q
 |brk=>exact q
 |cont=>exact q
theorem Zn(h1:PS X st t):PSs X [st] t:=by
 intro pins s σ H D I h;refine wpAny_execs_cons (thn (h1 pins s σ H D I h) fun f s1 q=> ?_);cases f with
 |next=>exact wpAny_execs_nil q
 |ret v=>exact q
 |brk=>exact q
 |cont=>exact q
theorem Inv.quiet{pins:List (Addr×Obj)}{σ:St}{H:Hp}{s:Shared}(I:Inv X pins σ H s):interactive X.env=false:=by simp[interactive,I.ok.kind]
def Zsx(te:TE):TS:=fun D σ H=>te σ H fun _ H1=>D.nx σ H1
theorem YB(he:PE X e te)(hs:swapsWith e none pos.line X.env=pure false:=by rfl):PS X (.Expr e pos) (Zsx te):=by
 intro pins s σ H D I h;exact wpAny_Expr_any (thn (he pins s σ H _ I h) fun v s1 ⟨x,H1,I1,r1,q1⟩=>⟨σ,H1,I1,q1⟩) I.quiet hs
def Ztq(te:TE):TS:=fun D σ H=>te σ H D.rt
theorem Zx(he:PE X e te):PS X (.Return (some e) pos) (Ztq te):=by
 intro pins s σ H D I h;exact wpAny_Return_some (thn (he pins s σ H _ I h) fun v s1 ⟨x,H1,I1,r1,q1⟩=>⟨x,σ,H1,I1,r1,q1⟩)
def Ztr(c:TT)(t u:TS):TS:=fun D σ H=>c σ H fun b H1=>if b=true then t D σ H1 else u D σ H1
theorem ZS{c:Expr}{a b:List Stmt}{tc:TT}(hc:PT X c tc)(ha:PSs X a t)(hb:PSs X b u):PS X (.If c a b pos) (Ztr tc t u):=by
 intro pins s σ H D I h;refine wpAny_If (thn (hc pins s σ H _ I h) fun d s1 ⟨H1,I1,q1⟩=> ?_);cases d with
 |true=>exact ha pins s1 σ H1 D I1 q1
 |false=>exact hb pins s1 σ H1 D I1 q1
def ZrH:TS:=fun _ _ _=>False
theorem ZfO:PS X st ZrH:=fun _ _ _ _ _ _ h=>h.elim
end
abbrev TG:=V->St->Hp->(St->Hp->Prop)->Prop
abbrev TGs:=List V->St->Hp->(St->Hp->Prop)->Prop
def PG(X:Cx)(target:Expr)(t:TG):Prop:=
 ∀(pins:List (Addr×Obj)) (s:Shared) (σ:St) (H:Hp) (v:V) (u:Value) (Q:St->Hp->Prop),Inv X pins σ H s->Ye v u->t v σ H Q->
  wpAny (model X.prog X.w) X.A (assign target X.env u) (fun _ s'=>∃σ' H',Inv X pins σ' H' s'/\Q σ' H') X.xe s
def PGs(X:Cx)(ts:List Expr)(t:TGs):Prop:=
 ∀(pins:List (Addr×Obj)) (s:Shared) (σ:St) (H:Hp) (vs:List V) (us:List Value) (Q:St->Hp->Prop),Inv X pins σ H s->Yl vs us->t vs σ H Q->
  wpAny (model X.prog X.w) X.A (assignInOrder ((assignEach ts X.env).map (·.2)) us) (fun _ s'=>∃σ' H',Inv X pins σ' H' s'/\Q σ' H') X.xe s
section
variable {X:Cx} {pos:Pos}
def ZoW(i:Nat):TG:=fun v σ H Q=>Q (σ.set i (some v)) H
theorem ZK{i:Nat}{x:Str}(hN:X.N.Nodup)(hi:X.N[i]? =some x)(hx:Loc X.env.scope x)(hf:X.fn x=true\/X.env.scope.names.lookup x=some .local:=by first|exact .inl rfl|exact .inr rfl|assumption):PG X (.Name x pos) (ZoW i):=by
 intro pins s σ H v u Q I r h;exact wpAny_assign_Name (ZlG I hN hi hx r (fun s' I'=>⟨_,H,I',h⟩) hf)
def Zts:TGs:=fun vs σ H Q=>vs=[]/\Q σ H
def Zsy(t:TG)(u:TGs):TGs:=fun vs σ H Q=>∃v r,vs=v::r/\t v σ H fun σ' H'=>u r σ' H' Q
theorem Zdp:PGs X [] Zts:=by
 intro pins s σ H vs us Q I r h;obtain⟨e,h⟩:=h;subst e;cases r;exact assignInOrder_nil ⟨σ,H,I,h⟩
theorem YC{e:Expr}{es:List Expr}{t:TG}{u:TGs}(h1:PG X e t)(h2:PGs X es u)
  (hs:(assignEach (e::es) X.env).map (·.2)=assign e X.env::(assignEach es X.env).map (·.2):=by rfl):PGs X (e::es) (Zsy t u):=by
 intro pins s σ H vs us Q I r h;obtain⟨v,vr,e1,h⟩:=h;subst e1;cases r with
 |cons r rr=>
  rw[hs];refine assignInOrder_cons (thn (h1 pins s σ H _ _ _ I r h) fun _ s1 ⟨σ1,H1,I1,q1⟩=> ?_);exact h2 pins s1 σ1 H1 _ _ Q I1 rr q1
def Zsz(K:PySem.W.Frag)(n:Nat)(t:TGs):TG:=fun v σ H Q=>∃a xs,v=.ref a/\SqT K H a xs/\xs.length=n/\t xs σ H Q
theorem Zic{es:List Expr}{k:Nat}{t:TGs}{n:Nat}(hc:X.calm=true)(h:PGs X es t)
  (hn:(assignEach es X.env).length=n:=by rfl)(hst:(assignEach es X.env).findIdx? (·.1)=none:=by rfl):PG X (.Tuple es k pos) (Zsz X.K n t):=by
 intro pins s σ H v u Q I r hw;obtain⟨a,xs,e1,hq,hl,hw⟩:=hw;subst e1;cases r;obtain⟨its,rv,ht,hz⟩:=I.tuple hq;refine assign_Tuple_tuple (I.ok.hd hc) ht (by simp[hn,<-hl,rv.length]) hst fun h' hx=> ?_;have I1:Inv X pins σ H {s with heap:=h'}:=I.kept (t':=s.toks) fun b o e=>hx b o (Nat.ne_of_lt (Heap.lt_size e)) e;exact h pins _ σ H xs _ Q I1 (by simpa using rv) hw
def ZrI(te:TE)(g:TG):TS:=fun D σ H=>te σ H fun x H1=>g x σ H1 D.nx
theorem ZoX{tg e:Expr}{te:TE}{g:TG}(he:PE X e te)(hg:PG X tg g)(hs:swapsWithSole [tg] e pos.line X.env=pure false:=by rfl)(hw:swappedStores [tg] e X.env=pure none:=by rfl)
  (h1:(assignEach [tg] X.env).map (·.2)=[assign tg X.env]:=by rfl):PS X (.Assign [tg] e pos) (ZrI te g):=by
 intro pins s σ H D I h;refine wpAny_Assign_stores (thn (he pins s σ H _ I h) fun v s1 ⟨x,H1,I1,r1,q1⟩=> ?_) hs hw;rw[h1];exact thn (hg pins s1 σ H1 x v _ I1 r1 q1) fun _ s2 q=>q
theorem Zz{i:Nat}{x:Str}{e:Expr}{te:TE}{pos':Pos}(hN:X.N.Nodup)(hi:X.N[i]? =some x)(hx:Loc X.env.scope x)(he:PE X e te)(hs:swapsWith e (some (.Name x pos')) pos.line X.env=pure false:=by rfl)(hf:X.fn x=true\/X.env.scope.names.lookup x=some .local:=by first|exact .inl rfl|exact .inr rfl|assumption):
  PS X (.Assign [.Name x pos'] e pos) (ZrI te (ZoW i)):=by
 intro pins s σ H D I h;refine wpAny_Assign_Name (thn (he pins s σ H _ I h) fun v s1 ⟨y,H1,I1,r1,q1⟩=> ?_) hs;exact ZlG I1 hN hi hx r1 (fun s2 I2=>⟨_,H1,I2,q1⟩) hf
end
section
variable {X:Cx} {pos:Pos}
def ZrJ(c:TT)(tb:TS):TS:=fun D σ H=>∃W:Nat->St->Hp->Prop,(∃m,W m σ H)/\∀m σ H,W m σ H->
 c σ H fun b H1=>if b=true then∃N:St->Hp->Prop,(∀σ' H',N σ' H'->∃m',m'<m/\W m' σ' H')/\tb {D with nx:=N,ct:=N,bk:=D.nx} σ H1 else D.nx σ H1
theorem ZlH{c:Expr}{body:List Stmt}{tc:TT}{tb:TS}(hp:PassesOwn (model X.prog X.w) X.A X.env X.xe)(hc:PT X c tc)(hb:PSs X body tb):PS X (.While c body [] pos) (ZrJ tc tb):=by
 intro pins s σ H D I h;obtain⟨W,⟨m0,w0⟩,turn⟩:=h;refine wpAny_While (codeAny_whileLoop (fun n s'=>∃σ' H',Inv X pins σ' H' s'/\W n σ' H') ?_ m0 ⟨σ,H,I,w0⟩);rintro n s1 ⟨σ1,H1,I1,w1⟩;refine wpAny_passesOwn hp (thn (hc pins s1 σ1 H1 _ I1 (turn n σ1 H1 w1)) fun b s2 ⟨H2,I2,q2⟩=> ?_);cases b with
 |true=>
  obtain⟨N,hN,q2⟩:=q2;rw[if_pos rfl];refine wpAny_passesOwn hp (thn (hb pins s2 σ1 H2 _ I2 q2) fun f s3 q3=> ?_);cases f with
  |next=>
   obtain⟨σ3,H3,I3,n3⟩:=q3;obtain⟨m',hm,w3⟩:=hN σ3 H3 n3;exact⟨m',hm,σ3,H3,I3,w3⟩
  |cont=>
   obtain⟨σ3,H3,I3,n3⟩:=q3;obtain⟨m',hm,w3⟩:=hN σ3 H3 n3;exact⟨m',hm,σ3,H3,I3,w3⟩
  |brk=>exact q3
  |ret v=>exact q3
 |false=>
  rw[if_neg Bool.false_ne_true];exact wpAny_execs_nil ⟨σ1,H2,I2,q2⟩
end
structure It where
 go:Nat->Hp->Prop
 yld:Nat->Hp->V->Hp->Prop
 stop:Nat->Hp->Prop
def Zjr(X:Cx)(pins:List (Addr×Obj))(H:Hp)(b:Addr):Prop:=
 H b=none/\b≠X.env.locals/\b∉X.fs/\(b∈X.ex\/X.s₀.heap.objs.size<=b)/\(∀x c,X.env.cells.lookup x=some c->c≠b)/\∀p∈X.pn++pins,p.1≠b
theorem Inv.fpOk{X:Cx}{pins:List (Addr×Obj)}{σ:St}{H H':Hp}{s:Shared}{b:Addr}(I:Inv X pins σ H s)(hb:s.heap.objs.size<=b)(hn:H' b=none):Zjr X pins H' b:=by
 refine⟨hn,Nat.ne_of_gt (Nat.lt_of_lt_of_le I.lt hb),I.nofs hb,.inr (Nat.le_trans I.sz hb),fun x c e z=> ?_,fun p hp z=> ?_⟩
 ·obtain⟨v,q⟩:=I.cell x c e;exact absurd (Nat.lt_of_lt_of_le q.lt (by rw[z];exact hb)) (Nat.lt_irrefl _)
 ·exact absurd (Nat.lt_of_lt_of_le (Heap.lt_size (I.pin p hp).1) (by rw[z];exact hb)) (Nat.lt_irrefl _)
structure Zo6 (P:Program) (w:World) (K:PySem.W.Frag) (tg:Expr) (J:It) (fp:List Addr) (it:Addr) (tn:Nat->Heap->Prop):Prop where
 mem:it∈fp
 obj:∀i h,tn i h->∀b∈fp,∃o,h.get? b=some o/\∀v,o.data≠.cell v
 keep:∀i h h',tn i h->(∀b∈fp,∀o,h.get? b=some o->h'.get? b=some o)->tn i h'
 item:∀(X:Cx),X.prog=P->X.w=w->X.K=K->X.calm=true->∀(i:Nat) (pins:List (Addr×Obj)) (s:Shared) (σ:St) (H:Hp) (E:Value->Shared->Prop),Inv X pins σ H s->(∀b∈fp,Zjr X pins H b)->tn i s.heap->J.go i H->
  wpAny (model P w) X.A (pyNext (.ref it)) (fun r s1=>∃u,r=some u/\
   wpAny (model P w) X.A (letOwnedTupleGo tg (.ref it) u) (fun _ s2=>∃x H',Inv X pins σ H' s2/\Ye x u/\J.yld i H x H'/\tn (i+1) s2.heap/\∀b∈fp,H' b=none) E s1) E s
 done:∀(X:Cx),X.prog=P->X.w=w->X.K=K->X.calm=true->∀(i:Nat) (pins:List (Addr×Obj)) (s:Shared) (σ:St) (H:Hp) (E:Value->Shared->Prop),Inv X pins σ H s->(∀b∈fp,Zjr X pins H b)->tn i s.heap->J.stop i H->
  wpAny (model P w) X.A (pyNext (.ref it)) (fun r s1=>r=none/\Inv X pins σ H s1) E s
 self:∀(A:Around) (i:Nat) (s:Shared) (Q:Value->Shared->Prop) (E:Value->Shared->Prop),tn i s.heap->Q (.ref it) s->wpAny (model P w) A (pyIter (.ref it)) Q E s
abbrev TI:=St->Hp->(It->Hp->Prop)->Prop
def PIE(X:Cx)(pins:List (Addr×Obj))(σ:St)(tg:Expr)(R:It->Hp->Prop)(itv:Value)(s2:Shared):Prop:=
 ∃(it:Addr) (fp:List Addr) (tn:Nat->Heap->Prop) (J:It) (H':Hp),itv=.ref it/\Inv X pins σ H' s2/\Zo6 X.prog X.w X.K tg J fp it tn/\tn 0 s2.heap/\(∀b∈fp,Zjr X pins H' b)/\R J H'
def PI(X:Cx)(tg iter:Expr)(wi:TI):Prop:=
 ∀(pins:List (Addr×Obj)) (s:Shared) (σ:St) (H:Hp) (R:It->Hp->Prop),Inv X pins σ H s->wi σ H R->
  wpAny (model X.prog X.w) X.A (eval iter X.env) (fun v s1=>wpAny (model X.prog X.w) X.A (pyIter v) (PIE X pins σ tg R) X.xe s1) X.xe s
theorem Zns{M:Model}{A:Around}{E:Value->Shared->Prop}{s:Shared}{tg:Expr}{it:Addr}{u:Value}{o:Obj}{n:String}{vs:Array Value}{Q:Unit->Shared->Prop}(ho:s.heap.get? it=some o)(hc:o.cls=.type n)(hd:o.data=.fields vs)
  (hn:["enumerate","zip","dict_itemiterator","dict_reverseitemiterator","odict_iterator","itertools.zip_longest","itertools.pairwise"].contains n=false)(hQ:Q () s):wpAny M A (letOwnedTupleGo tg (.ref it) u) Q E s:=by
 unfold letOwnedTupleGo;cases tg<;>first
  |exact wpAny_pure hQ
  |(cases u<;>first
    |exact wpAny_pure hQ
    |(refine wpAny_bind (wpAny_load ho ?_)
      rw[hc,hd];show wpAny M A (if(["enumerate","zip","dict_itemiterator","dict_reverseitemiterator","odict_iterator","itertools.zip_longest","itertools.pairwise"].contains n&&vs[0]? ==some (rawInt _))=true then _ else _) Q E s;rw[if_neg (by intro h;rw[hn,Bool.false_and] at h;cases h)]
      exact wpAny_pure hQ))
def Itl(K:PySem.W.Frag)(a:Addr):It:=
 ⟨fun i H=>∃xs x,SqL K H a xs/\xs[i]? =some x,fun i H x H'=>H'=H/\∀xs,SqL K H a xs->xs[i]? =some x,fun i H=>∃xs,SqL K H a xs/\xs.length<=i⟩
def Itr(lo:Int)(n:Nat):It:=⟨fun i _=>i<n,fun i H x H'=>H'=H/\x=.int (lo+i),fun i _=>n<=i⟩
theorem Zo7{P:Program}{w:World}{K:PySem.W.Frag}{tg:Expr}(a it:Addr):Zo6 P w K tg (Itl K a) [it] it (fun i h=>h.IsListIter it a i) where
 mem:=by simp
 obj:=fun i h st b hb=>by
  have e:b=it:=by simpa using hb
  subst e;obtain⟨o,e,c,d⟩:=st;exact⟨o,e,fun v z=>by rw[d] at z;cases z⟩
 keep:=fun i h h' st k=>st.at fun o e=>k it (by simp) o e
 item:=by
  intro X hP hw hK hc i pins s σ H E I hf st hg;subst hP hw hK;obtain⟨xs,x,hq,hx⟩:=hg;obtain⟨its,rv,p,hz⟩:=I.list hq;obtain⟨u,hu,ru⟩:=rv.get hx;obtain⟨f0,f1,f2,f3,f4,f5⟩:=hf it (by simp);refine wpAny_pyNext_list_item st p.isList (x:=u) (by simpa using hu) fun h' st' sb=> ?_;have I1:Inv X pins σ H {s with heap:=h'}:=I.turned (t':=s.toks) (fun b o hb e=>(sb.2 b hb).trans e) f0 f1 f3 f4 f5;obtain⟨o,e,c,d⟩:=id st'
  exact⟨u,rfl,Zns (s:={s with heap:=h'}) e c d (by decide) ⟨x,H,I1,ru,⟨rfl,fun ys hy=>by rw[I.list_inj hy hq];exact hx⟩,st',fun b hb=>(hf b hb).1⟩⟩
 done:=by
  intro X hP hw hK hc i pins s σ H E I hf st hg;subst hP hw hK;obtain⟨xs,hq,hx⟩:=hg;obtain⟨its,rv,p,hz⟩:=I.list hq;obtain⟨f0,f1,f2,f3,f4,f5⟩:=hf it (by simp);have hl:=rv.length;exact wpAny_pyNext_list_end (I.ok.hd hc) st p.isList (by simp;omega) fun h' eb=>⟨rfl,I.turned (t':=s.toks) (fun b o hb e=>eb b o hb e) f0 f1 f3 f4 f5⟩
 self:=fun _ _ _ _ _ st h=>wpAny_pyIter_listiter st h
theorem Zmv{P:Program}{w:World}{K:PySem.W.Frag}{tg:Expr}(it:Addr)(lo:Int)(n:Nat):Zo6 P w K tg (Itr lo n) [it] it (fun i h=>IsRangeIter h it (lo+(i:Nat)*1) ((n:Int)-(i:Nat)) 1) where
 mem:=by simp
 obj:=fun i h st b hb=>by
  have e:b=it:=by simpa using hb
  subst e;exact⟨_,st,fun v z=>by
   have z':Data.fields _=Data.cell v:=z;cases z'⟩
 keep:=fun i h h' st k=>k it (by simp) _ st
 item:=by
  intro X hP hw hK hc i pins s σ H E I hf st hg;subst hP hw hK;obtain⟨f0,f1,f2,f3,f4,f5⟩:=hf it (by simp);have W:=Walks.range (prog:=X.prog) (w:=X.w) (I.ok.hd hc) it lo 1 n;refine W.item i s _ _ hg st fun v h' tk hv st' kk=> ?_;obtain⟨t,rfl⟩:=hv;have I1:Inv X pins σ H {s with heap:=h',toks:=tk}:=I.turned (fun b o hb e=>kk b o (by simpa using hb) e) f0 f1 f3 f4 f5;refine⟨_,rfl,Zns (s:={s with heap:=h',toks:=tk}) (n:="range_iterator") st' rfl rfl (by decide) ⟨.int (lo+i),H,I1,⟨t, ?_⟩,⟨rfl,rfl⟩,st',fun b hb=>(hf b hb).1⟩⟩
  rw[Int.mul_one]
 done:=by
  intro X hP hw hK hc i pins s σ H E I hf st hg;subst hP hw hK;obtain⟨f0,f1,f2,f3,f4,f5⟩:=hf it (by simp);exact wpAny_pyNext_range_end (I.ok.hd hc) st (by have:n<=i:=hg;omega) fun h' eb=>⟨rfl,I.turned (t':=s.toks) (fun b o hb e=>eb b o hb e) f0 f1 f3 f4 f5⟩
 self:=fun _ _ _ _ _ st h=>wpAny_pyIter_rangeiter st h
end L2
namespace L2
open PySem PySem.Spec PyProof.Rows
section
variable {X:Cx} {tg:Expr}
def ZsA(K:PySem.W.Frag)(tl:TE):TI:=fun σ H R=>tl σ H fun x H1=>∃a,x=.ref a/\(∃xs,SqL K H1 a xs)/\R (Itl K a) H1
theorem Yg{l:Expr}{tl:TE}(hl:PE X l tl):PI X tg l (ZsA X.K tl):=by
 intro pins s σ H R I h;refine thn (hl pins s σ H _ I h) fun v s1 ⟨x,H1,I1,r1,q1⟩=> ?_;obtain⟨a,e,⟨xs,hq⟩,q⟩:=q1;subst e;cases r1;obtain⟨its,rv,p,hz⟩:=I1.list hq;refine wpAny_pyIter_list p.isList ?_;refine⟨s1.heap.objs.size,[s1.heap.objs.size],_,_,H1,rfl,I1.kept (t':=s1.toks) fun b o e=>Heap.get?_push_of_some _ e,Zo7 a _,⟨_,Heap.get?_push_size _ rfl,rfl,rfl⟩,fun b hb=> ?_,q⟩;have e:b=s1.heap.objs.size:=by simpa using hb
 subst e;exact I1.fpOk (Nat.le_refl _) (I1.hok.fresh (Nat.le_refl _))
theorem ZoY{pins:List (Addr×Obj)}{σ:St}{H:Hp}{s:Shared}{R:It->Hp->Prop}{E:Value->Shared->Prop}{lo hi:Int}{t u v:Tok}{tk:Nat}(I:Inv X pins σ H s)(h1: -(2^62)<=lo)(h2:lo<2^62)(h3: -(2^62)<=hi)(h4:hi<2^62)
  (q:R (Itr lo (hi-lo).toNat) H):wpAny (model X.prog X.w) X.A (pyIter (.ref s.heap.objs.size)) (PIE X pins σ tg R) E {s with heap:=s.heap.push {cls:=.type "range",data:=.fields #[.int lo t,.int hi u,.int 1 v]},toks:=tk}:=by
 refine wpAny_pyIter_range (IsRange.new ..) (small_one h1 h2 h3 h4) ?_;have I1:Inv X pins σ H {s with heap:=s.heap.push {cls:=.type "range",data:=.fields #[.int lo t,.int hi u,.int 1 v]},toks:=tk}:=I.kept fun b o e=>Heap.get?_push_of_some _ e;refine⟨(s.heap.push {cls:=.type "range",data:=.fields #[.int lo t,.int hi u,.int 1 v]}).objs.size,[(s.heap.push {cls:=.type "range",data:=.fields #[.int lo t,.int hi u,.int 1 v]}).objs.size],_,_,H,rfl,
  I1.kept (t':=tk) fun b o e=>Heap.get?_push_of_some _ e,Zmv _ lo (hi-lo).toNat, ?_,fun b hb=> ?_,q⟩
 ·have e1:lo+((0:Nat):Int)*1=lo:=by simp
  have e2:(((hi-lo).toNat:Nat):Int)-((0:Nat):Int)=Builtin.Range.rangeSize lo hi 1:=by rw[rangeSize_one];split<;>omega
  show IsRangeIter _ _ (lo+((0:Nat):Int)*1) ((((hi-lo).toNat:Nat):Int)-((0:Nat):Int)) 1;rw[e1,e2];exact Heap.get?_push_size _ rfl
 ·have e:b=(s.heap.push {cls:=.type "range",data:=.fields #[.int lo t,.int hi u,.int 1 v]}).objs.size:=by simpa using hb
  subst e;exact I1.fpOk (Nat.le_refl _) (I1.hok.fresh (Nat.le_refl _))
def ZsB(ta:TA):TI:=fun σ H R=>ta σ H fun vs H1=>∃j:Int,vs=[.int j]/\-(2^62)<=j/\j<2^62/\R (Itr 0 j.toNat) H1
theorem ZcY{a:Expr}{ta:TA}{p pos:Pos}(hg:Gl X "range")(hm:X.mg "range"=none)(ha:PA X [a] ta)(hs:starEach [a] X.env=[(false,eval a X.env)]:=by rfl):PI X tg (.Call (.Name "range" p) [a] [] pos) (ZsB ta):=by
 intro pins s σ H R I h;refine Call_ (Zi9 I hg hm boot_range (PyProof.Rows.callWith_type1 (thn (ha pos pins s σ H _ I h) fun us s1 ⟨vs,H1,I1,r1,q1⟩=> ?_) hs rfl));obtain⟨j,e,q1,q2,q⟩:=q1;subst e;cases r1 with
 |cons r rr=>
  cases rr;obtain⟨t,rfl⟩:=r;exact call_range_1 (ZoY I1 (by omega) (by omega) q1 q2 (by simpa using q))
def Ztt(wi:TI)(g:TG)(tb:TS):TS:=fun D σ H=>wi σ H fun J H1=>∃W:Nat->Nat->St->Hp->Prop,(∃m,W 0 m σ H1)/\∀i m σ H,W i m σ H->
 (J.stop i H/\D.nx σ H)\/(J.go i H/\∃N:St->Hp->Prop,(∀σ' H',N σ' H'->∃m',m'<m/\W (i+1) m' σ' H')/\∀x H',J.yld i H x H'->g x σ H' fun σ2 H2=>tb {D with nx:=N,ct:=N,bk:=D.nx} σ2 H2)
def Zid(fp:List Addr)(h:Heap):List (Addr×Obj):=fp.filterMap fun b=>(h.get? b).map fun o=>(b,o)
theorem Zdq{fp:List Addr}{h:Heap}{b:Addr}{o:Obj}(hb:b∈fp)(e:h.get? b=some o):(b,o)∈Zid fp h:=List.mem_filterMap.mpr ⟨b,hb,by rw[e];rfl⟩
theorem Zo8{fp:List Addr}{h:Heap}{p:Addr×Obj}(hp:p∈Zid fp h):p.1∈fp/\h.get? p.1=some p.2:=by
 obtain⟨b,hb,e⟩:=List.mem_filterMap.mp hp;cases q:h.get? b with
 |none=>rw[q] at e;cases e
 |some o=>
  rw[q] at e
  have e':(b,o)=p:=Option.some.inj e;subst e';exact⟨hb,q⟩
theorem Inv.pinned{pins:List (Addr×Obj)}{σ:St}{H:Hp}{s:Shared}{fp:List Addr}(I:Inv X pins σ H s)(hf:∀b∈fp,Zjr X pins H b)(ho:∀b∈fp,∃o,s.heap.get? b=some o/\∀v,o.data≠.cell v):Inv X (pins++Zid fp s.heap) σ H s:=
 I.pins_of fun p hp=>(List.mem_append.mp hp).elim (fun z=>I.pin p (List.mem_append_right _ z)) fun z=>by
  obtain⟨hb,e⟩:=Zo8 z;obtain⟨f0,f1,f2,_⟩:=hf p.1 hb;obtain⟨o,e',d⟩:=ho p.1 hb;rw[e] at e';cases e'
  exact⟨e,f0,f1,f2,d⟩
theorem Inv.unpinned{pins pl:List (Addr×Obj)}{σ:St}{H:Hp}{s:Shared}(I:Inv X (pins++pl) σ H s):Inv X pins σ H s:=I.pins_of fun p hp=>I.pin p (List.mem_append_right _ (List.mem_append_left _ hp))
theorem Xw{iter:Expr}{body:List Stmt}{wi:TI}{g:TG}{tb:TS}{pos:Pos}(hp:PassesOwn (model X.prog X.w) X.A X.env X.xe)(hc:X.calm=true)(hi:PI X tg iter wi)(hg:PG X tg g)(hb:PSs X body tb)
  (hs:∀x,foldedSetIterable iter X.env x=pure x:=by intro _;rfl):PS X (.For tg iter body [] pos) (Ztt wi g tb):=by
 intro pins s σ H D I h;refine wpAny_For (thn (hi pins s σ H _ I h) fun v s1 h1=>thn h1 fun itv s2 h2=> ?_) hs;obtain⟨it,fp,tn,J,H2,e,I2,T,st2,f2,W,⟨m0,w0⟩,turn⟩:=h2;subst e;have stat:∀{H':Hp},(∀b∈fp,H' b=none)->∀b∈fp,Zjr X pins H' b:=fun hn b hb=>⟨hn b hb,(f2 b hb).2⟩
 refine codeAny_forLoop_any (fun n s'=>∃i σ' H',Inv X pins σ' H' s'/\tn i s'.heap/\(∀b∈fp,H' b=none)/\W i n σ' H') ?_ m0 ⟨0,σ,H2,I2,st2,fun b hb=>(f2 b hb).1,w0⟩;rintro n s3 ⟨i,σ3,H3,I3,st3,fr3,w3⟩;rcases turn i n σ3 H3 w3 with ⟨stop,qn⟩|⟨go,N,hN,step⟩
 ·refine wpAny_passesOwn hp (thn (T.done X rfl rfl rfl hc i pins s3 σ3 H3 X.xe I3 (stat fr3) st3 stop) fun r s4 ⟨hr,I4⟩=> ?_);subst hr;exact wpAny_execs_nil ⟨σ3,H3,I4,qn⟩
 ·refine wpAny_passesOwn hp (thn (T.item X rfl rfl rfl hc i pins s3 σ3 H3 X.xe I3 (stat fr3) st3 go) fun r s4 ⟨u,hr,h4⟩=> ?_);subst hr;refine wpAny_passesOwn hp (thn h4 fun _ s5 ⟨x,H5,I5,r5,y5,st5,fr5⟩=> ?_);have I5':=I5.pinned (stat fr5) (T.obj _ _ st5);refine wpAny_passesOwn hp (thn (hg _ s5 σ3 H5 x u _ I5' r5 (step x H5 y5)) fun _ s6 ⟨σ6,H6,I6,q6⟩=> ?_);refine wpAny_passesOwn hp (thn (hb _ s6 σ6 H6 _ I6 q6) fun f s7 q7=> ?_)
  have again:∀{σ7:St} {H7:Hp},Inv X (pins++Zid fp s5.heap) σ7 H7 s7->N σ7 H7->∃m,m<n/\∃i σ' H',Inv X pins σ' H' s7/\tn i s7.heap/\(∀b∈fp,H' b=none)/\W i m σ' H':=fun{σ7 H7} I7 n7=>by
   obtain⟨m',hm,w7⟩:=hN σ7 H7 n7;refine⟨m',hm,i+1,σ7,H7,I7.unpinned,T.keep _ _ _ st5 fun b hb o e=>(I7.pin (b,o) (List.mem_append_right _ (List.mem_append_right _ (Zdq hb e)))).1,fun b hb=> ?_,w7⟩;obtain⟨o,e,d⟩:=T.obj _ _ st5 b hb;exact(I7.pin (b,o) (List.mem_append_right _ (List.mem_append_right _ (Zdq hb e)))).2.1
  cases f with
  |next=>obtain⟨σ7,H7,I7,n7⟩:=q7;exact again I7 n7
  |cont=>obtain⟨σ7,H7,I7,n7⟩:=q7;exact again I7 n7
  |brk=>obtain⟨σ7,H7,I7,q7⟩:=q7;exact⟨σ7,H7,I7.unpinned,q7⟩
  |ret v=>obtain⟨x7,σ7,H7,I7,r7,q7⟩:=q7;exact⟨x7,σ7,H7,I7.unpinned,r7,q7⟩
end
theorem YQ{K:PySem.W.Frag}{a:Addr}{xs:List V}{g:TG}{tb:TS}{D:Zkw}{σ:St}{H:Hp}(Pv:Nat->St->Hp->Prop)(h0:Pv 0 σ H)(hl:∀i σ H,i<=xs.length->Pv i σ H->SqL K H a xs)
  (hs:∀i x σ H,xs[i]? =some x->Pv i σ H->g x σ H fun σ2 H2=>tb {D with nx:=Pv (i+1),ct:=Pv (i+1),bk:=D.nx} σ2 H2)(hd:∀σ H,Pv xs.length σ H->D.nx σ H):
  ∃W:Nat->Nat->St->Hp->Prop,(∃m,W 0 m σ H)/\∀i m σ H,W i m σ H->
   ((Itl K a).stop i H/\D.nx σ H)\/((Itl K a).go i H/\∃N:St->Hp->Prop,(∀σ' H',N σ' H'->∃m',m'<m/\W (i+1) m' σ' H')/\∀x H',(Itl K a).yld i H x H'->g x σ H' fun σ2 H2=>tb {D with nx:=N,ct:=N,bk:=D.nx} σ2 H2):=by
 refine⟨fun i m σ H=>m=xs.length-i/\i<=xs.length/\Pv i σ H,⟨xs.length,by simp,Nat.zero_le _,h0⟩, ?_⟩;rintro i m σ H ⟨rfl,hi,p⟩;have q:=hl i σ H hi p
 by_cases hlt:i<xs.length
 ·refine .inr ⟨⟨xs,xs[i],q,by simp[hlt]⟩,Pv (i+1),fun σ' H' p'=>⟨xs.length-(i+1),by omega,rfl,hlt,p'⟩,fun x H' y=> ?_⟩;obtain⟨e,y⟩:=y;subst e;exact hs i x σ _ (y xs q) p
 ·have e:i=xs.length:=by omega
  subst e;exact .inl ⟨⟨xs,q,Nat.le_refl _⟩,hd σ H p⟩
theorem ZjR{lo:Int}{n:Nat}{g:TG}{tb:TS}{D:Zkw}{σ:St}{H:Hp}(Pv:Nat->St->Hp->Prop)(h0:Pv 0 σ H)
  (hs:∀i σ H,i<n->Pv i σ H->g (.int (lo+i)) σ H fun σ2 H2=>tb {D with nx:=Pv (i+1),ct:=Pv (i+1),bk:=D.nx} σ2 H2)(hd:∀σ H,Pv n σ H->D.nx σ H):
  ∃W:Nat->Nat->St->Hp->Prop,(∃m,W 0 m σ H)/\∀i m σ H,W i m σ H->
   ((Itr lo n).stop i H/\D.nx σ H)\/((Itr lo n).go i H/\∃N:St->Hp->Prop,(∀σ' H',N σ' H'->∃m',m'<m/\W (i+1) m' σ' H')/\∀x H',(Itr lo n).yld i H x H'->g x σ H' fun σ2 H2=>tb {D with nx:=N,ct:=N,bk:=D.nx} σ2 H2):=by
 refine⟨fun i m σ H=>m=n-i/\i<=n/\Pv i σ H,⟨n,by simp,Nat.zero_le _,h0⟩, ?_⟩;rintro i m σ H ⟨rfl,hi,p⟩
 by_cases hlt:i<n
 ·refine .inr ⟨hlt,Pv (i+1),fun σ' H' p'=>⟨n-(i+1),by omega,rfl,hlt,p'⟩,fun x H' y=> ?_⟩;obtain⟨e,y⟩:=y;subst e y;exact hs i σ _ hlt p
 ·have e:i=n:=by omega
  subst e;exact .inl ⟨Nat.le_refl _,hd σ H p⟩
end L2
namespace L2
open PySem PySem.Spec PyProof.Rows
abbrev R2:=V->V->Hp->VK->Prop
def OpR(X:Cx)(f:Value->Value->Sem Value)(r:R2):Prop:=
 ∀(pins:List (Addr×Obj)) (s:Shared) (σ:St) (H:Hp) (x y:V) (v u:Value) (Q:VK),Inv X pins σ H s->Ye x v->Ye y u->r x y H Q->
  wpAny (model X.prog X.w) X.A (f v u) (EP X pins σ Q) X.xe s
def UnR(X:Cx)(f:Value->Sem Value)(r:V->Hp->VK->Prop):Prop:=
 ∀(pins:List (Addr×Obj)) (s:Shared) (σ:St) (H:Hp) (x:V) (v:Value) (Q:VK),Inv X pins σ H s->Ye x v->r x H Q->
  wpAny (model X.prog X.w) X.A (f v) (EP X pins σ Q) X.xe s
def Zb6(X:Cx)(f:Value)(r:List V->Hp->VK->Prop):Prop:=
 ∀(pins:List (Addr×Obj)) (s:Shared) (σ:St) (H:Hp) (xs:List V) (us:List Value) (Q:VK),Inv X pins σ H s->Yl xs us->r xs H Q->
  wpAny (model X.prog X.w) X.A (call f us) (EP X pins σ Q) X.xe s
def tOp(r:R2)(ta tb:TE):TE:=fun σ H Q=>ta σ H fun x H1=>tb σ H1 fun y H2=>r x y H2 Q
def tUn(r:V->Hp->VK->Prop)(ta:TE):TE:=fun σ H Q=>ta σ H fun x H1=>r x H1 Q
def rI(C:Int->Int->Prop)(g:Int->Int->V):R2:=fun x y H Q=>∃i j,x=.int i/\y=.int j/\C i j/\Q (g i j) H
def rI0(g:Int->Int->V):R2:=fun x y H Q=>∃i j,x=.int i/\y=.int j/\Q (g i j) H
def rU(g:Int->V):V->Hp->VK->Prop:=fun x H Q=>∃i,x=.int i/\Q (g i) H
section
variable {X:Cx} {a b c:Expr} {ta tb tc:TE} {pos:Pos}
theorem ZrK(ha:PE X a ta)(hb:PE X b tb){pins:List (Addr×Obj)}{s:Shared}{σ:St}{H:Hp}{R:V->V->Hp->Prop}(I:Inv X pins σ H s)
  (h:ta σ H fun x H1=>tb σ H1 fun y H2=>R x y H2){Q:Value->Shared->Prop}{f:Value->Value->Sem Value}
  (hf:∀v u s2 x y H2,Inv X pins σ H2 s2->Ye x v->Ye y u->R x y H2->wpAny (model X.prog X.w) X.A (f v u) Q X.xe s2):
  wpAny (model X.prog X.w) X.A (eval a X.env) (fun v s₁=>wpAny (model X.prog X.w) X.A (eval b X.env) (fun u s₂=>wpAny (model X.prog X.w) X.A (f v u) Q X.xe s₂) X.xe s₁) X.xe s:=by
 refine thn (ha pins s σ H _ I h) fun v s1 ⟨x,H1,I1,r1,q1⟩=> ?_;refine thn (hb pins s1 σ H1 _ I1 q1) fun u s2 ⟨y,H2,I2,r2,q2⟩=> ?_;exact hf v u s2 x y H2 I2 r1 r2 q2
theorem ZC{op:Operator}{r:R2}(ho:OpR X (binaryOp op) r)(ha:PE X a ta)(hb:PE X b tb):PE X (.BinOp a op b pos) (tOp r ta tb):=by
 intro pins s σ H Q I h;exact wpAny_BinOp (ZrK ha hb I h fun v u s2 x y H2 I2 rx ry q=>ho pins s2 σ H2 x y v u Q I2 rx ry q)
theorem Znt{op:UnaryOp}{r:V->Hp->VK->Prop}(ho:UnR X (unaryOp op) r)(ha:PE X a ta):PE X (.UnaryOp op a pos) (tUn r ta):=by
 intro pins s σ H Q I h;exact UnaryOp_ (thn (ha pins s σ H _ I h) fun v s1 ⟨x,H1,I1,r1,q1⟩=>ho pins s1 σ H1 x v Q I1 r1 q1)
theorem opI{f:Value->Value->Sem Value}{C:Int->Int->Prop}{g:Int->Int->Int}
  (rule:∀(i j:Int) (t u:Tok) (s:Shared) (Q:Value->Shared->Prop) (E:Value->Shared->Prop),C i j->Q (.int (g i j) s.toks) {s with toks:=s.toks+1}->wpAny (model X.prog X.w) X.A (f (.int i t) (.int j u)) Q E s):
  OpR X f (rI C fun i j=> .int (g i j)):=by
 intro pins s σ H x y v u Q I rx ry h;obtain⟨i,j,rfl,rfl,hc,q⟩:=h;obtain⟨t,rfl⟩:=rx;obtain⟨t',rfl⟩:=ry;exact rule i j t t' s _ _ hc ⟨.int (g i j),H,I.tok _,⟨_,rfl⟩,q⟩
theorem ZsC{f:Value->Value->Sem Value}{g:Int->Int->Int}
  (rule:∀(i j:Int) (t u:Tok) (s:Shared) (Q:Value->Shared->Prop) (E:Value->Shared->Prop),Q (.int (g i j) s.toks) {s with toks:=s.toks+1}->wpAny (model X.prog X.w) X.A (f (.int i t) (.int j u)) Q E s):
  OpR X f (rI0 fun i j=> .int (g i j)):=by
 intro pins s σ H x y v u Q I rx ry h;obtain⟨i,j,rfl,rfl,q⟩:=h;obtain⟨t,rfl⟩:=rx;obtain⟨t',rfl⟩:=ry;exact rule i j t t' s _ _ ⟨.int (g i j),H,I.tok _,⟨_,rfl⟩,q⟩
theorem ZrL{f:Value->Value->Sem Value}{g:Int->Int->Bool}
  (rule:∀(i j:Int) (t u:Tok) (s:Shared) (Q:Value->Shared->Prop) (E:Value->Shared->Prop),Q (.bool (g i j)) s->wpAny (model X.prog X.w) X.A (f (.int i t) (.int j u)) Q E s):
  OpR X f (rI0 fun i j=> .bl (g i j)):=by
 intro pins s σ H x y v u Q I rx ry h;obtain⟨i,j,rfl,rfl,q⟩:=h;obtain⟨t,rfl⟩:=rx;obtain⟨t',rfl⟩:=ry;exact rule i j t t' s _ _ ⟨.bl (g i j),H,I,rfl,q⟩
def Ztu(i j:Int):Prop:=0<j/\j<1073741824
def ZsD(i j:Int):Prop:=0<=j/\j<=1000000/\i.natAbs<2^64
theorem XM:OpR X (binaryOp .Add) (rI0 fun i j=> .int (i+j)):=ZsC fun _ _ _ _ _ _ _ q=>add_int q
theorem ZoZ:OpR X (binaryOp .Sub) (rI0 fun i j=> .int (i-j)):=ZsC fun _ _ _ _ _ _ _ q=>sub_int q
theorem Yv:OpR X (binaryOp .FloorDiv) (rI Ztu fun i j=> .int (i/j)):=opI fun i j _ _ _ _ _ hc q=>by
 have h1:(0:Int)<j:=hc.1;have h2:j<1073741824:=hc.2;exact floordiv_int (by omega) (by rw[Int.fdiv_eq_ediv_of_nonneg i (by omega)];exact q) (.inl (PyProof.noPylong_small (by omega)))
theorem Yb:OpR X (binaryOp .Mod) (rI (fun _ j=>0<j) fun i j=> .int (i%j)):=opI fun i j _ _ _ _ _ hc q=>by
 have h1:(0:Int)<j:=hc;exact mod_int' (by omega) (by rw[Int.fmod_eq_emod_of_nonneg i (by omega)];exact q)
theorem Zp0:OpR X (binaryOp .Pow) (rI ZsD fun i j=> .int (i^j.toNat)):=opI fun _ _ _ _ _ _ _ hc q=>pow_int_small hc.1 hc.2.1 hc.2.2 q
theorem unI{f:Value->Sem Value}{g:Int->Int}
  (rule:∀(i:Int) (t:Tok) (s:Shared) (Q:Value->Shared->Prop) (E:Value->Shared->Prop),Q (.int (g i) s.toks) {s with toks:=s.toks+1}->wpAny (model X.prog X.w) X.A (f (.int i t)) Q E s):
  UnR X f (rU fun i=> .int (g i)):=by
 intro pins s σ H x v Q I rx h;obtain⟨i,rfl,q⟩:=h;obtain⟨t,rfl⟩:=rx;exact rule i t s _ _ ⟨.int (g i),H,I.tok _,⟨_,rfl⟩,q⟩
theorem Zky:UnR X (unaryOp .USub) (rU fun i=> .int (-i)):=unI fun _ _ _ _ _ q=>neg_int q
end
def Zqu:V->V->Bool
 | .non,.non=>true| .non,.int _=>true| .int _,.non=>true| .non,.bl _=>true| .bl _,.non=>true| .non,.str _=>true| .str _,.non=>true
 | .int _,.int _=>true| .bl _,.bl _=>true| .str _,.str _=>true| .byt _,.byt _=>true
 | .int _,.str _=>true| .str _,.int _=>true| .bl _,.str _=>true| .str _,.bl _=>true
 |_,_=>false
def rEq:R2:=fun x y H Q=>Zqu x y=true/\Q (.bl (decide (x=y))) H
def rNe:R2:=fun x y H Q=>Zqu x y=true/\Q (.bl (!decide (x=y))) H
theorem Znu{i j:Int}:decide (V.int i=V.int j)=(i==j):=by
 rw[Bool.eq_iff_iff];simp
theorem Zp1{i j:Bool}:decide (V.bl i=V.bl j)=(i==j):=by
 rw[Bool.eq_iff_iff];simp
theorem Znv{i j:Str}:decide (V.str i=V.str j)=(i==j):=by
 rw[Bool.eq_iff_iff];simp
theorem Znw{i j:Array UInt8}:decide (V.byt i=V.byt j)=(i.toList==j.toList):=by
 rw[Bool.eq_iff_iff];cases i;cases j;simp
section
variable {X:Cx} {a b c:Expr} {ta tb tc:TE} {pos:Pos}
theorem YD{pins:List (Addr×Obj)}{σ:St}{H:Hp}{s:Shared}{Q:VK}{k k':Bool}(I:Inv X pins σ H s)(q:Q (.bl k) H)(e:k=k'):EP X pins σ Q (.bool k') s:=by
 subst e;exact⟨.bl k,H,I,rfl,q⟩
theorem ZZ:OpR X (compareOp .Eq) rEq:=by
 intro pins s σ H x y v u Q I rx ry h;obtain⟨hs,q⟩:=h;cases x with
 |non=>
  cases rx;cases y with
  |non=>cases ry;exact PySem.EqNone.eq_none_none (YD I q (by simp))
  |bl j=>cases ry;exact PySem.EqNone.eq_none_bool (YD I q (by simp))
  |int j=>obtain⟨t',rfl⟩:=ry;exact PySem.EqNone.eq_none_int (YD I q (by simp))
  |str j=>obtain⟨t',rfl⟩:=ry;exact PySem.EqNone.eq_none_str (YD I q (by simp))
  |_=>exact absurd (show false=true from hs) Bool.false_ne_true
 |bl i=>
  cases rx;cases y with
  |non=>cases ry;exact PySem.EqNone.eq_bool_none (YD I q (by simp))
  |bl j=>cases ry;exact eq_bool (YD I q Zp1)
  |str j=>obtain⟨t',rfl⟩:=ry;exact PySem.EqMixed.eq_bool_str (YD I q (by simp))
  |_=>exact absurd (show false=true from hs) Bool.false_ne_true
 |int i=>
  obtain⟨t,rfl⟩:=rx;cases y with
  |non=>cases ry;exact PySem.EqNone.eq_int_none (YD I q (by simp))
  |int j=>obtain⟨t',rfl⟩:=ry;exact eq_int (YD I q Znu)
  |str j=>obtain⟨t',rfl⟩:=ry;exact PySem.EqMixed.eq_int_str (YD I q (by simp))
  |_=>exact absurd (show false=true from hs) Bool.false_ne_true
 |str i=>
  obtain⟨t,rfl⟩:=rx;cases y with
  |non=>cases ry;exact PySem.EqNone.eq_str_none (YD I q (by simp))
  |bl j=>cases ry;exact PySem.EqMixed.eq_str_bool (YD I q (by simp))
  |int j=>obtain⟨t',rfl⟩:=ry;exact PySem.EqMixed.eq_str_int (YD I q (by simp))
  |str j=>obtain⟨t',rfl⟩:=ry;exact eq_str (YD I q Znv)
  |_=>exact absurd (show false=true from hs) Bool.false_ne_true
 |byt i=>
  obtain⟨t,rfl⟩:=rx;cases y with
  |byt j=>obtain⟨t',rfl⟩:=ry;exact PySem.W.eq_bytes (YD I q Znw)
  |_=>exact absurd (show false=true from hs) Bool.false_ne_true
 |_=>cases y<;>exact absurd (show false=true from hs) Bool.false_ne_true
theorem Znx:OpR X (compareOp .NotEq) rNe:=by
 intro pins s σ H x y v u Q I rx ry h;obtain⟨hs,q⟩:=h;cases x with
 |non=>
  cases rx;cases y with
  |non=>cases ry;exact PySem.EqNone.ne_none_none (YD I q (by simp))
  |bl j=>cases ry;exact PySem.EqNone.ne_none_bool (YD I q (by simp))
  |int j=>obtain⟨t',rfl⟩:=ry;exact PySem.EqNone.ne_none_int (YD I q (by simp))
  |str j=>obtain⟨t',rfl⟩:=ry;exact PySem.EqNone.ne_none_str (YD I q (by simp))
  |_=>exact absurd (show false=true from hs) Bool.false_ne_true
 |bl i=>
  cases rx;cases y with
  |non=>cases ry;exact PySem.EqNone.ne_bool_none (YD I q (by simp))
  |bl j=>cases ry;exact ne_bool (YD I q (congrArg not Zp1))
  |str j=>obtain⟨t',rfl⟩:=ry;exact PySem.EqMixed.ne_bool_str (YD I q (by simp))
  |_=>exact absurd (show false=true from hs) Bool.false_ne_true
 |int i=>
  obtain⟨t,rfl⟩:=rx;cases y with
  |non=>cases ry;exact PySem.EqNone.ne_int_none (YD I q (by simp))
  |int j=>obtain⟨t',rfl⟩:=ry;exact ne_int (YD I q (congrArg not Znu))
  |str j=>obtain⟨t',rfl⟩:=ry;exact PySem.EqMixed.ne_int_str (YD I q (by simp))
  |_=>exact absurd (show false=true from hs) Bool.false_ne_true
 |str i=>
  obtain⟨t,rfl⟩:=rx;cases y with
  |non=>cases ry;exact PySem.EqNone.ne_str_none (YD I q (by simp))
  |bl j=>cases ry;exact PySem.EqMixed.ne_str_bool (YD I q (by simp))
  |int j=>obtain⟨t',rfl⟩:=ry;exact PySem.EqMixed.ne_str_int (YD I q (by simp))
  |str j=>obtain⟨t',rfl⟩:=ry;exact ne_str (YD I q (congrArg not Znv))
  |_=>exact absurd (show false=true from hs) Bool.false_ne_true
 |byt i=>
  obtain⟨t,rfl⟩:=rx;cases y with
  |byt j=>obtain⟨t',rfl⟩:=ry;exact PySem.W.ne_bytes (YD I q (congrArg not Znw))
  |_=>exact absurd (show false=true from hs) Bool.false_ne_true
 |_=>cases y<;>exact absurd (show false=true from hs) Bool.false_ne_true
theorem Ze9:OpR X (compareOp .Lt) (rI0 fun i j=> .bl (decide (i<j))):=ZrL fun _ _ _ _ _ _ _ q=>lt_int q
theorem ZlI:OpR X (compareOp .LtE) (rI0 fun i j=> .bl (decide (i<=j))):=ZrL fun _ _ _ _ _ _ _ q=>le_int q
theorem Zhh:OpR X (compareOp .Gt) (rI0 fun i j=> .bl (decide (j<i))):=ZrL fun _ _ _ _ _ _ _ q=>gt_int q
theorem ZbV:OpR X (compareOp .Is) (fun x y H Q=>y=.non/\Q (.bl (decide (x=.non))) H):=by
 intro pins s σ H x y v u Q I rx ry h;obtain⟨rfl,q⟩:=h;cases ry;refine is_none_gen (YD I q ?_);cases x<;>first
  |(cases rx;rfl)
  |(obtain⟨t,rfl⟩:=rx;rfl)
theorem ZhQ:OpR X (compareOp .IsNot) (fun x y H Q=>y=.non/\Q (.bl (!decide (x=.non))) H):=by
 intro pins s σ H x y v u Q I rx ry h;obtain⟨rfl,q⟩:=h;cases ry;refine isnot_none_gen (YD I q ?_);cases x<;>first
  |(cases rx;rfl)
  |(obtain⟨t,rfl⟩:=rx;rfl)
theorem Zt(b:Expr){op:CmpOp}(h:op≠.In:=by decide)(h2:op≠.NotIn:=by decide):behindInMarks op b=false:=by
 have e1:(op==CmpOp.In)=false:=by cases op<;>first|rfl|exact absurd rfl h
 have e2:(op==CmpOp.NotIn)=false:=by cases op<;>first|rfl|exact absurd rfl h2
 cases b<;>simp[behindInMarks,e1,e2]
theorem Jz{op:CmpOp}{r:R2}(ho:OpR X (compareOp op) r)(ha:PE X a ta)(hb:PE X b tb)(hm:behindInMarks op b=false):PE X (.Compare a [op] [b] pos) (tOp r ta tb):=by
 intro pins s σ H Q I h;exact wpAny_Compare1 (ZrK ha hb I h fun v u s2 x y H2 I2 rx ry q=>ho pins s2 σ H2 x y v u Q I2 rx ry q) hm
def Zri(t:TE):TT:=fun σ H Q=>t σ H fun x H'=>∃k,x=.bl k/\Q k H'
theorem Zq{op:CmpOp}{r:R2}(ho:OpR X (compareOp op) r)(ha:PE X a ta)(hb:PE X b tb)(hm:behindInMarks op b=false):PT X (.Compare a [op] [b] pos) (Zri (tOp r ta tb)):=by
 intro pins s σ H Q I h;refine wpAny_isTrue_Compare1 (thn (ha pins s σ H _ I h) fun v s1 ⟨x,H1,I1,r1,q1⟩=>thn (hb pins s1 σ H1 _ I1 q1) fun u s2 ⟨y,H2,I2,r2,q2⟩=>
  thn (ho pins s2 σ H2 x y v u _ I2 r1 r2 q2) fun c s3 ⟨z,H3,I3,r3,k,e,q3⟩=> ?_) hm
 subst e;cases r3;exact wpAny_truthy_bool ⟨H3,I3,q3⟩
theorem Zkz:(sizeLine:Nat)<2^63:=by rw[sizeLine_eq];decide
theorem Zff:OpR X (binaryOp .Add) (fun x y H Q=>∃i j,x=.str i/\y=.str j/\i.length+j.length<=sizeLine/\Q (.str (i++j)) H):=by
 intro pins s σ H x y v u Q I rx ry h;obtain⟨i,j,rfl,rfl,hz,q⟩:=h;obtain⟨t,rfl⟩:=rx;obtain⟨t',rfl⟩:=ry;exact add_str (fun t' tk=>⟨.str (i++j),H,I.tok _,⟨_,rfl⟩,q⟩) hz
theorem Zcn{x:V}{us:List Value}(r:Yl [x] us):∃u,us=[u]/\Ye x u:=by
 cases r with
 |cons r1 r2=>cases r2;exact⟨_,rfl,r1⟩
theorem Zp2{x y:V}{us:List Value}(r:Yl [x,y] us):∃u w',us=[u,w']/\Ye x u/\Ye y w':=by
 cases r with
 |cons r1 r2=>
  cases r2 with
  |cons r3 r4=>cases r4;exact⟨_,_,rfl,r1,r3⟩
theorem Zie:Zb6 X (.builtin "abs") (fun xs H Q=>∃i,xs=[.int i]/\Q (.int (if i<0 then-i else i)) H):=by
 intro pins s σ H xs us Q I r h;obtain⟨i,rfl,q⟩:=h;obtain⟨u,rfl,t,rfl⟩:=Zcn r;exact call_abs_int fun u tk=>⟨.int (if i<0 then-i else i),H,I.tok _,⟨_,rfl⟩,q⟩
theorem Zgv(hc:X.calm=true):Zb6 X (.builtin "max") (fun xs H Q=>∃i j,xs=[.int i,.int j]/\Q (.int (if j>i then j else i)) H):=by
 intro pins s σ H xs us Q I r h;obtain⟨i,j,rfl,q⟩:=h;obtain⟨u,w',rfl,⟨t,rfl⟩,⟨t',rfl⟩⟩:=Zp2 r;refine max_two_ints (I.ok.hd hc) fun h' tk k=>⟨_,H,I.kept k, ?_,q⟩
 by_cases hj:j>i
 ·rw[if_pos hj,if_pos hj];exact⟨_,rfl⟩
 ·rw[if_neg hj,if_neg hj];exact⟨_,rfl⟩
theorem Zo9(hc:X.calm=true):Zb6 X (.builtin "min") (fun xs H Q=>∃i j,xs=[.int i,.int j]/\Q (.int (if j<i then j else i)) H):=by
 intro pins s σ H xs us Q I r h;obtain⟨i,j,rfl,q⟩:=h;obtain⟨u,w',rfl,⟨t,rfl⟩,⟨t',rfl⟩⟩:=Zp2 r;refine min_two_ints (I.ok.hd hc) fun h' tk k=>⟨_,H,I.kept k, ?_,q⟩
 by_cases hj:j<i
 ·rw[if_pos hj,if_pos hj];exact⟨_,rfl⟩
 ·rw[if_neg hj,if_neg hj];exact⟨_,rfl⟩
theorem ZcZ:Zb6 X (.type "int") (fun xs H Q=>(∃i,xs=[.int i]/\Q (.int i) H)\/∃k,xs=[.bl k]/\Q (.int (if k then 1 else 0)) H):=by
 intro pins s σ H xs us Q I r h;rcases h with ⟨i,rfl,q⟩|⟨k,rfl,q⟩
 ·obtain⟨u,rfl,t,rfl⟩:=Zcn r;exact call_int_int ⟨.int i,H,I,⟨_,rfl⟩,q⟩
 ·obtain⟨u,rfl,r1⟩:=Zcn r;cases r1;exact call_int_bool ⟨.int (if k then 1 else 0),H,I.tok _,⟨_,rfl⟩,q⟩
def Ztv(K:PySem.W.Frag)(x:V)(H:Hp)(n:Nat):Prop:=
 match x with
 | .str y=>y.length<=sizeLine/\n=y.length
 | .byt y=>y.size<=sizeLine/\n=y.size
 | .ref p=>(∃xs,SqL K H p xs/\n=xs.length)\/∃xs,SqT K H p xs/\n=xs.length
 |_=>False
theorem Js:Zb6 X (.builtin "len") (fun xs H Q=>∃x n,xs=[x]/\Ztv X.K x H n/\Q (.int n) H):=by
 intro pins s σ H xs us Q I r h;obtain⟨x,n,rfl,e,q⟩:=h;obtain⟨u,rfl,rx⟩:=Zcn r;have hl:=Zkz;have hs:sizeLine=16777216:=sizeLine_eq;cases x with
 |str y=>
  obtain⟨t,rfl⟩:=rx;obtain⟨hy,e'⟩:y.length<=sizeLine/\n=y.length:=e;subst e';exact len_str (by omega) ⟨.int _,H,I.tok _,⟨_,rfl⟩,q⟩
 |byt y=>
  obtain⟨t,rfl⟩:=rx;obtain⟨hy,e'⟩:y.size<=sizeLine/\n=y.size:=e;subst e';exact PySem.W.len_bytes (by omega) ⟨.int _,H,I.tok _,⟨_,rfl⟩,q⟩
 |ref p=>
  cases rx;have e':(∃xs,SqL X.K H p xs/\n=xs.length)\/∃xs,SqT X.K H p xs/\n=xs.length:=e;rcases e' with ⟨xs,hx,e'⟩|⟨xs,hx,e'⟩
  ·subst e';obtain⟨its,r',pl,hz⟩:=I.list hx;have hlen:=r'.length;exact Calls.call_len_list pl.isList (by simp only [List.size_toArray];omega) ⟨.int xs.length,H,I.tok _,⟨_,by simp only [List.size_toArray];rw[hlen]⟩,q⟩
  ·subst e';obtain⟨its,r',pl,hz⟩:=I.tuple hx;have hlen:=r'.length;exact len_tuple pl (by simp only [List.size_toArray];omega) ⟨.int xs.length,H,I.tok _,⟨_,by simp only [List.size_toArray];rw[hlen]⟩,q⟩
 |_=>exact(show False from e).elim
end
end L2
namespace L2
open PySem PySem.Spec PyProof.Rows
structure Zmw (h:Heap) (x dx C:Addr) (mA:Str->Option Value):Prop where
 obj:h.get? x=some (PySem.W.instObj C dx)
 ns:h.Ns1 dx mA
 ne:dx≠x
theorem Zoa{h:Heap}{dx:Addr}{mA:Str->Option Value}(n:h.Ns1 dx mA):∃od,h.get? dx=some od/\∀name,PySem.W.lookIn name od=some (mA name):=by
 obtain⟨o,es,ep,ho,hd,hk,_,hm⟩:=n;refine⟨o,ho,fun name=> ?_⟩;have e:=hm name;unfold nsFind findBy at e
 rw[<-Array.find?_toList] at e
 unfold PySem.W.lookIn;rw[hd]
 dsimp only
 split
 ·rename_i y q
  rw[q] at e
  exact congrArg some e
 ·rename_i q
  rw[q] at e
  have a:es.toList.any (·.refKey)=false:=by
   rw[List.any_eq_false];intro y hy;obtain⟨z,t,hkey⟩:=hk y (Array.mem_toList_iff.mp hy);simp[DictEntry.refKey,hkey]
  have a':¬es.toList.any (·.refKey)=true:=by rw[a];exact Bool.false_ne_true
  rw[if_neg a'];exact congrArg some e
theorem Zmw.look{h:Heap}{x dx C:Addr}{mA:Str->Option Value}(I:Zmw h x dx C mA):∃od,PySem.W.InstAt h x (PySem.W.instObj C dx) C (some od)/\∀name,PySem.W.lookIn name od=some (mA name):=
 let ⟨od,ho,hl⟩:=Zoa I.ns
 ⟨od,⟨I.obj,rfl,rfl,ho⟩,hl⟩
section
variable {prog:Program} {w:World} {A:Around} {E:Value->Shared->Prop} {s:Shared} {K:PySem.W.Frag} {x dx C f:Addr} {mA:Str->Option Value} {name:Str} {v:Value}
theorem Zqv{expr:Bool}{Q:Value->Shared->Prop}(X:K.In s.heap)(I:Zmw s.heap x dx C mA)(hg:PySem.W.plainGet K C name=true)(hh:PySem.W.hasDictIn K C=true)
  (ha:PySem.W.findIn K (.ref C) name=some none)(hv:mA name=some v)(hv':PySem.W.handedIn v=true)(h:Q v {s with toks:=s.toks+1}):
  wpAny (model prog w) A (getAttr (.ref x) name expr) Q E s:=by
 obtain⟨od,J,hl⟩:=I.look;exact PySem.W.get_value X J (PySem.W.plainGet_of hg).1 (PySem.W.findObj_own hh ha rfl (by rw[hl,hv])) hv' h
theorem Zp3{pl:Sem Bool}{Q:Value×List Value->Shared->Prop}(X:K.In s.heap)(I:Zmw s.heap x dx C mA)(hg:PySem.W.plainGet K C name=true)
  (hf:PySem.W.findIn K (.ref C) name=some (some (.ref f)))(ht:PySem.W.isFn K (.ref f)=true)(hv:mA name=none)(h:Q (.ref f,[.ref x]) s):
  wpAny (model prog w) A (getMethod (.ref x) name pl) Q E s:=by
 obtain⟨od,J,hl⟩:=I.look;exact PySem.W.method_fn X J (PySem.W.plainGet_of hg).1 (PySem.W.plainGet_of hg).2 hf (beq_iff_eq.mp ht) (by show(PySem.W.lookIn name od).map (·.isSome)=some false;rw[hl,hv];rfl) h
theorem Zqw{ns:List Str}{Q:Unit->Shared->Prop}(X:K.In s.heap)(I:Zmw s.heap x dx C mA)
  (hs:PySem.W.findIn K (.ref C) "__setattr__"=some (some (.builtin "object.__setattr__")))(hp:PySem.W.plainOver K C=true)(ht:PySem.W.takerIn K C name=some none)(hh:PySem.W.hasDictIn K C=true)
  (hw:PySem.Within mA ns)(hsz:ns.length<=sizeLine)
  (h:∀h',Zmw h' x dx C (fun y=>if y=name then some v else mA y)->Heap.SameBut dx s.heap h'->Q () {s with heap:=h',toks:=s.toks+2}):
  wpAny (model prog w) A (setAttr (.ref x) name v) Q E s:=by
 obtain⟨od,J,hl⟩:=I.look;refine PySem.W.set_plain X J hs (PySem.W.osa_open (s:={s with toks:=s.toks+1}) (r:=none) X J hp ht fun b=> ?_);obtain⟨cd,hc,hd'⟩:=PySem.W.any_some hh;have hx:s.heap.get? x=some ⟨.ref C,some dx,.plain, #[]⟩:=I.obj;refine wpAny_bind (wpAny_pure (wpAny_bind (wpAny_bind (wpAny_loadPart hx (wpAny_bind (PySem.W.Looks.here (s:={s with toks:=s.toks+1}) (PySem.W.looks_clsIn X hc) ?_))))))
 rw[hd'];refine wpAny_pure (a:=some dx) (wpAny_bind (wpAny_pure (wpAny_bind ?_)));refine wpAny_nsSet1 (s:={s with toks:=s.toks+1}) I.ns fun h' hn2 hs2=> ?_;obtain⟨oD,esD,epD,hoD,hdD,hcD⟩:=hn2.count (PySem.Within.cons name v hw);refine wpAny_bind (wpAny_lookBehind hoD (by rw[hdD];exact pastItsLine_dict (Nat.le_trans hcD (by rw[List.length_cons];omega))) ?_)
 exact wpAny_pure (h _ ⟨(hs2.2 _ (Ne.symm I.ne)).trans I.obj,hn2,I.ne⟩ hs2)
theorem Zp4{R:Result->Shared->Prop}{vs:List Value}{kw:List (Str×Value)}(X:K.In s.heap)(hm:PySem.W.makesIn K C=true)
  (hi:PySem.W.findIn K (.ref C) "__init__"=some (some (.ref f)))(hf:PySem.W.typeIn K (.ref f)=some (.type "function"))
  (h:codeAny (model prog w) (A.under (.builtin "type.__call__" ⟨.ref C::vs,kw⟩)) (.call (.ref f) ⟨.ref (s.heap.objs.size+1)::vs,kw⟩) (PySem.W.InitBack (s.heap.objs.size+1) R)
   {s with heap:=(s.heap.push PySem.W.emptyDict).push (PySem.W.instObj C s.heap.objs.size)}):
  codeAny (model prog w) A (.call (.ref C) ⟨vs,kw⟩) R s:=by
 obtain⟨hh,g,d,t,os⟩:=s;exact PySem.W.make_core (PySem.W.makes_of X hm) (PySem.W.looks_findIn X hi) (fun self=>PySem.W.bind_fn X self hf) (.inl rfl) h
end
def ZP(f:Str)(v:V):List (Str×V)->List (Str×V)
 |[]=>[(f,v)]
 |(g,x)::r=>if g=f then(g,v)::r else(g,x)::ZP f v r
theorem Zv(f g:Str)(v:V):∀fs:List (Str×V),(ZP f v fs).lookup g=if g=f then some v else fs.lookup g
 |[]=>by
  show List.lookup g [(f,v)]=_
  by_cases h:g=f
  ·have hb:(g==f)=true:=beq_iff_eq.mpr h;simp only [List.lookup,hb,if_pos h]
  ·have hb:(g==f)=false:=beq_eq_false_iff_ne.mpr h;simp only [List.lookup,hb,if_neg h]
 |(k,x)::r=>by
  have ih:=Zv f g v r;rw[show ZP f v ((k,x)::r)=(if k=f then(k,v)::r else(k,x)::ZP f v r) from rfl]
  by_cases hk:k=f
  ·rw[if_pos hk]
   by_cases h:g=k
   ·have hb:(g==k)=true:=beq_iff_eq.mpr h;simp only [List.lookup,hb,if_pos (h.trans hk)]
   ·have hb:(g==k)=false:=beq_eq_false_iff_ne.mpr h;simp only [List.lookup,hb,if_neg (fun e:g=f=>h (e.trans hk.symm))]
  ·rw[if_neg hk]
   by_cases h:g=k
   ·have hb:(g==k)=true:=beq_iff_eq.mpr h;simp only [List.lookup,hb,if_neg (fun e:g=f=>hk (h.symm.trans e))]
   ·have hb:(g==k)=false:=beq_eq_false_iff_ne.mpr h;simp only [List.lookup,hb];exact ih
theorem Zgw(f:Str)(v:V):∀fs:List (Str×V),f∈(ZP f v fs).map (·.1)/\∀g,g∈fs.map (·.1)->g∈(ZP f v fs).map (·.1)
 |[]=>⟨by simp[ZP],fun g h=>by simp at h⟩
 |(k,x)::r=>by
  obtain⟨i1,i2⟩:=Zgw f v r;rw[show ZP f v ((k,x)::r)=(if k=f then(k,v)::r else(k,x)::ZP f v r) from rfl]
  by_cases hk:k=f
  ·rw[if_pos hk];subst hk;exact⟨by simp,fun g h=>by simpa using h⟩
  ·rw[if_neg hk];refine⟨?_,fun g h=> ?_⟩
   ·rw[List.map_cons];exact List.mem_cons_of_mem _ i1
   ·rw[List.map_cons] at h⊢
    rcases List.mem_cons.mp h with e|e
    ·exact List.mem_cons.mpr (.inl e)
    ·exact List.mem_cons_of_mem _ (i2 g e)
theorem Zhi(f:Str)(v:V):∀fs:List (Str×V),(ZP f v fs).length<=fs.length+1
 |[]=>by simp[ZP]
 |(k,x)::r=>by
  have ih:=Zhi f v r;rw[show ZP f v ((k,x)::r)=(if k=f then(k,v)::r else(k,x)::ZP f v r) from rfl]
  by_cases hk:k=f
  ·rw[if_pos hk,List.length_cons,List.length_cons];omega
  ·rw[if_neg hk,List.length_cons,List.length_cons];omega
theorem Zdn.some_of{v:V}{o:Option Value}(r:Zdn (some v) o):∃u,o=some u/\Ye v u:=by
 cases o with
 |none=>exact(show False from r).elim
 |some u=>exact⟨u,rfl,r⟩
theorem Zdn.none_of{o:Option Value}(r:Zdn none o):o=none:=by
 cases o with
 |none=>rfl
 |some u=>exact(show False from r).elim
theorem Zob{v:V}{u:Value}(r:Ye v u):PySem.W.handedIn u=true:=by
 cases v with
 |non=>cases(show u=Value.none from r);rfl
 |bl b=>cases(show u=Value.bool b from r);rfl
 |int i=>obtain⟨t,e⟩:=(show∃t,u=Value.int i t from r);cases e;rfl
 |str x=>obtain⟨t,e⟩:=(show∃t,u=Value.str x t from r);cases e;rfl
 |byt b=>obtain⟨t,e⟩:=(show∃t,u=Value.bytes b t from r);cases e;rfl
 |flt b=>obtain⟨t,e⟩:=(show∃t,u=Value.float b t from r);cases e;rfl
 |ref a=>cases(show u=Value.ref a from r);rfl
 |ty n=>cases(show u=Value.type n from r);rfl
section
variable {P:Program} {w:World} {H H':Hp} {h h':Heap} {a C dx:Addr} {fs fs':List (Str×V)}
theorem ZhR(hok:HOk P w H h)(e:H a=some (.ins C dx fs)):∃mA,Zmw h a dx C mA/\(∀f,Zdn (fs.lookup f) (mA f))/\PySem.Within mA (fs.map (·.1))/\fs.length<=1000/\H dx=some (.own a):=by
 obtain⟨d,z,ne,ob,mA,n,r,q⟩:=(show Xu P w H h a (.ins C dx fs) from hok a _ e)
 exact⟨mA,⟨ob,n,ne⟩,r,q,z,d⟩
end
structure Cls (K:PySem.W.Frag) (C:Addr):Prop where
 pg:PySem.W.plainGet K C Str.empty=true
 hd:PySem.W.hasDictIn K C=true
 po:PySem.W.plainOver K C=true
 sa:PySem.W.findIn K (.ref C) "__setattr__"=some (some (.builtin "object.__setattr__"))
theorem Cls.get{K:PySem.W.Frag}{C:Addr}(c:Cls K C)(f:Str):PySem.W.plainGet K C f=true:=c.pg
def YS(K:PySem.W.Frag)(C:Addr)(f:Str):Prop:=PySem.W.findIn K (.ref C) f=some none
theorem YS.taker{K:PySem.W.Frag}{C:Addr}{f:Str}(n:YS K C f):PySem.W.takerIn K C f=some none:=by
 unfold PySem.W.takerIn;rw[show PySem.W.findIn K (.ref C) f=some none from n]
 rfl
structure ZsE (K:PySem.W.Frag) (C:Addr) (m:Str) (f:Addr):Prop where
 at_:PySem.W.findIn K (.ref C) m=some (some (.ref f))
 fn:PySem.W.isFn K (.ref f)=true
 kp:PySem.W.keepIn K (.ref f)=true
section
variable {X:Cx} {pins:List (Addr×Obj)} {σ:St} {H:Hp} {s:Shared} {a C dx:Addr} {fs:List (Str×V)} {f:Str} {v:V} {A:Around} {E:Value->Shared->Prop}
theorem Zmx{b:Bool}{Q:Value->Shared->Prop}(I:Inv X pins σ H s)(e:H a=some (.ins C dx fs))(c:Cls X.K C)(n:YS X.K C f)(l:fs.lookup f=some v)
  (h:∀u s',Inv X pins σ H s'->Ye v u->Q u s'):wpAny (model X.prog X.w) A (getAttr (.ref a) f b) Q E s:=by
 obtain⟨mA,O,r,_,_,_⟩:=ZhR I.hok e;obtain⟨u,hu,ru⟩:=Zdn.some_of (v:=v) (o:=mA f) (by rw[<-l];exact r f)
 exact Zqv I.kIn O (c.get f) c.hd n hu (Zob ru) (h u _ (I.tok _) ru)
theorem Zif{m:Str}{g:Addr}{pl:Sem Bool}{Q:Value×List Value->Shared->Prop}(I:Inv X pins σ H s)(e:H a=some (.ins C dx fs))(c:Cls X.K C)(k:ZsE X.K C m g)(l:fs.lookup m=none)
  (h:Q (.ref g,[.ref a]) s):wpAny (model X.prog X.w) A (getMethod (.ref a) m pl) Q E s:=by
 obtain⟨mA,O,r,_,_,_⟩:=ZhR I.hok e;have hn:mA m=none:=Zdn.none_of (by rw[<-l];exact r m)
 exact Zp3 I.kIn O (c.get m) k.at_ k.fn hn h
theorem Zmy{y:V}{u:Value}{Q:Unit->Shared->Prop}(I:Inv X pins σ H s)(e:H a=some (.ins C dx fs))(c:Cls X.K C)(n:YS X.K C f)(hl:fs.length<1000)(ry:Ye y u)
  (h:∀s',Inv X pins σ (upd H a (.ins C dx (ZP f y fs))) s'->Q () s'):wpAny (model X.prog X.w) A (setAttr (.ref a) f u) Q E s:=by
 obtain⟨mA,O,r,wi,_,ho⟩:=ZhR I.hok e;have hz:(fs.map (·.1)).length<=sizeLine:=by rw[List.length_map,sizeLine_eq];omega
 refine Zqw I.kIn O c.sa c.po n.taker c.hd wi hz fun h' O' sb=>h _ ?_;have hd:∃o,h'.get? dx=some o:=let ⟨o,_,_,e',_⟩:=O'.ns;⟨o,e'⟩;refine I.write (x:=a) (e:=dx) (by rw[e];exact True.intro) (.inr ho) (fun b q hb z=>(sb.2 b hb).trans z) hd ?_
 refine⟨by rw[Zm O.ne];exact ho, ?_,O.ne,O'.obj,_,O'.ns,fun g=> ?_,fun g hg=> ?_⟩
 ·have:=Zhi f y fs;omega
 ·show Zdn ((ZP f y fs).lookup g) (if g=f then some u else mA g);rw[Zv]
  by_cases q:g=f
  ·rw[if_pos q,if_pos q];exact ry
  ·rw[if_neg q,if_neg q];exact r g
 ·by_cases q:g=f
  ·rw[q];exact(Zgw f y fs).1
  ·refine(Zgw f y fs).2 g (wi g fun z=>hg ?_);show(if g=f then some u else mA g)=none;rw[if_neg q];exact z
theorem Inv.made(I:Inv X pins σ H s):Inv X pins σ (upd (upd H s.heap.objs.size (.own (s.heap.objs.size+1))) (s.heap.objs.size+1) (.ins C s.heap.objs.size []))
  {s with heap:=(s.heap.push PySem.W.emptyDict).push (PySem.W.instObj C s.heap.objs.size)}:=by
 have e1:(s.heap.push PySem.W.emptyDict).get? s.heap.objs.size=some PySem.W.emptyDict:=Heap.get?_push_size s.heap rfl;have e2:((s.heap.push PySem.W.emptyDict).push (PySem.W.instObj C s.heap.objs.size)).get? (s.heap.objs.size+1)=some (PySem.W.instObj C s.heap.objs.size):=by
  have:=Heap.get?_push_size (s.heap.push PySem.W.emptyDict) (o:=PySem.W.instObj C s.heap.objs.size) rfl
  rwa [Heap.size_push] at this
 have e3:(s.heap.push PySem.W.emptyDict).Ns s.heap.objs.size (fun _=>none):=⟨PySem.W.emptyDict, #[],_,e1,rfl,(fun e he=>absurd he (by simp)),fun _=>rfl⟩
 have I1:=I.laid (a:=s.heap.objs.size) (o:=.own (s.heap.objs.size+1)) (h':=s.heap.push PySem.W.emptyDict) (t':=s.toks) (fun b u q=>Heap.get?_push_of_some _ q) (Nat.le_refl _) ⟨_,e1⟩;refine I1.laid (a:=s.heap.objs.size+1) (o:=.ins C s.heap.objs.size []) (t':=s.toks) (fun b u q=>Heap.get?_push_of_some _ q) (Nat.le_of_eq (Heap.size_push _ _)) ?_;have ne:s.heap.objs.size≠s.heap.objs.size+1:=Nat.ne_of_lt (Nat.lt_succ_self _)
 refine⟨by rw[Zm ne,Zc],Nat.zero_le _,ne,e2,fun _=>none,(Heap.Ns1.of_empty e3).at fun o q=>Heap.get?_push_of_some _ q,fun _=>True.intro,fun y hy=>absurd rfl hy⟩
theorem Zqx{prog:Program}{w:World}{env:Env}{e:Expr}{f:Str}{pos:Pos}{s:Shared}{Q:Value->Shared->Prop}(hb:attributeBase e f env (eval e env)=eval e env)
  (h:wpAny (model prog w) A (eval e env) (fun o s₁=>wpAny (model prog w) A (getAttr o f true) Q E s₁) E s):wpAny (model prog w) A (eval (.Attribute e f pos) env) Q E s:=
 Attribute_any_ h (by rw[arm_eval_Attribute,hb])
end
def ZrM(K:PySem.W.Frag)(ta:TE)(f:Str):TE:=fun σ H Q=>ta σ H fun x H1=>∃a C dx fs v,x=.ref a/\H1 a=some (.ins C dx fs)/\Cls K C/\YS K C f/\fs.lookup f=some v/\Q v H1
def Ztw(K:PySem.W.Frag)(ta tv:TE)(f:Str):TS:=fun D σ H=>tv σ H fun y H1=>ta σ H1 fun x H2=>∃a C dx fs,x=.ref a/\H2 a=some (.ins C dx fs)/\Cls K C/\YS K C f/\fs.length<1000/\
 D.nx σ (upd H2 a (.ins C dx (ZP f y fs)))
section
variable {X:Cx} {o e value:Expr} {f:Str} {pos pos' tpos:Pos} {ta tv:TE}
theorem Yi(he:PE X e ta)(hb:attributeBase e f X.env (eval e X.env)=eval e X.env):PE X (.Attribute e f pos) (ZrM X.K ta f):=by
 intro pins s σ H Q I h;refine Zqx hb (thn (he pins s σ H _ I h) fun u s1 ⟨x,H1,I1,rx,a,C,dx,fs,v,ex,ea,c,n,l,q⟩=> ?_);subst ex;obtain rfl:u=Value.ref a:=rx;exact Zmx I1 ea c n l fun u' s2 I2 ru=>⟨v,H1,I2,ru,q⟩
theorem ZbW(ha:PE X o ta)(hv:PE X value tv)(hs:swapsWith value (some (.Attribute o f pos')) pos.line X.env=pure false):PS X (.Assign [.Attribute o f pos'] value pos) (Ztw X.K ta tv f):=by
 intro pins s σ H D I h;refine plainObj_wpAny_Assign_Attribute (thn (hv pins s σ H _ I h) fun u s1 ⟨y,H1,I1,ry,q⟩=>thn (ha pins s1 σ H1 _ I1 q) fun ov s2 ⟨x,H2,I2,rx,a,C,dx,fs,ex,ea,c,n,l,q2⟩=> ?_) hs;subst ex;obtain rfl:ov=Value.ref a:=rx;exact Zmy I2 ea c n l ry fun s3 I3=>⟨σ,_,I3,q2⟩
end
section
variable {X:Cx} {pins:List (Addr×Obj)} {σ:St} {H:Hp} {s:Shared} {A:Around} {E:Value->Shared->Prop} {Q:Value->Shared->Prop} {c:Value} {b:Bool}
inductive Zdr (K:PySem.W.Frag) (H:Hp):V->Value->Prop where
 |non:Zdr K H .non (.type "NoneType")
 |bl (x:Bool):Zdr K H (.bl x) (.type "bool")
 |int (i:Int):Zdr K H (.int i) (.type "int")
 |str (x:Str):Zdr K H (.str x) (.type "str")
 |flt (x:UInt64):Zdr K H (.flt x) (.type "float")
 |lst {a:Addr} {xs:List V} (e:H a=some (.lst xs)):Zdr K H (.ref a) (.type "list")
 |frz {a:Addr} {o:Obj} {xs:List V} (e:H a=some (.frz o (.lst xs))):Zdr K H (.ref a) (.type "list")
 |tup {a:Addr} {xs:List V} (e:H a=some (.tup xs)):Zdr K H (.ref a) (.type "tuple")
 |dK {a:Addr} {kvs:List (Key×V)} (e:H a=some (.dK kvs)):Zdr K H (.ref a) (.type "dict")
 |dT {a:Addr} {kvs:List (List Key×V)} (e:H a=some (.dT kvs)):Zdr K H (.ref a) (.type "dict")
 |ins {a C dx:Addr} {fs:List (Str×V)} (e:H a=some (.ins C dx fs)) (cl:Cls K C) (ha:PySem.W.findIn K (.ref C) "__class__"=some (some (.builtin "object.__class__")))
   (hn:PySem.W.specialIn K (.builtin "object.__class__") "__get__"=some (some (.builtin "getset_descriptor.__get__"))) (htk:PySem.W.takesIn K (.builtin "object.__class__")=some true)
   (hm:PySem.W.mroIn K C (.type "object")=some true):Zdr K H (.ref a) (.ref C)
theorem Zoc{x:V}{u t:Value}(I:Inv X pins σ H s)(rx:Ye x u)(ty:Zdr X.K H x t)(e:PySem.W.kitOne X.K t c=some b)(h:∀tk,Q (.bool b) {s with toks:=tk}):
  wpAny (model X.prog X.w) A (call (.builtin "isinstance") [u,c]) Q E s:=by
 cases ty with
 |non=>cases(show u=Value.none from rx);exact PySem.W.kia_one PySem.W.kitx_none I.kIn True.intro e (fun z=>nomatch z) h
 |bl y=>cases(show u=Value.bool y from rx);exact PySem.W.kia_one PySem.W.kitx_bool I.kIn True.intro e (fun z=>nomatch z) h
 |int i=>obtain⟨t,q⟩:=(show∃t,u=Value.int i t from rx);cases q;exact PySem.W.kia_one PySem.W.kitx_int I.kIn True.intro e (fun z=>nomatch z) h
 |str y=>obtain⟨t,q⟩:=(show∃t,u=Value.str y t from rx);cases q;exact PySem.W.kia_one PySem.W.kitx_str I.kIn True.intro e (fun z=>nomatch z) h
 |flt y=>obtain⟨t,q⟩:=(show∃t,u=Value.float y t from rx);cases q;exact PySem.W.kia_one PySem.W.kitx_float I.kIn True.intro e (fun z=>nomatch z) h
 | @lst a xs ea=>
  cases(show u=Value.ref a from rx);obtain⟨_,_,n,_,h1⟩:=(show Xu X.prog X.w H s.heap a (.lst xs) from I.hok a _ ea)
  exact PySem.W.kia_one PySem.W.kitx_list I.kIn ⟨_,h1,rfl⟩ e (fun z=>nomatch z) h
 | @frz a ob xs ea=>
  cases(show u=Value.ref a from rx);obtain⟨_,_,_,n,_,h1⟩:=(show Xu X.prog X.w H s.heap a (.frz ob (.lst xs)) from I.hok a _ ea)
  exact PySem.W.kia_one PySem.W.kitx_list I.kIn ⟨_,h1,rfl⟩ e (fun z=>nomatch z) h
 | @tup a xs ea=>
  cases(show u=Value.ref a from rx);obtain⟨_,_,_,p⟩:=(show Xu X.prog X.w H s.heap a (.tup xs) from I.hok a _ ea)
  obtain⟨o,h1,h2,_⟩:=p;exact PySem.W.kia_one PySem.W.kitx_tuple I.kIn ⟨o,h1,h2⟩ e (fun z=>nomatch z) h
 | @dK a kvs ea=>
  cases(show u=Value.ref a from rx);obtain⟨_,_,vs,_,p⟩:=(show Xu X.prog X.w H s.heap a (.dK kvs) from I.hok a _ ea)
  obtain⟨o,es,ep,h1,h2,_⟩:=p;exact PySem.W.kia_one PySem.W.kitx_dict I.kIn ⟨o,h1,h2.1⟩ e (fun z=>nomatch z) h
 | @dT a kvs ea=>
  cases(show u=Value.ref a from rx);obtain⟨_,_,xs,_,o,es,ep,h1,h2,_⟩:=(show Xu X.prog X.w H s.heap a (.dT kvs) from I.hok a _ ea)
  exact PySem.W.kia_one PySem.W.kitx_dict I.kIn ⟨o,h1,h2.1⟩ e (fun z=>nomatch z) h
 | @ins a C dx fs ea cl ha hn htk hm=>
  cases(show u=Value.ref a from rx);obtain⟨mA,O,_⟩:=ZhR I.hok ea;obtain⟨od,J,_⟩:=O.look;exact PySem.W.kia_one (PySem.W.kitx_own (cl.get _) cl.hd ha hn htk hm) I.kIn J e (fun z=>nomatch z) h
end
end L2
namespace L2
open PySem PySem.Spec PyProof.Rows
structure Zao (k:Nat) (A:Around):Prop where
 hd:A.handled=none
 dp:A.depth+3*k+5<recursionLimit
 un:A.units+16*k+200<cLine
theorem Zao.mono{j k:Nat}{A:Around}(r:Zao k A)(h:j<=k):Zao j A:=⟨r.hd,by have:=r.dp;omega,by have:=r.un;omega⟩
theorem Zao.deeper{k:Nat}{A:Around}(r:Zao (k+1) A)(env:Env):Zao k (A.deeper env):=
 ⟨r.hd,by have:=r.dp;show A.depth+1+3*k+5<_;omega,by have:=r.un;show A.units+3+16*k+200<_;omega⟩
theorem Zmz{A:Around}{C:Addr}{us:List Value}{kw:List (Str×Value)}:(A.under (.builtin "type.__call__" ⟨.ref C::us,kw⟩)).depth=A.depth+1:=by
 first|rfl|simp[Around.under,Code.weight,Code.isCreation,Code.isGuard,Code.isCaller,Code.frames,Code.isFrame,guardIds]
theorem ZmA{A:Around}{C:Addr}{us:List Value}{kw:List (Str×Value)}:(A.under (.builtin "type.__call__" ⟨.ref C::us,kw⟩)).units=A.units+1:=by
 first|rfl|simp[Around.under,Code.cUnits,Code.frames,Code.isFrame]
theorem Zao.make{k:Nat}{A:Around}(r:Zao (k+1) A)(C:Addr)(us:List Value)(kw:List (Str×Value)):Zao k (A.under (.builtin "type.__call__" ⟨.ref C::us,kw⟩)):=
 ⟨r.hd,by have:=r.dp;rw[Zmz];omega,by have:=r.un;rw[ZmA];omega⟩
theorem Zao.depth{k:Nat}{A:Around}(r:Zao k A):A.depth<recursionLimit:=by have:=r.dp;omega
theorem Zao.units{k:Nat}{A:Around}(r:Zao k A):A.units+64<cLine:=by have:=r.un;omega
def Zp5:TA:=fun _ H Q=>Q [] H
def ZsF(ta:TE)(tr:TA):TA:=fun σ H Q=>ta σ H fun x H1=>tr σ H1 fun xs H2=>Q (x::xs) H2
section
variable {X:Cx} {e:Expr} {es:List Expr} {te:TE} {t:TA} {pos:Pos}
theorem Zi:PA X [] Zp5:=fun _ _ _ _ H Q I h=>Calls.spliced_nil ⟨[],H,I,.nil,h⟩
theorem Za(ha:PE X e te)(hr:PA X es t)(hs:starEach (e::es) X.env=(false,eval e X.env)::starEach es X.env:=by rfl):PA X (e::es) (ZsF te t):=by
 intro pos pins s σ H Q I h;rw[hs];show wpAny _ _ (spliced ((false,eval e X.env)::backTo pos (starEach es X.env))) _ _ s;refine Calls.spliced_cons (thn (ha pins s σ H _ I h) fun u s1 ⟨x,H1,I1,r1,q1⟩=> ?_);exact thn (hr pos pins s1 σ H1 _ I1 q1) fun us s2 ⟨xs,H2,I2,r2,q2⟩=>⟨x::xs,H2,I2,.cons r1 r2,q2⟩
def Ztx(t:TA):TE:=fun σ H Q=>t σ H fun xs H1=>xs.length<=sizeLine/\∀p,H1 p=none->Q (.ref p) (upd H1 p (.tup xs))
def Zty(t:TA):TE:=fun σ H Q=>t σ H fun xs H1=>xs.length<=sizeLine/\∀p,H1 p=none->Q (.ref p) (upd H1 p (.lst xs))
theorem Yr{x1}(h:PA X es t):PE X (.Tuple es x1 pos) (Ztx t):=by
 intro pins s σ H Q I hq;refine wpAny_Tuple_spliced (thn (h pos pins s σ H _ I hq) fun us s1 ⟨xs,H1,I1,r,z,q⟩=>⟨by rw[<-r.length];exact z, ?_⟩)
 have hf:H1 s1.heap.objs.size=none:=I1.hok.fresh (Nat.le_refl _);refine⟨.ref s1.heap.objs.size,upd H1 s1.heap.objs.size (.tup xs),I1.laid (t':=s1.toks) (fun b u e=>Heap.get?_push_of_some _ e) (Nat.le_refl _) ?_,rfl,q _ hf⟩;exact⟨z,us,r,⟨_,Heap.get?_push_size _ rfl,rfl,_,rfl⟩⟩
theorem ZX(h:PA X es t):PE X (.List es pos) (Zty t):=by
 intro pins s σ H Q I hq;refine wpAny_List_spliced (thn (h pos pins s σ H _ I hq) fun us s1 ⟨xs,H1,I1,r,z,q⟩=>⟨by rw[<-r.length];exact z, ?_⟩)
 have hf:H1 s1.heap.objs.size=none:=I1.hok.fresh (Nat.le_refl _);refine⟨.ref s1.heap.objs.size,upd H1 s1.heap.objs.size (.lst xs),I1.laid (t':=s1.toks) (fun b u e=>Heap.get?_push_of_some _ e) (Nat.le_refl _) ?_,rfl,q _ hf⟩;exact⟨z,us,0,r,Heap.get?_push_size _ rfl⟩
end
abbrev Sp:=List V->Hp->VK->XK->Prop
abbrev CXT:=List Env->Hp->Shared->XK->Value->Shared->Prop
structure ZmB (P:Program) (w:World) (K:PySem.W.Frag) (mg:Str->Option Value) (base:Heap) (A:Around) (outer:List Env) (s:Shared) (H:Hp):Prop where
 frames:A.frames=some outer
 mod:Mod K mg base
 bs:∀b o,base.get? b=some o->s.heap.get? b=some o/\H b=none
 bsz:base.objs.size<=s.heap.objs.size
 funs:s.heap.FunFrames base outer
 frf:∀b∈frs outer,H b=none
 hok:HOk P w H s.heap
 bare:AllBare s.gens
def CE(outer:List Env)(P:Program)(w:World)(H:Hp)(s:Shared)(Q:VK)(u:Value)(s':Shared):Prop:=
 ∃v H',s'.os=s.os/\AllBare s'.gens/\Un (frs outer) [] H H' s.heap s'.heap/\HOk P w H' s'.heap/\Ye v u/\Q v H'
def CR(CX:CXT)(outer:List Env)(P:Program)(w:World)(H:Hp)(s:Shared)(Q:VK)(E:XK)(r:Result)(s':Shared):Prop:=
 match r with
 | .ok (.ret u)=>CE outer P w H s Q u s'
 | .ok _=>False
 | .error e=>CX outer H s E e s'
structure Yn (P:Program) (w:World) (K:PySem.W.Frag) (mg:Str->Option Value) (base:Heap) (CX:CXT) (k:Nat) (f:Addr) (fd:FuncData) (ps:List Str) (sp:Sp):Prop where
 len:∀vs H Q E,sp vs H Q E->vs.length=ps.length
 run:∀(A:Around) (outer:List Env) (s:Shared) (H:Hp) (args:Args) (us:List Value) (vs:List V) (Q:VK) (E:XK),Zao k A->ZmB P w K mg base A outer s H->BindsTo s fd args (ps.zip us)->Yl vs us->sp vs H Q E->
  codeAny (model P w) A (.call (.ref f) args) (CR CX outer P w H s Q E) s
theorem ZmB.make{P:Program}{w:World}{K:PySem.W.Frag}{mg:Str->Option Value}{base:Heap}{A:Around}{outer:List Env}{s:Shared}{H:Hp}(e:ZmB P w K mg base A outer s H)(C:Addr)(us:List Value)(kw:List (Str×Value)):
  ZmB P w K mg base (A.under (.builtin "type.__call__" ⟨.ref C::us,kw⟩)) outer s H:=⟨by first|exact e.frames|(simpa [Around.under,Code.envs,Code.isFrame,pushEnvs] using e.frames),e.mod,e.bs,e.bsz,e.funs,e.frf,e.hok,e.bare⟩
section
variable {X:Cx} {pins:List (Addr×Obj)} {σ:St} {H:Hp} {s s':Shared}
theorem Inv.env0(I:Inv X pins σ H s):ZmB X.prog X.w X.K X.mg X.base X.A X.stack s H:=
 ⟨I.ok.frames,I.ok.mod,I.bs,Nat.le_trans I.ok.bsz I.sz,I.stack,I.stkFree,I.hok,I.bare⟩
theorem Inv.after{Q:VK}{u:Value}(I:Inv X pins σ H s)(h:CE X.stack X.prog X.w H s Q u s'):EP X pins σ Q u s':=by
 obtain⟨v,H',os,bare,un,hok,r,q⟩:=h;obtain⟨hh,g,d,t,os'⟩:=s';obtain rfl:os'=s.os:=os;exact⟨v,H',I.call (h':=hh) (g':=g) (d':=d) (t':=t) (ch:=[]) un hok bare (fun b z=>absurd z (by simp)),r,q⟩
end
def Zny(sp:Sp)(dvs:List V)(E:XK)(t:TA):TE:=fun σ H Q=>t σ H fun vs H1=>sp (vs++dvs) H1 Q E
def Zrj(C:Addr)(sp:Sp)(dvs:List V)(E:XK)(t:TA):TE:=fun σ H Q=>t σ H fun vs H1=>∀x dx,H1 x=none->H1 dx=none->dx≠x->
 sp (.ref x::(vs++dvs)) (upd (upd H1 dx (.own x)) x (.ins C dx [])) (fun v H2=>v=.non/\Q (.ref x) H2) E
def Zea(K:PySem.W.Frag)(fd:FuncData)(ps:List Str)(ds:List Value):Prop:=
 ∀(s:Shared) (us:List Value),K.In s.heap->(us++ds).length=ps.length->BindsTo s fd ⟨us,[]⟩ (ps.zip (us++ds))
theorem Zea.all{K:PySem.W.Frag}{fd:FuncData}{ps:List Str}(h:∀us:List Value,us.length=ps.length->bindArgs fd ⟨us,[]⟩=pure (ps.zip us)):Zea K fd ps []:=fun s us _ hl=>by
 rw[List.append_nil] at hl⊢
 exact .of_eq (h us hl)
def ZbX(CX:CXT)(X:Cx)(E:XK):Prop:=∀(pins:List (Addr×Obj)) (σ:St) (H:Hp) (s:Shared) (e:Value) (s':Shared),Inv X pins σ H s->CX X.stack H s E e s'->X.xe e s'
section
variable {X:Cx} {CX:CXT} {k:Nat} {f C:Addr} {fd:FuncData} {ps:List Str} {sp:Sp} {dvs:List V} {ds:List Value} {E:XK} {x m:Str} {p pos apos:Pos} {e o:Expr} {es:List Expr} {ta:TE} {t:TA}
theorem ZkA{pins:List (Addr×Obj)}{σ:St}{H:Hp}{s:Shared}{Q:VK}{us:List Value}{vs:List V}(F:Yn X.prog X.w X.K X.mg X.base CX k f fd ps sp)(hr:Zao k X.A)(hb:Zea X.K fd ps ds)(hd:Yl dvs ds)(hx:ZbX CX X E)
  (I:Inv X pins σ H s)(r:Yl vs us)(h:sp (vs++dvs) H Q E):wpAny (model X.prog X.w) X.A (call (.ref f) us) (EP X pins σ Q) X.xe s:=by
 have r2:Yl (vs++dvs) (us++ds):=r.append hd;have hl:(us++ds).length=ps.length:=by rw[<-r2.length];exact F.len _ _ _ _ h
 refine wpAny_call (codeAny_mono (F.run X.A X.stack s H ⟨us,[]⟩ (us++ds) (vs++dvs) Q E hr I.env0 (hb s us I.kIn hl) r2 h) fun r s' hq=> ?_);cases r with
 |error e=>exact hx pins σ H s e s' I hq
 |ok fl=>
  cases fl with
  |ret u=>exact I.after hq
  |next=>exact False.elim hq
  |brk=>exact False.elim hq
  |cont=>exact False.elim hq
theorem Zqy(F:Yn X.prog X.w X.K X.mg X.base CX k f fd ps sp)(hr:Zao k X.A)(hg:Gl X x)(hm:X.mg x=some (.ref f))(hk:PySem.W.keepIn X.K (.ref f)=true)(hb:Zea X.K fd ps ds)(hd:Yl dvs ds)(hx:ZbX CX X E)
  (ha:PA X (e::es) t)(hdb:(x==("__debug__":Str))=false:=by decide)(he:starEach (e::es) X.env=(false,eval e X.env)::starEach es X.env:=by rfl)(hpl:(backTo pos (starEach es X.env)).any (·.1)=false:=by rfl):
  PE X (.Call (.Name x p) (e::es) [] pos) (Zny sp dvs E t):=by
 intro pins s σ H Q I h;refine wpAny_Call_Name_kw (ZhP I hg hm ?_ hdb);refine PySem.W.callWith_K (h₀:=X.base) I.ok.mod.kin hk (thn (ha pos pins s σ H _ I h) fun us s1 ⟨vs,H1,I1,r,q⟩=>⟨I1.kIn, ?_⟩) he hpl;exact ZkA F hr hb hd hx I1 r q
theorem Zp6(F:Yn X.prog X.w X.K X.mg X.base CX k f fd ps sp)(hr:Zao k X.A)(hg:Gl X x)(hm:X.mg x=some (.ref f))(hk:PySem.W.keepIn X.K (.ref f)=true)(hb:Zea X.K fd ps ds)(hd:Yl dvs ds)(hx:ZbX CX X E)
  (hdb:(x==("__debug__":Str))=false:=by decide):PE X (.Call (.Name x p) [] [] pos) (Zny sp dvs E Zp5):=by
 intro pins s σ H Q I h;refine wpAny_Call_Name_kw (ZhP I hg hm ?_ hdb);exact PySem.W.callWith_K0 I.kIn hk (ZkA (us:=[]) F hr hb hd hx I .nil h)
structure Mk (K:PySem.W.Frag) (C f:Addr):Prop where
 makes:PySem.W.makesIn K C=true
 init:PySem.W.findIn K (.ref C) "__init__"=some (some (.ref f))
 fn:PySem.W.isFn K (.ref f)=true
 kp:PySem.W.keepIn K (.ref C)=true
theorem Zp7{pins:List (Addr×Obj)}{σ:St}{H:Hp}{s:Shared}{Q:VK}{us:List Value}{vs:List V}(M:Mk X.K C f)(F:Yn X.prog X.w X.K X.mg X.base CX k f fd ps sp)(hr:Zao (k+1) X.A)(hb:Zea X.K fd ps ds)(hd:Yl dvs ds)
  (hx:ZbX CX X E)(I:Inv X pins σ H s)(r:Yl vs us)
  (h:∀x dx,H x=none->H dx=none->dx≠x->sp (.ref x::(vs++dvs)) (upd (upd H dx (.own x)) x (.ins C dx [])) (fun v H2=>v=.non/\Q (.ref x) H2) E):
  wpAny (model X.prog X.w) X.A (call (.ref C) us) (EP X pins σ Q) X.xe s:=by
 have hq:=h (s.heap.objs.size+1) s.heap.objs.size (I.hok.fresh (Nat.le_succ _)) (I.hok.fresh (Nat.le_refl _)) (Nat.ne_of_lt (Nat.lt_succ_self _));have I2:=Inv.made (C:=C) I;have r2:Yl (V.ref (s.heap.objs.size+1)::(vs++dvs)) (Value.ref (s.heap.objs.size+1)::(us++ds)):=.cons rfl (r.append hd);have hl:(Value.ref (s.heap.objs.size+1)::us++ds).length=ps.length:=by
  have e:=r2.length;rw[F.len _ _ _ _ hq] at e
  exact e.symm
 refine wpAny_call (Zp4 (f:=f) I.kIn M.makes M.init (beq_iff_eq.mp M.fn) (codeAny_mono (F.run _ X.stack _ _ ⟨Value.ref (s.heap.objs.size+1)::us,[]⟩ (Value.ref (s.heap.objs.size+1)::(us++ds)) _ _ E (hr.make C us [])
  (I2.env0.make C us []) (hb _ (Value.ref (s.heap.objs.size+1)::us) I2.kIn hl) r2 hq) fun r s' hq'=> ?_))
 cases r with
 |error e=>exact hx pins σ _ _ e s' I2 hq'
 |ok fl=>
  cases fl with
  |ret u=>
   obtain⟨v,H',I3,rv,ev,q3⟩:=I2.after hq';subst ev;exact⟨rv,⟨V.ref (s.heap.objs.size+1),H',I3,rfl,q3⟩⟩
  |next=>exact False.elim hq'
  |brk=>exact False.elim hq'
  |cont=>exact False.elim hq'
theorem Zqz(M:Mk X.K C f)(F:Yn X.prog X.w X.K X.mg X.base CX k f fd ps sp)(hr:Zao (k+1) X.A)(hg:Gl X x)(hm:X.mg x=some (.ref C))(hb:Zea X.K fd ps ds)(hd:Yl dvs ds)(hx:ZbX CX X E)
  (ha:PA X (e::es) t)(hdb:(x==("__debug__":Str))=false:=by decide)(he:starEach (e::es) X.env=(false,eval e X.env)::starEach es X.env:=by rfl)(hpl:(backTo pos (starEach es X.env)).any (·.1)=false:=by rfl):
  PE X (.Call (.Name x p) (e::es) [] pos) (Zrj C sp dvs E t):=by
 intro pins s σ H Q I h;refine wpAny_Call_Name_kw (ZhP I hg hm ?_ hdb);refine PySem.W.callWith_K (h₀:=X.base) I.ok.mod.kin M.kp (thn (ha pos pins s σ H _ I h) fun us s1 ⟨vs,H1,I1,r,q⟩=>⟨I1.kIn, ?_⟩) he hpl;exact Zp7 M F hr hb hd hx I1 r q
end
section
variable {X:Cx} {CX:CXT} {k:Nat} {f C:Addr} {fd:FuncData} {ps ks:List Str} {sp:Sp} {E:XK} {x m:Str} {p pos apos kpos:Pos} {e o:Expr} {es:List Expr} {kws:List Keyword} {te ta:TE} {t tk:TA} {nm:Option Str}
variable {g:List Value->List Value->List Value} {gV:List V->List V->List V}
end
structure ZG (N P:List Str) (sc:Scope):Prop where
 kind:sc.kind=.function
 co:sc.isCoroutine=false
 gen:sc.isGenerator=false
 nd:N.Nodup
 pre:N.take P.length=P
 par:∀x∈P,sc.names.lookup x=some .local\/sc.names.lookup x=some .cell
 nofree:∀y∈sc.names,y.2≠.free
theorem ZjS{kindOf:Str->Option NameKind}{x:Str}:∀{binds:List (Str×Value)} {m:Str->Option Value},(∀v,(x,v)∉binds)->bindL kindOf binds m x=m x
 |[],_,_=>rfl
 |(n,v)::r,m,h=>by
  unfold bindL;rw[ZjS fun w hw=>h w (List.mem_cons_of_mem _ hw)]
  split
  ·have:x≠n:=by rintro rfl;exact h v List.mem_cons_self
   simp[this]
  ·rfl
theorem ZjT{kindOf:Str->Option NameKind}{x:Str}:∀{binds:List (Str×Value)} {m:Str->Option Value},(∀v,(x,v)∉binds)->bindC kindOf binds m x=m x
 |[],_,_=>rfl
 |(n,v)::r,m,h=>by
  unfold bindC;rw[ZjT fun w hw=>h w (List.mem_cons_of_mem _ hw)]
  split
  ·rfl
  ·have:x≠n:=by rintro rfl;exact h v List.mem_cons_self
   simp[this]
theorem ZjU{kindOf:Str->Option NameKind}{x:Str}{v:Value}:∀{P:List Str} {vs:List Value} {i:Nat} {m:Str->Option Value},P.Nodup->P[i]? =some x->vs[i]? =some v->kindOf x=some .local->
  bindL kindOf (P.zip vs) m x=some v
 |[],_,_,_,_,h,_,_=>by simp at h
 |_::_,[],_,_,_,_,h,_=>by simp at h
 |p::P,w::vs,0,m,nd,h1,h2,hk=>by
  simp at h1 h2;subst h1;subst h2
  show bindL kindOf ((p,w)::P.zip vs) m p=_;unfold bindL;rw[ZjS fun v hv=>(List.nodup_cons.mp nd).1 (List.of_mem_zip hv).1,if_pos hk];simp
 |p::P,w::vs,i+1,m,nd,h1,h2,hk=>by
  show bindL kindOf ((p,w)::P.zip vs) m x=_;unfold bindL;exact ZjU (i:=i) (List.nodup_cons.mp nd).2 (by simpa using h1) (by simpa using h2) hk
theorem ZjV{kindOf:Str->Option NameKind}{x:Str}{v:Value}:∀{P:List Str} {vs:List Value} {i:Nat} {m:Str->Option Value},P.Nodup->P[i]? =some x->vs[i]? =some v->kindOf x≠some .local->
  bindC kindOf (P.zip vs) m x=some v
 |[],_,_,_,_,h,_,_=>by simp at h
 |_::_,[],_,_,_,_,h,_=>by simp at h
 |p::P,w::vs,0,m,nd,h1,h2,hk=>by
  simp at h1 h2;subst h1;subst h2
  show bindC kindOf ((p,w)::P.zip vs) m p=_;unfold bindC;rw[ZjT fun v hv=>(List.nodup_cons.mp nd).1 (List.of_mem_zip hv).1,if_neg hk];simp
 |p::P,w::vs,i+1,m,nd,h1,h2,hk=>by
  show bindC kindOf ((p,w)::P.zip vs) m x=_;unfold bindC;exact ZjV (i:=i) (List.nodup_cons.mp nd).2 (by simpa using h1) (by simpa using h2) hk
def Zfa(N:List Str)(vs:List V):St:=vs.map some++List.replicate (N.length-vs.length) none
def Zod(CX:CXT)(P:Program)(w:World)(K:PySem.W.Frag)(mg:Str->Option Value)(base:Heap)(N:List Str)(qual:Str)(scope:Scope)(f:Addr)(cd:Value)(A:Around)(outer:List Env)(s:Shared)(H:Hp)(E:XK):Cx where
 prog:=P
 w:=w
 K:=K
 mg:=mg
 base:=base
 A:=A.deeper (envOfC qual scope s.heap.objs.size f cd)
 N:=N
 s₀:=s
 H₀:=H
 env:=envOfC qual scope s.heap.objs.size f cd
 outer:=outer
 stack:=envOfC qual scope s.heap.objs.size f cd::outer
 ex:=[]
 calm:=true
 fn:=fun _=>true
 pn:=[]
 xe:=fun e s'=>wpAny (model P w) (A.deeper (envOfC qual scope s.heap.objs.size f cd)) (leaving (envOfC qual scope s.heap.objs.size f cd) e) (fun _ s''=>CX outer H s E e s'') (fun e' s''=>CX outer H s E e' s'') s'
theorem ZlJ{sc:Scope}{n:Nat}{x:Str}(h:sc.names.lookup x=some .cell):∃c,(cellsFrom n sc.names []).lookup x=some c:=by
 have q:=PySem.W.cellsFrom_some sc.names n [] (.inl h);exact Option.isSome_iff_exists.mp q
theorem Zoe{CX:CXT}{P:Program}{w:World}{K:PySem.W.Frag}{mg:Str->Option Value}{base:Heap}{N ps:List Str}{qual:Str}{scope:Scope}{f:Addr}{cd:Value}{A:Around}{outer:List Env}{s s1:Shared}{H:Hp}{E:XK}{us:List Value}{vs:List V}
  (S:ZG N ps scope)(hd:A.handled=none)(e0:ZmB P w K mg base A outer s H)(hl:vs.length=ps.length)(r:Yl vs us)
  (x:InCallC s s.heap.objs.size (bindL (envOfC qual scope s.heap.objs.size f cd).kindOf (ps.zip us) fun _=>none) (cellsFrom (s.heap.objs.size+1) scope.names []) (bindC (envOfC qual scope s.heap.objs.size f cd).kindOf (ps.zip us) fun _=>none) s1):
  Inv (Zod CX P w K mg base N qual scope f cd A outer s H E) [] (Zfa N vs) H s1:=by
 have hpl:ps.length<=N.length:=by have:=congrArg List.length S.pre;rw[List.length_take] at this;omega
 obtain⟨h1,tk,rfl,hk⟩:=x.done;have noA:∀b:Addr,b∉(Zod CX P w K mg base N qual scope f cd A outer s H E).ex:=fun b z=>absurd (show b∈([]:List Addr) from z) (by simp);refine⟨⟨e0.mod,S.kind,rfl,rfl,Nat.le_refl _,fun y z c h1 h2=> ?_,fun y hy=> ?_,fun y c _ h=> ?_,fun _=>hd,Around.frames_deeper e0.frames,.inr ⟨rfl,rfl⟩,fun b z=>absurd z (noA b),e0.bs,e0.bsz,fun b _ _=>noA b,fun b z=>absurd z (noA b),e0.funs,e0.frf⟩,
  rfl,e0.bare,Un.kept hk,⟨_,x.toInCall.ns,fun i y v h1 h2 h3=> ?_⟩,fun y c h=>⟨_,x.cell y c h⟩,e0.hok.fresh (Nat.le_refl _),fun y c h=> ?_,fun p hp=>absurd (show p∈([]:List (Addr×Obj)) from hp) (by simp),e0.hok.kept hk, ?_⟩
 ·exact name_of_addr x.apart (PySem.mem_of_lookup h1) (PySem.mem_of_lookup h2)
 ·have hy:scope.names.lookup y=some .cell\/scope.names.lookup y=some .free:=hy;rcases hy with hy|hy
  ·exact ZlJ hy
  ·exact absurd rfl (S.nofree _ (PySem.mem_of_lookup hy))
 ·exact Nat.le_of_lt (x.above y c (PySem.mem_of_lookup h))
 ·have hi:i<vs.length:=by
   unfold Zfa at h2
   by_cases hi:i<vs.length
   ·exact hi
   ·rw[List.getElem?_append_right (by simpa using hi)] at h2
    rw[List.getElem?_replicate] at h2
    split at h2<;>cases h2
  have ha:vs[i]? =some v:=by
   unfold Zfa at h2
   rw[List.getElem?_append_left (by simpa using hi),List.getElem?_map] at h2
   cases e:vs[i]? with
   |none=>rw[e] at h2;cases h2
   |some a=>rw[e] at h2;cases h2;rfl
  obtain⟨u,hu,rv⟩:=r.get ha;have hp:ps[i]? =some y:=by
   rw[<-S.pre,List.getElem?_take_of_lt (by omega)];exact h1
  have ndP:ps.Nodup:=by rw[<-S.pre];exact S.nd.sublist (List.take_sublist _ _)
  refine⟨u,rv, ?_⟩;rcases S.par y (List.mem_of_getElem? hp) with k|k
  ·exact .inl ⟨k,ZjU ndP hp hu k⟩
  ·obtain⟨c,e⟩:=ZlJ (n:=s.heap.objs.size+1) k;refine .inr ⟨.inl k,c,e, ?_⟩;have q:=x.cell y c e;rw[ZjV ndP hp hu (by show scope.names.lookup y≠_;rw[k];decide)] at q
   exact q
 ·exact e0.hok.fresh (Nat.le_of_lt (x.above y c (PySem.mem_of_lookup h)))
 ·unfold Zfa;show _=N.length;rw[List.length_append,List.length_map,List.length_replicate];omega
theorem ZsG{CX:CXT}{P:Program}{w:World}{K:PySem.W.Frag}{mg:Str->Option Value}{base:Heap}{k:Nat}{f:Addr}{name qual:Str}{params:Arguments}{body:List Stmt}{scope:Scope}{dV kV doc pm cdv ct oc:Value}{an od:Option Addr}
  {osl:Array (Option Value)}{N ps:List Str}{sp:Sp}(lk:K.lookup f=some ⟨oc,od,.func (PySem.W.fnOf name qual params body scope dV kV doc pm an cdv ct),osl⟩)(hcd:PySem.W.codeIn K cdv qual=true)(S:ZG N ps scope)
  (len:∀vs H Q E,sp vs H Q E->vs.length=ps.length)
  (hbody:∀(A:Around) (outer:List Env) (s:Shared) (H:Hp) (vs:List V) (Q:VK) (E:XK),Zao k (A.deeper (envOfC qual scope s.heap.objs.size f cdv))->sp vs H Q E->
   ∃t,PSs (Zod CX P w K mg base N qual scope f cdv A outer s H E) body t/\t {nx:=fun _ H'=>Q .non H',rt:=Q} (Zfa N vs) H):
  Yn P w K mg base CX (k+1) f (PySem.W.fnOf name qual params body scope dV kV doc pm an cdv ct) ps sp:=by
 refine⟨len,fun A outer s H args us vs Q E hr e0 hb r hsp=> ?_⟩;have hl:=len _ _ _ _ hsp;have KX:K.In s.heap:=e0.mod.kin.keeps fun b o e=>(e0.bs b o e).1;have lim:s.heap.NoLimit:=e0.mod.nolimit.keeps fun b o e=>(e0.bs b o e).1;have hkind:∀y∈ps.zip us,scope.names.lookup y.1=some .local\/(scope.names.lookup y.1=some .cell/\((cellsFrom (s.heap.objs.size+1) scope.names []).lookup y.1).isSome=true):=fun⟨n,v⟩ hy=>by
  rcases S.par n (List.of_mem_zip hy).1 with q|q
  ·exact .inl q
  ·exact .inr ⟨q,PySem.W.cellsFrom_some _ _ _ (.inl q)⟩
 refine codeAny_call_function hr.depth (KX _ _ lk) rfl S.co S.gen rfl (PySem.W.codeRec_of KX hcd) (hb _ _ _ _ ?_);refine wpAny_newFunctionEnv_cells S.kind hkind fun env he s1 x=> ?_;subst he;refine⟨lim.keeps x.toInCall.keep,codeAny_func ?_⟩;obtain⟨t,ht,hq⟩:=hbody A outer s H vs Q E (hr.deeper _) hsp;have I:Inv (Zod CX P w K mg base N qual scope f cdv A outer s H E) [] (Zfa N vs) H s1:=Zoe S hr.hd e0 hl r x
 refine wpAny_mono (ht [] s1 (Zfa N vs) H _ I hq) (fun fl s' hs=> ?_) fun e s' hs=>hs;have fin:∀{σ':St} {H':Hp} {v:V} {u:Value},Inv (Zod CX P w K mg base N qual scope f cdv A outer s H E) [] σ' H' s'->Ye v u->Q v H'->CE outer P w H s Q u s':=
  fun{σ' H' v u} J rv q=>⟨v,H',J.os,J.bare,J.base,J.hok,rv,q⟩
 cases fl with
 |ret u=>
  obtain⟨v,σ',H',J,rv,q⟩:=hs;exact fin J rv q
 |next=>
  obtain⟨σ',H',J,q⟩:=hs;exact fin (v:=V.non) (u:=Value.none) J rfl q
 |brk=>
  obtain⟨_,_,_,q⟩:=hs;exact False.elim q
 |cont=>
  obtain⟨_,_,_,q⟩:=hs;exact False.elim q
end L2
namespace L2
open PySem PySem.Spec PyProof.Rows
section
variable {X:Cx} {x:Str} {p pos:Pos} {e:Expr} {es:List Expr} {t:TA} {id T:String} {r:List V->Hp->VK->Prop}
def tCB(r:List V->Hp->VK->Prop)(t:TA):TE:=fun σ H Q=>t σ H fun vs H1=>r vs H1 Q
theorem ZM(hc:Zb6 X (.builtin id) r)(hg:Gl X x)(hm:X.mg x=none)(hv:bootBuiltins x=some (.builtin id))(ha:PA X (e::es) t)(hn:x≠"__name__":=by decide)(hdb:(x==("__debug__":Str))=false:=by decide)
  (he:starEach (e::es) X.env=(false,eval e X.env)::starEach es X.env:=by rfl)(hpl:(backTo pos (starEach es X.env)).any (·.1)=false:=by rfl):PE X (.Call (.Name x p) (e::es) [] pos) (tCB r t):=by
 intro pins s σ H Q I h;refine wpAny_Call_Name_kw (Zi9 I hg hm hv ?_ hn hdb);exact PyProof.Rows.callWith_builtin1 (thn (ha pos pins s σ H _ I h) fun us s1 ⟨vs,H1,I1,r1,q1⟩=>hc pins s1 σ H1 vs us Q I1 r1 q1) he hpl
theorem JT(hc:Zb6 X (.type T) r)(hg:Gl X x)(hm:X.mg x=none)(hv:bootBuiltins x=some (.type T))(ha:PA X (e::es) t)(hn:x≠"__name__":=by decide)(hdb:(x==("__debug__":Str))=false:=by decide)
  (he:starEach (e::es) X.env=(false,eval e X.env)::starEach es X.env:=by rfl)(hpl:(backTo pos (starEach es X.env)).any (·.1)=false:=by rfl):PE X (.Call (.Name x p) (e::es) [] pos) (tCB r t):=by
 intro pins s σ H Q I h;refine wpAny_Call_Name_kw (Zi9 I hg hm hv ?_ hn hdb);exact PyProof.Rows.callWith_type1 (thn (ha pos pins s σ H _ I h) fun us s1 ⟨vs,H1,I1,r1,q1⟩=>hc pins s1 σ H1 vs us Q I1 r1 q1) he hpl
end
end L2
namespace HT
open PySem PyProof.Rows
section
open PySem.SeqAt
open PySem.AutoSeq1 (wpAny_loadPart')
open PySem.MeetsSeq PySem.MeetsSeq2 PySem.MeetsSeq3
end
section
variable {prog:Program} {w:World} {A:Around} {E:Value->Shared->Prop} {s:Shared}
theorem ZqA{t b:Addr}{vs ws:List Value}{Q:Value->Shared->Prop}(ht:IsTup s.heap t vs.toArray)(hb:IsTup s.heap b ws.toArray)(hv:vs≠[])
  (h1:ws=[]->Q (.ref t) s)(h2:ws≠[]->Q (.ref s.heap.objs.size) {s with heap:=s.heap.push {cls:=.type "tuple",data:=.seq (vs++ws).toArray}})
  (hsz:vs.length+ws.length<=sizeLine):wpAny (model prog w) A (binaryOp .Add (.ref t) (.ref b)) Q E s:=by
 obtain⟨⟨cls,dd,data,sl⟩,ho,hc,n,hd⟩:=id ht;obtain⟨⟨cls2,dd2,data2,sl2⟩,ho2,hc2,n2,hd2⟩:=id hb;simp only at hc hd hc2 hd2
 subst hc hd hc2 hd2;have e:vs.toArray++ws.toArray=(vs++ws).toArray:=by simp
 by_cases hw:ws=[]
 ·exact concat_meets ⟨_,ho,rfl⟩ ⟨_,ho2,rfl⟩ noFill_tuple_add seq_tuple_add PySem.F.slot_tuple_add PySem.F.entry_tuple_add (PySem.F.args_tuple_add_2 _ _)
   (tuple_addW1 t b vs.toArray ws.toArray n n2 dd dd2 sl sl2 (by simpa using hv) (by simp[hw])) ⟨ho,ho2,h1 hw⟩
 ·refine concat_meets ⟨_,ho,rfl⟩ ⟨_,ho2,rfl⟩ noFill_tuple_add seq_tuple_add PySem.F.slot_tuple_add PySem.F.entry_tuple_add (PySem.F.args_tuple_add_2 _ _)
   (tuple_addW2 t b vs.toArray ws.toArray n n2 dd dd2 sl sl2 (by simpa using hv) (by simpa using hw) (by rw[List.size_toArray,List.size_toArray];exact hsz)) ⟨ho,ho2, ?_⟩
  rw[e];exact h2 hw
def sIx(n d:Nat):Option Int->Nat
 |none=>d
 |some v=>if v<0 then(v+(n:Int)).toNat else min v.toNat n
theorem ZrN(n d:Nat)(hd:d<=n)(o:Option Int):sIx n d o<=n:=by
 cases o with
 |none=>exact hd
 |some v=>
  show(if v<0 then(v+(n:Int)).toNat else min v.toNat n)<=n
  by_cases hv:v<0
  ·rw[if_pos hv];omega
  ·rw[if_neg hv];exact Nat.min_le_right _ _
theorem Znz(v:Int)(n d:Nat):(if v<0 then max (v+(n:Int)) 0 else min v (n:Int))=((sIx n d (some v):Nat):Int):=by
 show(if v<0 then max (v+(n:Int)) 0 else min v (n:Int))=(((if v<0 then(v+(n:Int)).toNat else min v.toNat n):Nat):Int)
 by_cases hv:v<0
 ·simp only [if_pos hv];omega
 ·simp only [if_neg hv];omega
theorem ZmC(lo hi:Option Int)(n:Nat):Builtin.Slice.sliceAdjust lo hi 1 (n:Int)=(((sIx n 0 lo:Nat):Int),((sIx n n hi:Nat):Int)):=by
 have h1:¬((1:Int)<0):=by omega
 unfold Builtin.Slice.sliceAdjust;simp only [h1,if_false];refine Prod.ext ?_ ?_
 ·cases lo with
  |none=>rfl
  |some v=>exact Znz v n 0
 ·cases hi with
  |none=>rfl
  |some v=>exact Znz v n n
theorem ZmD(i j:Nat):Builtin.Slice.slicePlaces (i:Int) (j:Int) 1=j-i:=by
 unfold Builtin.Slice.slicePlaces;have h1:(1:Int)>0:=by omega
 simp only [h1,if_true,Int.ediv_one]
 split<;>omega
theorem Zig{v:Value}{o:Option Int}{Q:Option Int->Shared->Prop}(p:IsPart v o)(h:Q o s):wpAny (model prog w) A (Builtin.Slice.slicePartIndex v) Q E s:=by
 cases p with
 |none=>exact slicePart_none h
 |int i t=>exact slicePart_int h
theorem Zgx{sl:Addr}{vl vu:Value}{lo hi:Option Int}{n:Nat}{Q:Int×Int×Nat->Shared->Prop}(hs:s.heap.IsSliceOf sl vl vu .none)(pl:IsPart vl lo)(pu:IsPart vu hi)
  (h:Q (((sIx n 0 lo:Nat):Int),1,sIx n n hi-sIx n 0 lo) s):wpAny (model prog w) A (Builtin.Slice.sliceApplied (.ref sl) (pure (n:Int))) Q E s:=by
 obtain⟨os,hos,hcs,hds⟩:=id hs;unfold Builtin.Slice.sliceApplied Builtin.Slice.sliceFields;refine wpAny_bind (wpAny_bind (wpAny_field hos hds (x:=vl) rfl (wpAny_bind (wpAny_field hos hds (x:=vu) rfl (wpAny_bind (wpAny_field hos hds (x:=.none) rfl (wpAny_pure ?_)))))));refine wpAny_bind (slicePart_none ?_);show wpAny _ _ (if((1:Int)==0)=true then _ else _) _ _ s;rw[if_neg (by decide)];refine wpAny_bind (Zig pl (wpAny_bind (Zig pu (wpAny_bind (wpAny_pure ?_)))))
 show wpAny _ _ (match Builtin.Slice.sliceAdjust lo hi 1 (n:Int) with|(lo,hi)=>pure (lo,(1:Int),Builtin.Slice.slicePlaces lo hi 1)) _ _ s;rw[ZmC lo hi n];show wpAny _ _ (pure (((sIx n 0 lo:Nat):Int),(1:Int),Builtin.Slice.slicePlaces ((sIx n 0 lo:Nat):Int) ((sIx n n hi:Nat):Int) 1)) _ _ s;rw[ZmD];exact wpAny_pure h
theorem Zp8(xs:Array Value)(i k:Nat):((List.range k).filterMap fun(m:Nat)=>xs[((i:Int)+(m:Int)*1).toNat]?).toArray=((xs.toList.drop i).take k).toArray:=by
 have e:(fun(m:Nat)=>xs[((i:Int)+(m:Int)*1).toNat]?)=fun m=>xs[i+m]? :=by
  funext m
  have:((i:Int)+(m:Int)*1).toNat=i+m:=by omega
  rw[this]
 rw[e];have:=pick_run xs i k;rw[List.filterMap_map] at this
 have e2:((fun x=>xs[x]?)∘fun x=>i+x)=fun m=>xs[i+m]? :=rfl;rw[e2] at this
 rw[this]
theorem ZfP{t sl:Addr}{items:Array Value}{vl vu:Value}{lo hi:Option Int}{Q:Value->Shared->Prop}(ht:IsTup s.heap t items)(hs:s.heap.IsSliceOf sl vl vu .none)(pl:IsPart vl lo)(pu:IsPart vu hi)
  (hw:¬(sIx items.size 0 lo=0/\sIx items.size items.size hi=items.size))
  (h:Q (.ref s.heap.objs.size) {s with heap:=s.heap.push {cls:=.type "tuple",data:=.seq ((items.toList.drop (sIx items.size 0 lo)).take (sIx items.size items.size hi-sIx items.size 0 lo)).toArray}})
  (hsz:items.size<=sizeLine):wpAny (model prog w) A (getItem (.ref t) (.ref sl)) Q E s:=by
 have htake:sizeOk (.seq ((items.toList.drop (sIx items.size 0 lo)).take (sIx items.size items.size hi-sIx items.size 0 lo)).toArray):=by
  show((items.toList.drop (sIx items.size 0 lo)).take (sIx items.size items.size hi-sIx items.size 0 lo)).toArray.size<=sizeLine;rw[List.size_toArray,List.length_take,List.length_drop,Array.length_toList];omega
 have hj:sIx items.size items.size hi<=items.size:=ZrN _ _ (Nat.le_refl _) hi;obtain⟨os,hos,hcs,hds⟩:=id hs;have hTs:s.TypeIs (.ref sl) "slice":=⟨os,hos,hcs⟩
 unfold getItem
 try with_reducible refine wpAny_holding ?_
 first|refine wpAny_bind (wpAny_pure ?_)|skip
 refine wpAny_bind (wpAny_sequenceKey ht.typeIs (by decide) ?_);refine wpAny_bind (wpAny_callSpecial?_slot (name:=Str.ofString "__getitem__") ht.typeIs PyProof.Rows.slot_tuple_getitem
  (wpAny_call_entry PyProof.Rows.slot_tuple_getitem ht.typeIs entry_tuple_getitem ?_ (args_tuple_getitem _ _)))
 show wpAny _ _ (Builtin.Tuple.tupleItemsOf (.ref t)>>=_) _ _ s;refine wpAny_bind (tupleItemsOf_ ht ?_);refine wpAny_bind (wpAny_typeOf hTs ?_);rw[if_pos (by decide)];refine wpAny_bind (Zgx hs pl pu ?_);have hno:¬((((sIx items.size 0 lo:Nat):Int)==0&&(1:Int)==1&&(sIx items.size items.size hi-sIx items.size 0 lo)==items.size)=true):=by
  intro q;rw[Bool.and_eq_true,Bool.and_eq_true] at q
  have q1:((sIx items.size 0 lo:Nat):Int)=0:=eq_of_beq q.1.1;have q2:sIx items.size items.size hi-sIx items.size 0 lo=items.size:=eq_of_beq q.2;exact hw ⟨by omega,by omega⟩
 show wpAny _ _ (if(((sIx items.size 0 lo:Nat):Int)==0&&(1:Int)==1&&(sIx items.size items.size hi-sIx items.size 0 lo)==items.size)=true then _ else _) _ _ s;rw[if_neg hno,Zp8]
 first
  |exact wpAny_bind (m:=Builtin.Tuple.tupleExact _) (wpAny_newObj_type (wpAny_pure ⟨_,rfl,wpAny_pure h⟩) htake)
  |exact wpAny_bind (m:=Builtin.Tuple.tupleExact _) (wpAny_newObj_type (wpAny_bind (wpAny_pure (wpAny_pure ⟨_,rfl,wpAny_pure h⟩))) htake)
  |exact wpAny_bind (wpAny_bind (m:=Builtin.Tuple.tupleExact _) (wpAny_newObj_type (wpAny_pure (wpAny_pure ⟨_,rfl,wpAny_pure h⟩)) htake))
  |exact wpAny_bind (wpAny_bind (m:=Builtin.Tuple.tupleExact _) (wpAny_newObj_type (wpAny_pure ⟨_,rfl,wpAny_pure h⟩) htake))
end
end HT
namespace L2
open PySem PySem.Spec PyProof.Rows
abbrev TO:=St->Hp->(Option Int->Hp->Prop)->Prop
def PO(X:Cx)(e:Option Expr)(t:TO):Prop:=
 ∀(pins:List (Addr×Obj)) (s:Shared) (σ:St) (H:Hp) (Q:Option Int->Hp->Prop),Inv X pins σ H s->t σ H Q->
  wpAny (model X.prog X.w) X.A (evalPart e X.env) (fun u s'=>∃o H',Inv X pins σ H' s'/\IsPart u o/\Q o H') X.xe s
def ZqB:TO:=fun _ H Q=>Q none H
def ZsH(t:TE):TO:=fun σ H Q=>t σ H fun x H1=>∃i,x=.int i/\Q (some i) H1
section
variable {X:Cx} {e:Expr} {te:TE} {lo hi:Option Expr} {tl th:TO} {pos p2:Pos}
theorem ZhS:PO X none ZqB:=by
 intro pins s σ H Q I h;rw[evalPart_none];exact wpAny_pure ⟨none,H,I,.none,h⟩
theorem Zco(h:PE X e te):PO X (some e) (ZsH te):=by
 intro pins s σ H Q I hw;rw[evalPart_some];refine thn (h pins s σ H _ I hw) fun u s1 ⟨x,H1,I1,r1,q1⟩=> ?_;obtain⟨i,rfl,q⟩:=q1;obtain⟨t,rfl⟩:=r1;exact⟨some i,H1,I1,.int i t,q⟩
def SlR(X:Cx)(r:V->Option Int->Option Int->Hp->VK->Prop):Prop:=
 ∀(pins:List (Addr×Obj)) (s:Shared) (σ:St) (H:Hp) (x:V) (v vl vu:Value) (lo hi:Option Int) (sl:Addr) (Q:VK),Inv X pins σ H s->Ye x v->s.heap.IsSliceOf sl vl vu .none->IsPart vl lo->IsPart vu hi->r x lo hi H Q->
  ∃T id,typeLookup (.type T) "__getitem__"=pure (some (.builtin id))/\s.TypeIs v T/\wpAny (model X.prog X.w) X.A (getItem v (.ref sl)) (EP X pins σ Q) X.xe s
def tSl(r:V->Option Int->Option Int->Hp->VK->Prop)(te:TE)(tl th:TO):TE:=fun σ H Q=>te σ H fun x H1=>tl σ H1 fun l H2=>th σ H2 fun u H3=>r x l u H3 Q
theorem Zd0{r:V->Option Int->Option Int->Hp->VK->Prop}(hr:SlR X r)(he:PE X e te)(hl:PO X lo tl)(hu:PO X hi th):PE X (.Subscript e (.Slice lo hi none p2) pos) (tSl r te tl th):=by
 intro pins s σ H Q I h;refine Subscript_ (thn (he pins s σ H _ I h) fun v s1 ⟨x,H1,I1,r1,q1⟩=> ?_);refine wpAny_Slice (thn (hl pins s1 σ H1 _ I1 q1) fun vl s2 ⟨l,H2,I2,pl,q2⟩=>thn (hu pins s2 σ H2 _ I2 q2) fun vu s3 ⟨u,H3,I3,pu,q3⟩=> ?_);rw[evalPart_none];refine wpAny_pure ?_;have I4:Inv X pins σ H3 {s3 with heap:=s3.heap.push {cls:=.type "slice",data:=.fields #[vl,vu,.none]}}:=I3.kept (t':=s3.toks) fun b ob q=>Heap.get?_push_of_some _ q
 obtain⟨T,id,hT,ht,hg⟩:=hr pins {s3 with heap:=s3.heap.push {cls:=.type "slice",data:=.fields #[vl,vu,.none]}} σ H3 x v vl vu l u s3.heap.objs.size Q I4 r1 (Heap.IsSliceOf.new ..) pl pu q3;show wpAny (model X.prog X.w) X.A (subscriptTail e (.Slice lo hi none p2) v (.ref s3.heap.objs.size)) (EP X pins σ Q) X.xe {s3 with heap:=s3.heap.push {cls:=.type "slice",data:=.fields #[vl,vu,.none]}};exact tail_any (ops:=[.ref s3.heap.objs.size,v]) ht hT hg (by with_unfolding_all rfl)
def Ze8(xs:List V)(lo hi:Option Int):List V:=(xs.drop (HT.sIx xs.length 0 lo)).take (HT.sIx xs.length xs.length hi-HT.sIx xs.length 0 lo)
theorem Zhj(xs:List V)(lo hi:Option Int):(Ze8 xs lo hi).length<=xs.length:=by
 unfold Ze8;rw[List.length_take,List.length_drop];omega
def ZsI(K:PySem.W.Frag):V->Option Int->Option Int->Hp->VK->Prop:=fun x lo hi H Q=>∃a xs,x=.ref a/\SqT K H a xs/\
 ¬(HT.sIx xs.length 0 lo=0/\HT.sIx xs.length xs.length hi=xs.length)/\∀p,H p=none->Q (.ref p) (upd H p (.tup (Ze8 xs lo hi)))
theorem ZkB:SlR X (ZsI X.K):=by
 intro pins s σ H x v vl vu lo hi sl Q I rx hs pl pu h;obtain⟨a,xs,rfl,hx,hw,q⟩:=h;cases rx;obtain⟨its,r,ht,hz⟩:=I.tuple hx;have hlen:its.toArray.size=xs.length:=by rw[List.size_toArray];exact r.length.symm
 refine⟨"tuple",_,PyProof.Rows.slot_tuple_getitem.lookup,ht.typeIs, ?_⟩;refine HT.ZfP ht hs pl pu (by rw[hlen];exact hw) ?_ (by rw[hlen];exact hz)
 rw[hlen];refine⟨.ref s.heap.objs.size,_,I.laid (t':=s.toks) (o:=.tup (Ze8 xs lo hi)) (fun b ob q=>Heap.get?_push_of_some _ q) (Nat.le_refl _) ?_,rfl,q _ (I.hok.fresh (Nat.le_refl _))⟩;exact⟨Nat.le_trans (Zhj xs lo hi) hz,_,(r.drop (HT.sIx xs.length 0 lo)).take (HT.sIx xs.length xs.length hi-HT.sIx xs.length 0 lo),IsTup.new _ _⟩
def Zrk(K:PySem.W.Frag):R2:=fun x y H Q=>∃a b xs ys,x=.ref a/\y=.ref b/\SqT K H a xs/\SqT K H b ys/\xs≠[]/\xs.length+ys.length<=sizeLine/\
 (ys=[]->Q (.ref a) H)/\(ys≠[]->∀p,H p=none->Q (.ref p) (upd H p (.tup (xs++ys))))
theorem Yl.nil_iff{xs:List V}{us:List Value}(r:Yl xs us):us=[]↔xs=[]:=by
 cases r with
 |nil=>simp
 |cons _ _=>simp
theorem ZqC:OpR X (binaryOp .Add) (Zrk X.K):=by
 intro pins s σ H x y v u Q I rx ry h;obtain⟨a,b,xs,ys,rfl,rfl,ha,hb,hx,hz,q1,q2⟩:=h;cases rx;cases ry;obtain⟨its,r1,p1,_⟩:=I.tuple ha;obtain⟨its2,r2,p2,_⟩:=I.tuple hb;refine HT.ZqA p1 p2 (fun z=>hx (r1.nil_iff.mp z)) (fun z=>⟨.ref a,H,I,rfl,q1 (r2.nil_iff.mp z)⟩) (fun z=> ?_) (by rw[<-r1.length,<-r2.length];exact hz)
 refine⟨.ref s.heap.objs.size,_,I.laid (t':=s.toks) (o:=.tup (xs++ys)) (fun b ob q=>Heap.get?_push_of_some _ q) (Nat.le_refl _) ?_,rfl,q2 (fun w=>z (r2.nil_iff.mpr w)) _ (I.hok.fresh (Nat.le_refl _))⟩;exact⟨by rw[List.length_append];exact hz,_,r1.append r2,IsTup.new _ _⟩
end
end L2
namespace L2
open PySem PySem.Spec PyProof.Rows
def ixN(n:Nat)(i:Int):Option Nat:=if 0<=i then(if i<n then some i.toNat else none) else if-(n:Int)<=i then some (i+n).toNat else none
def atI{α:Type}(xs:List α)(i:Int):Option α:=(ixN xs.length i).bind fun j=>xs[j]?
theorem ZqD{n:Nat}{i:Int}{j:Nat}(h:ixN n i=some j):seqIndex? i n=some j/\j<n/\-(n:Int)<=i/\i<n:=by
 unfold ixN at h
 by_cases h0:0<=i
 ·rw[if_pos h0] at h
  by_cases h1:i<n
  ·rw[if_pos h1] at h
   have e:i.toNat=j:=Option.some.inj h;exact⟨by rw[seqIndex_of h0 h1,e],by omega,by omega,h1⟩
  ·rw[if_neg h1] at h;cases h
 ·rw[if_neg h0] at h
  by_cases h1: -(n:Int)<=i
  ·rw[if_pos h1] at h
   have e:(i+n).toNat=j:=Option.some.inj h;exact⟨by rw[seqIndex_neg (by omega) h1,e],by omega,h1,by omega⟩
  ·rw[if_neg h1] at h;cases h
theorem ZeQ{α:Type}{xs:List α}{i:Int}{v:α}(h:atI xs i=some v):∃j,seqIndex? i xs.length=some j/\xs[j]? =some v/\j<xs.length/\-(xs.length:Int)<=i/\i<xs.length:=by
 unfold atI at h
 cases e:ixN xs.length i with
 |none=>rw[e] at h;cases h
 |some j=>
  rw[e] at h
  obtain⟨h1,h2,h3,h4⟩:=ZqD e;exact⟨j,h1,h,h2,h3,h4⟩
theorem Zp9{α:Type}(xs:List α)(v:α):atI (xs++[v]) (-1)=some v:=by
 have hl:(xs++[v]).length=xs.length+1:=by simp
 have e:ixN (xs++[v]).length (-1)=some xs.length:=by
  unfold ixN;rw[hl,if_neg (by decide),if_pos (by omega)]
  congr 1
  omega
 unfold atI;rw[e];show(xs++[v])[xs.length]? =some v;simp
def ZqE(b:Expr):Prop:=∀o i,subscripted b false o i=operate [o,i] (getItem o i)
def IxR(X:Cx)(r:R2):Prop:=
 ∀(value slice:Expr) (pins:List (Addr×Obj)) (s:Shared) (σ:St) (H:Hp) (x y:V) (v u:Value) (Q:VK),Inv X pins σ H s->Ye x v->Ye y u->r x y H Q->
  subscripted slice false v u=operate [v,u] (getItem v u)->wpAny (model X.prog X.w) X.A (subscriptTail value slice v u) (EP X pins σ Q) X.xe s
def MtR(X:Cx)(id:String)(r:V->List V->Hp->VK->Prop):Prop:=
 ∀(pins:List (Addr×Obj)) (s:Shared) (σ:St) (H:Hp) (x:V) (xs:List V) (v:Value) (us:List Value) (Q:VK),Inv X pins σ H s->Ye x v->Yl xs us->r x xs H Q->
  wpAny (model X.prog X.w) X.A (call (.builtin id) (v::us)) (EP X pins σ Q) X.xe s
section
variable {X:Cx} {a b:Expr} {ta tb:TE} {pos:Pos}
theorem Zr{r:R2}(hr:IxR X r)(ha:PE X a ta)(hb:PE X b tb)(hs:ZqE b):PE X (.Subscript a b pos) (tOp r ta tb):=by
 intro pins s σ H Q I h;exact Subscript_ (ZrK ha hb I h fun v u s2 x y H2 I2 rx ry q=>hr a b pins s2 σ H2 x y v u Q I2 rx ry q (hs _ _))
def Ztz(K:PySem.W.Frag):R2:=fun x y H Q=>∃p xs i v,x=.ref p/\y=.int i/\SqL K H p xs/\atI xs i=some v/\Q v H
def ZrO(K:PySem.W.Frag):R2:=fun x y H Q=>∃p xs i v,x=.ref p/\y=.int i/\SqT K H p xs/\atI xs i=some v/\Q v H
def ZtA:R2:=fun x y H Q=>∃z i c,x=.str z/\y=.int i/\z.length<=sizeLine/\atI z.cps.toList i=some c/\Q (.str ⟨#[c]⟩) H
theorem YJ:IxR X (Ztz X.K):=by
 intro value slice pins s σ H x y v u Q I rx ry h hs;obtain⟨p,xs,i,z,rfl,rfl,hq,he,q⟩:=h;cases rx;obtain⟨t,rfl⟩:=ry;obtain⟨its,r,pl,hz⟩:=I.list hq;obtain⟨j,h1,h2,h3,h4,h5⟩:=ZeQ he;obtain⟨w,ew,rw'⟩:=r.get h2;have hl:=r.length;have hn:=Zkz;have fin:EP X pins σ Q w s:=⟨z,H,I,rw',q⟩
 by_cases h0:0<=i
 ·have hj:i.toNat=j:=by
   rw[seqIndex_of h0 h5] at h1
   exact Option.some.inj h1
  exact item_listR pl.isList h0 (by omega) (by rw[hj];simpa using ew) fin hs
 ·have hj:(i+(its.toArray.size:Int)).toNat=j:=by
   rw[seqIndex_neg (by omega) h4] at h1
   rw[List.size_toArray,<-hl];exact Option.some.inj h1
  exact subscriptTail_builtinR (x:=w) pl.isList.typeIs slot_list_getitem.lookup
   (wpAny_getItem_list_neg (Q:=fun r s'=>r=w/\EP X pins σ Q r s') pl.isList (by omega) (by rw[List.size_toArray]<;>omega) (by omega) (by rw[hj];simpa using ew) ⟨rfl,fin⟩) hs
theorem Zu:IxR X (ZrO X.K):=by
 intro value slice pins s σ H x y v u Q I rx ry h hs;obtain⟨p,xs,i,z,rfl,rfl,hq,he,q⟩:=h;cases rx;obtain⟨t,rfl⟩:=ry;obtain⟨its,r,pl,hz⟩:=I.tuple hq;obtain⟨j,h1,h2,h3,h4,h5⟩:=ZeQ he;obtain⟨w,ew,rw'⟩:=r.get h2;have hl:=r.length;have hn:=Zkz;have fin:EP X pins σ Q w s:=⟨z,H,I,rw',q⟩
 exact subscriptTail_builtinR (x:=w) pl.typeIs slot_tuple_getitem.lookup
  (getItem_tuple (j:=j) (Q:=fun r s'=>r=w/\EP X pins σ Q r s') pl (by omega) (by omega) (by rw[List.size_toArray,<-hl];exact h1) (by simpa using ew) ⟨rfl,fin⟩) hs
theorem ZkC:IxR X ZtA:=by
 intro value slice pins s σ H x y v u Q I rx ry h hs;obtain⟨z,i,c,rfl,rfl,hz,he,q⟩:=h;obtain⟨t,rfl⟩:=rx;obtain⟨t',rfl⟩:=ry;obtain⟨j,h1,h2,h3,h4,h5⟩:=ZeQ he;have hl:z.cps.toList.length=z.length:=by simp[Str.length]
 rw[hl] at h1 h4 h5
 have hn:=Zkz;exact tail_any (typeIs_str s z t) slot_str_getitem.lookup (getItem_str (c:=c) (by
  have e1:decide (i< -(2^63:Int))=false:=decide_eq_false (by omega);have e2:decide (i≥2^63)=false:=decide_eq_false (by omega);rw[e1,e2,Bool.or_false]) (by rw[h1];simpa using h2) ⟨.str ⟨#[c]⟩,H,I.tok _,⟨_,rfl⟩,q⟩) hs
theorem ZkD(lo hi:Option Int)(n:Nat):(sliceBounds lo hi none n).1=((HT.sIx n 0 lo:Nat):Int)/\(sliceBounds lo hi none n).2.1=((HT.sIx n n hi:Nat):Int)/\(sliceBounds lo hi none n).2.2=1:=by
 refine⟨?_, ?_,rfl⟩
 ·cases lo with
  |none=>simp[sliceBounds,HT.sIx]
  |some i=>
   simp only [sliceBounds,HT.sIx,Option.getD_none,show(1:Int)>0 by decide,if_true]
   by_cases h:i<0
   ·simp only [h,if_true]<;>omega
   ·simp only [h,if_false]<;>omega
 ·cases hi with
  |none=>simp[sliceBounds,HT.sIx]
  |some i=>
   simp only [sliceBounds,HT.sIx,Option.getD_none,show(1:Int)>0 by decide,if_true]
   by_cases h:i<0
   ·simp only [h,if_true]<;>omega
   ·simp only [h,if_false]<;>omega
theorem Zjs(its:List Value)(lo hi:Option Int):slicePick its.toArray lo hi none=((its.drop (HT.sIx its.length 0 lo)).take (HT.sIx its.length its.length hi-HT.sIx its.length 0 lo)).toArray:=by
 obtain⟨h1,h2,h3⟩:=ZkD lo hi its.toArray.size;unfold slicePick;rw[h1,h2,h3];simp only [sliceRange_one,pick_run,List.size_toArray]<;>rfl
def ZtB(K:PySem.W.Frag):V->Option Int->Option Int->Hp->VK->Prop:=fun x lo hi H Q=>∃a xs,x=.ref a/\SqL K H a xs/\∀p,H p=none->Q (.ref p) (upd H p (.lst (Ze8 xs lo hi)))
theorem ZqF:SlR X (ZtB X.K):=by
 intro pins s σ H x v vl vu lo hi sl Q I rx hs pl pu h;obtain⟨a,xs,rfl,hx,q⟩:=h;cases rx;obtain⟨its,r,ht,hz⟩:=I.list hx;have hlen:=r.length;refine⟨"list",_,slot_list_getitem.lookup,ht.isList.typeIs, ?_⟩;refine wpAny_getItem_list_slice ht.isList hs pl pu .none (by simp) ?_ (by rw[List.size_toArray]<;>omega)
 rw[Zjs,<-hlen];refine⟨.ref s.heap.objs.size,_,I.laid (t':=s.toks) (o:=.lst (Ze8 xs lo hi)) (fun b ob q=>Heap.get?_push_of_some _ q) (Nat.le_refl _) ?_,rfl,q _ (I.hok.fresh (Nat.le_refl _))⟩;exact⟨Nat.le_trans (Zhj xs lo hi) hz,_,0,(r.drop (HT.sIx xs.length 0 lo)).take (HT.sIx xs.length xs.length hi-HT.sIx xs.length 0 lo),Heap.get?_push_size _ rfl⟩
def Xy:V->Bool
 | .non=>true
 | .bl _=>true
 | .int _=>true
 | .str _=>true
 |_=>false
def eqV:V->V->Bool
 | .non,.non=>true
 | .bl a,.bl b=>a==b
 | .bl a,.int b=>(if a then 1 else 0)==b
 | .int a,.bl b=>a==(if b then 1 else 0)
 | .int a,.int b=>a==b
 | .str a,.str b=>a==b
 |_,_=>false
theorem Zih{A:Around}{s:Shared}{y x:V}{u v:Value}(ry:Ye y u)(rx:Ye x v)(fy:Xy y=true)(fx:Xy x=true):SeqAt.EqAt A s u v (eqV y x):=by
 cases y with
 |non=>
  cases ry;cases x with
  |non=>cases rx;exact SeqAt.EqAt.same _
  |bl b=>cases rx;exact SeqAt.EqAt.none_bool b
  |int b=>obtain⟨t,rfl⟩:=rx;exact SeqAt.EqAt.none_int b t
  |str b=>obtain⟨t,rfl⟩:=rx;exact SeqAt.EqAt.none_str b t
  |_=>exact absurd (show false=true from fx) Bool.false_ne_true
 |bl a=>
  cases ry;cases x with
  |non=>cases rx;exact SeqAt.EqAt.bool_none a
  |bl b=>cases rx;exact SeqAt.EqAt.bool_bool a b
  |int b=>obtain⟨t,rfl⟩:=rx;exact SeqAt.EqAt.bool_int a b t
  |str b=>obtain⟨t,rfl⟩:=rx;exact SeqAt.EqAt.bool_str a b t
  |_=>exact absurd (show false=true from fx) Bool.false_ne_true
 |int a=>
  obtain⟨t',rfl⟩:=ry;cases x with
  |non=>cases rx;exact SeqAt.EqAt.int_none a t'
  |bl b=>cases rx;exact SeqAt.EqAt.int_bool a t' b
  |int b=>obtain⟨t,rfl⟩:=rx;exact SeqAt.EqAt.int_int a t' b t
  |str b=>obtain⟨t,rfl⟩:=rx;exact SeqAt.EqAt.int_str a t' b t
  |_=>exact absurd (show false=true from fx) Bool.false_ne_true
 |str a=>
  obtain⟨t',rfl⟩:=ry;cases x with
  |non=>cases rx;exact SeqAt.EqAt.str_none a t'
  |bl b=>cases rx;exact SeqAt.EqAt.str_bool a t' b
  |int b=>obtain⟨t,rfl⟩:=rx;exact SeqAt.EqAt.str_int a t' b t
  |str b=>obtain⟨t,rfl⟩:=rx;exact SeqAt.EqAt.str_str a t' b t
  |_=>exact absurd (show false=true from fx) Bool.false_ne_true
 |_=>exact absurd (show false=true from fy) Bool.false_ne_true
def eqU(x:V)(u:Value):Bool:=match u with
 | .none=>eqV .non x
 | .bool b=>eqV (.bl b) x
 | .int i _=>eqV (.int i) x
 | .str z _=>eqV (.str z) x
 |_=>false
theorem Zpa{x y:V}{u:Value}(r:Ye y u)(f:Xy y=true):eqU x u=eqV y x:=by
 cases y with
 |non=>cases r;rfl
 |bl b=>cases r;rfl
 |int i=>obtain⟨t,rfl⟩:=r;rfl
 |str z=>obtain⟨t,rfl⟩:=r;rfl
 |_=>exact absurd (show false=true from f) Bool.false_ne_true
theorem ZfQ{x:V}:∀{xs:List V} {us:List Value},Yl xs us->xs.all Xy=true->us.any (eqU x)=xs.any fun y=>eqV y x
 |_,_,.nil,_=>rfl
 |y::xs,u::us,.cons r t,f=>by
  rw[List.all_cons,Bool.and_eq_true] at f
  rw[List.any_cons,List.any_cons,Zpa r f.1,ZfQ t f.2]
theorem Zeb{A:Around}{s:Shared}{x:V}{v:Value}(rx:Ye x v)(fx:Xy x=true):∀{xs:List V} {us:List Value},Yl xs us->xs.all Xy=true->∀u∈us,SeqAt.EqAt A s u v (eqU x u)
 |_,_,.nil,_=>fun u hu=>by cases hu
 |y::xs,u::us,.cons r t,f=>fun u' hu=>by
  rw[List.all_cons,Bool.and_eq_true] at f
  rcases List.mem_cons.mp hu with rfl|hu
  ·rw[Zpa r f.1];exact Zih r rx f.1 fx
  ·exact Zeb rx fx t f.2 u' hu
def inV(x:V)(xs:List V):Bool:=xs.any fun y=>eqV y x
def rIn(K:PySem.W.Frag)(neg:Bool):R2:=fun x y H Q=>∃p xs,y=.ref p/\(SqL K H p xs\/SqT K H p xs)/\Xy x=true/\xs.all Xy=true/\Q (.bl (if neg then !inV x xs else inV x xs)) H
theorem ZaK:OpR X (compareOp .In) (rIn X.K false):=by
 intro pins s σ H x y v u Q I rx ry h;obtain⟨p,xs,rfl,hq,fx,fs,q⟩:=h;cases ry;rcases hq with hq|hq
 ·obtain⟨its,r,pl,hz⟩:=I.list hq;refine SeqAt.in_listAt (eqU x) pl.isList (fun w hw=>Zeb rx fx r fs w (by simpa using hw)) ⟨.bl _,H,I,rfl, ?_⟩;rw[show its.toArray.any (eqU x)=its.any (eqU x) by simp,ZfQ r fs];exact q
 ·obtain⟨its,r,pl,hz⟩:=I.tuple hq;refine SeqAt.in_tupleAt (eqU x) pl (fun w hw=>Zeb rx fx r fs w (by simpa using hw)) ⟨.bl _,H,I,rfl, ?_⟩;rw[show its.toArray.any (eqU x)=its.any (eqU x) by simp,ZfQ r fs];exact q
theorem Zds:OpR X (compareOp .NotIn) (rIn X.K true):=by
 intro pins s σ H x y v u Q I rx ry h;obtain⟨p,xs,rfl,hq,fx,fs,q⟩:=h;cases ry;rcases hq with hq|hq
 ·obtain⟨its,r,pl,hz⟩:=I.list hq;refine SeqAt.notIn_listAt (eqU x) pl.isList (fun w hw=>Zeb rx fx r fs w (by simpa using hw)) ⟨.bl _,H,I,rfl, ?_⟩;rw[show its.toArray.any (eqU x)=its.any (eqU x) by simp,ZfQ r fs];exact q
 ·obtain⟨its,r,pl,hz⟩:=I.tuple hq;refine SeqAt.notIn_tupleAt (eqU x) pl (fun w hw=>Zeb rx fx r fs w (by simpa using hw)) ⟨.bl _,H,I,rfl, ?_⟩;rw[show its.toArray.any (eqU x)=its.any (eqU x) by simp,ZfQ r fs];exact q
theorem ZfR:Zb6 X (.type "list") (fun xs H Q=>∃p ys,xs=[.ref p]/\(SqL X.K H p ys\/SqT X.K H p ys)/\∀l,H l=none->Q (.ref l) (upd H l (.lst ys))):=by
 intro pins s σ H xs us Q I r h;obtain⟨p,ys,rfl,hq,q⟩:=h;obtain⟨u,rfl,rx⟩:=Zcn r;cases rx;have fin:∀(its:List Value),Yl ys its->ys.length<=sizeLine->∀(h':Heap) (c':Nat),(∀b o',s.heap.get? b=some o'->h'.get? b=some o')->
   h'.get? s.heap.objs.size=some {cls:=.type "list",dict:=none,data:=.seq its.toArray c',slots:= #[]}->EP X pins σ Q (.ref s.heap.objs.size) {s with heap:=h'}:=fun its r' hz h' c' kp e=>
  ⟨.ref s.heap.objs.size,_,I.laid (t':=s.toks) kp (Nat.le_refl _) (show Xu X.prog X.w _ h' _ (.lst ys) from⟨hz,its,c',r',e⟩),rfl,q _ (I.hok.fresh (Nat.le_refl _))⟩
 rcases hq with hq|hq
 ·obtain⟨its,r',pl,hz⟩:=I.list hq;have hlen:=r'.length;obtain⟨o,ho,hc,n,hd⟩:=pl.isList;exact call_list_seq p (.inl rfl) ho hc hd (fun h' c' kp e=>fin its r' hz h' c' kp e) (by simp only [List.size_toArray]<;>omega)
 ·obtain⟨its,r',pl,hz⟩:=I.tuple hq;have hlen:=r'.length;obtain⟨o,ho,hc,n,hd⟩:=pl;exact call_list_seq p (.inr rfl) ho hc hd (fun h' c' kp e=>fin its r' hz h' c' kp e) (by simp only [List.size_toArray]<;>omega)
theorem Zjt:Zb6 X (.type "tuple") (fun xs H Q=>∃p ys,xs=[.ref p]/\((SqL X.K H p ys/\∀l,H l=none->Q (.ref l) (upd H l (.tup ys)))\/(SqT X.K H p ys/\Q (.ref p) H))):=by
 intro pins s σ H xs us Q I r h;obtain⟨p,ys,rfl,h⟩:=h;obtain⟨u,rfl,rx⟩:=Zcn r;cases rx;rcases h with ⟨hq,q⟩|⟨hq,q⟩
 ·obtain⟨its,r',pl,hz⟩:=I.list hq;have hlen:=r'.length;refine call_tuple_list pl.isList (fun h' kp=> ?_) (by simp only [List.size_toArray]<;>omega)
  have I1:Inv X pins σ H {s with heap:=h'}:=I.kept (t':=s.toks) kp;have I2:Inv X pins σ (upd H h'.objs.size (.tup ys)) {s with heap:=h'.push {cls:=.type "tuple",data:=.seq its.toArray}}:=
   I1.laid (t':=s.toks) (fun b o e=>Heap.get?_push_of_some _ e) (Nat.le_refl _) (show Xu X.prog X.w _ _ _ (.tup ys) from⟨hz,its,r',IsTup.new _ _⟩)
  exact⟨.ref h'.objs.size,_,I2,rfl,q _ (I1.hok.fresh (Nat.le_refl _))⟩
 ·obtain⟨its,r',pl,hz⟩:=I.tuple hq;exact call_tuple_same pl ⟨.ref p,H,I,rfl,q⟩
def tyV(K:PySem.W.Frag)(T:String)(x:V)(H:Hp):Prop:=match x with
 | .str _=>T="str"
 | .int _=>T="int"
 | .ref p=>(T="list"/\∃xs,SqL K H p xs)\/(T="tuple"/\∃o,K.lookup p=some o/\o.cls=.type "tuple"/\o.dict=none)\/
   (T="dict"/\((∃kvs,H p=some (.dK kvs))\/∃kvs,H p=some (.dT kvs)))\/(T="set"/\∃S n,H p=some (.set S n))
 |_=>False
theorem ZkE{pins:List (Addr×Obj)}{σ:St}{H:Hp}{s:Shared}{T:String}{x:V}{v:Value}(I:Inv X pins σ H s)(r:Ye x v)(ty:tyV X.K T x H):
  s.TypeIs v T/\∀a,v=.ref a->∃ob,s.heap.get? a=some ob/\ob.dict=none:=by
 cases x with
 |str z=>
  obtain⟨t,rfl⟩:=r;cases(show T="str" from ty);exact⟨typeIs_str s z t,fun _ e=>nomatch e⟩
 |int i=>
  obtain⟨t,rfl⟩:=r;cases(show T="int" from ty);exact⟨typeIs_int s i t,fun _ e=>nomatch e⟩
 |ref p=>
  cases r;rcases ty with ⟨rfl,xs,hq⟩|⟨rfl,o,hk,hc,hd⟩|⟨rfl,hk⟩|⟨rfl,S,n,hk⟩
  ·obtain⟨its,_,pl,_⟩:=I.list hq;refine⟨pl.isList.typeIs,fun a e=> ?_⟩;cases e;obtain⟨o,n,e,c,hd,_⟩:=pl;exact⟨o,e,hd⟩
  ·refine⟨⟨o,I.kIn p o hk,hc⟩,fun a e=> ?_⟩;cases e;exact⟨o,I.kIn _ o hk,hd⟩
  ·have z:∃o,s.heap.get? p=some o/\o.ExactDict:=by
    rcases hk with ⟨kvs,hk⟩|⟨kvs,hk⟩
    ·obtain⟨_,_,_,_,o,_,_,e,ex,_⟩:=I.hok p _ hk;exact⟨o,e,ex⟩
    ·obtain⟨_,_,_,_,o,_,_,e,ex,_⟩:=I.hok p _ hk;exact⟨o,e,ex⟩
   obtain⟨o,e,ex⟩:=z;refine⟨⟨o,e,ex.1⟩,fun a e2=> ?_⟩;cases e2;exact⟨o,e,ex.2.1⟩
  ·obtain⟨o,_,_,_,e,ex,_⟩:=I.hok p _ hk;refine⟨⟨o,e,ex.1⟩,fun a e2=> ?_⟩;cases e2;exact⟨o,e,ex.2.1⟩
 |_=>exact False.elim ty
def ZtC(K:PySem.W.Frag)(T:String)(r:V->List V->Hp->VK->Prop)(to:TE):TE:=fun σ H Q=>to σ H fun x H1=>tyV K T x H1/\r x [] H1 Q
def tBM(K:PySem.W.Frag)(T:String)(r:V->List V->Hp->VK->Prop)(to:TE)(t:TA):TE:=fun σ H Q=>to σ H fun x H1=>tyV K T x H1/\t σ H1 fun xs H2=>r x xs H2 Q
variable {o e:Expr} {es:List Expr} {to:TE} {t:TA} {name:Str} {apos cpos:Pos} {T id:String} {r:V->List V->Hp->VK->Prop}
theorem Zii(pa:PlainAttrs T)(slot:Slot T name id)(hty:typeOf (.builtin id)=pure (.type "method_descriptor"))(hm:MtR X id r)(ho:PE X o to)
  (hbase:attributeBase o name X.env (eval o X.env)=eval o X.env:=by rfl)(hline:(apos.endLine==cpos.line)=true:=by rfl):PE X (.Call (.Attribute o name apos) [] [] cpos) (ZtC X.K T r to):=by
 intro pins s σ H Q I h;refine wpAny_Call_method0_late hbase hline (thn (ho pins s σ H _ I h) fun v s1 ⟨x,H1,I1,r1,ty,q1⟩=> ?_);obtain⟨h1,h2⟩:=ZkE I1 r1 ty;exact⟨T,id,pa,slot,hty,h1,h2,Calls.callWith_builtin rfl (PySem.evalArgs_none (hm pins s1 σ H1 x [] v [] Q I1 r1 .nil q1))⟩
theorem JG(pa:PlainAttrs T)(slot:Slot T name id)(hty:typeOf (.builtin id)=pure (.type "method_descriptor"))(hm:MtR X id r)(ho:PE X o to)(ha:PA X (e::es) t)
  (hbase:attributeBase o name X.env (eval o X.env)=eval o X.env:=by rfl)
  (hfew:((backTo cpos (starEach (e::es) X.env)).all (fun x=> !x.1)&&(backToKw cpos (keywordEach [] X.env)).all (fun x=>x.1.isSome)
   &&decide ((e::es).length+([]:List Keyword).length+(if([]:List Keyword).isEmpty then 0 else 1)<30))=true:=by rfl)
  (hline:(apos.endLine==cpos.line)=true:=by rfl)(hs:starEach (e::es) X.env=(false,eval e X.env)::starEach es X.env:=by rfl)(hplain:(backTo cpos (starEach es X.env)).any (·.1)=false:=by rfl):
  PE X (.Call (.Attribute o name apos) (e::es) [] cpos) (tBM X.K T r to t):=by
 intro pins s σ H Q I h;refine wpAny_Call_method_late hbase hfew hline rfl (thn (ho pins s σ H _ I h) fun v s1 ⟨x,H1,I1,r1,ty,q1⟩=> ?_);obtain⟨h1,h2⟩:=ZkE I1 r1 ty;refine⟨T,id,pa,slot,hty,h1,h2, ?_⟩;have hA:=ha cpos pins s1 σ H1 _ I1 q1;rw[hs] at hA⊢
 refine Calls.callWith_builtin (by show(false||(backTo cpos (starEach es X.env)).any (·.1))=false;rw[hplain]<;>rfl) (Calls.evalArgs_plain ?_)
 exact thn hA fun us s2 ⟨vs,H2,I2,r2,q2⟩=>hm pins s2 σ H2 x vs v us Q I2 r1 r2 q2
end
end L2
namespace L2
open PySem PySem.Spec PyProof.Rows
def MtM(X:Cx)(id:String)(r:V->List V->Hp->VK->Prop):Prop:=
 ∀(pins:List (Addr×Obj)) (s:Shared) (σ:St) (H:Hp) (x:V) (xs:List V) (v:Value) (us:List Value) (Q:VK),Inv X pins σ H s->Ye x v->Yl xs us->r x xs H Q->
  wpAny (model X.prog X.w) X.A (call (.builtin id) (v::us)) (EP X pins σ Q) X.xe s
theorem Yl.one:∀{x:V} {us:List Value},Yl [x] us->∃u,us=[u]/\Ye x u
 |_,_,.cons r .nil=>⟨_,rfl,r⟩
theorem Yl.zero:∀{us:List Value},Yl [] us->us=[]
 |_,.nil=>rfl
theorem Yl.dropLast{xs:List V}{us:List Value}(h:Yl xs us):Yl xs.dropLast us.dropLast:=by
 induction h with
 |nil=>exact .nil
 |cons r t ih=>
  cases t with
  |nil=>exact .nil
  |cons q t'=>exact .cons r ih
theorem ZmE{α:Type}(l:List α):l.eraseIdx (l.length-1)=l.dropLast:=by
 induction l with
 |nil=>rfl
 |cons a r ih=>
  cases r with
  |nil=>rfl
  |cons b r=>
   have e:(a::b::r).length-1=((b::r).length-1)+1:=by
    have h1:(a::b::r).length=r.length+2:=rfl;have h2:(b::r).length=r.length+1:=rfl;omega
   rw[e,List.eraseIdx_cons_succ,ih]
   all_goals rfl
section
variable {X:Cx} {pins:List (Addr×Obj)} {σ:St} {H:Hp} {s:Shared} {l b:Addr} {xs ys zs:List V}
theorem Inv.lset{its its':List Value}{n:Nat}{f:Array Value->Array Value}{t':Nat}(I:Inv X pins σ H s)(hH:H l=some (.lst xs))
  (e:s.heap.get? l=some {cls:=.type "list",data:=.seq its.toArray n})(hf:f its.toArray=its'.toArray)(hv:Yl ys its')(hz:ys.length<=sizeLine):
  Inv X pins σ (upd H l (.lst ys)) {s with heap:=s.heap.update l (Obj.mapSeq f),toks:=t'}:=by
 have q:=PySem.IsL.update e f;rw[hf] at q
 refine I.write (x:=l) (e:=l) (by rw[hH];exact trivial) (.inl rfl) (fun b' u hb hu=>(Heap.get?_update_other s.heap (Obj.mapSeq f) (Ne.symm hb)).trans hu) ⟨_,q⟩ ?_
 exact⟨hz,its',_,hv,q⟩
theorem Inv.lnew{its:List Value}{t':Nat}(I:Inv X pins σ H s)(hv:Yl ys its)(hz:ys.length<=sizeLine):
  Inv X pins σ (upd H s.heap.objs.size (.lst ys)) {s with heap:=s.heap.push {cls:=.type "list",data:=.seq its.toArray},toks:=t'}:=
 I.laid (fun _ _ q=>Heap.get?_push_of_some _ q) (Nat.le_refl _) ⟨hz,its,0,hv,Heap.get?_push_size _ rfl⟩
theorem Inv.fresh(I:Inv X pins σ H s):H s.heap.objs.size=none:=I.hok.fresh (Nat.le_refl _)
theorem Inv.lstM(I:Inv X pins σ H s)(hH:H l=some (.lst xs)):xs.length<=sizeLine/\∃(its:List Value) (n:Nat),Yl xs its/\xs.length=its.length/\s.heap.get? l=some {cls:=.type "list",data:=.seq its.toArray n}:=by
 obtain⟨z,its,n,r,e⟩:=I.hok l _ hH;exact⟨z,its,n,r,r.length,e⟩
end
section
variable {X:Cx}
def ZqG:V->List V->Hp->VK->Prop:=fun x vs H Q=>∃l xs y,x=.ref l/\vs=[y]/\H l=some (.lst xs)/\xs.length<sizeLine/\Q .non (upd H l (.lst (xs++[y])))
theorem Yk:MtM X "list.append" ZqG:=by
 intro pins s σ H x vs v us Q I rx rv h;obtain⟨l,xs,y,rfl,rfl,hH,hz,q⟩:=h;cases rx;obtain⟨u,rfl,ru⟩:=rv.one;obtain⟨z,its,n,r,hl,e⟩:=I.lstM hH;refine call_meets F.slot_list_append ⟨_,e,rfl⟩ F.entry_list_append (F.args_list_append_2 _ _) (PySem.list_append l its.toArray n u (by rw[List.size_toArray];omega)) ⟨e, ?_⟩
 refine⟨.non,_,I.lset (its':=its++[u]) hH e (by simp) (r.append (.cons ru .nil)) ?_,rfl,q⟩;rw[List.length_append,List.length_singleton];omega
def ZsJ:V->List V->Hp->VK->Prop:=fun x vs H Q=>∃l xs y,x=.ref l/\vs=[]/\H l=some (.lst xs)/\xs[xs.length-1]? =some y/\Q y (upd H l (.lst xs.dropLast))
theorem ZkF:MtM X "list.pop" ZsJ:=by
 intro pins s σ H x vs v us Q I rx rv h;obtain⟨l,xs,y,rfl,rfl,hH,hy,q⟩:=h;cases rx;have hus:=rv.zero;subst hus;obtain⟨z,its,n,r,hl,e⟩:=I.lstM hH;obtain⟨u,hu,ru⟩:=r.get hy;have hy':its.toArray[its.toArray.size-1]? =some u:=by
  show its.toArray[its.length-1]? =some u;rw[<-Array.getElem?_toList,<-hl];exact hu
 refine call_meets F.slot_list_pop ⟨_,e,rfl⟩ F.entry_list_pop (F.args_list_pop_1 _) (MeetsSeq.list_pop_last l its.toArray n u hy' (by rw[List.size_toArray];omega)) ⟨e, ?_⟩
 refine⟨y,_,I.lset (its':=its.dropLast) hH e ?_ r.dropLast ?_,ru,q⟩
 ·show its.toArray.eraseIdxIfInBounds (its.toArray.size-1)=its.dropLast.toArray;rw[List.size_toArray,List.eraseIdxIfInBounds_toArray,ZmE]
 ·rw[List.length_dropLast];omega
def ZrP:V->List V->Hp->VK->Prop:=fun x vs H Q=>∃l xs,x=.ref l/\vs=[]/\H l=some (.lst xs)/\Q .non (upd H l (.lst []))
theorem Zpb:MtM X "list.clear" ZrP:=by
 intro pins s σ H x vs v us Q I rx rv h;obtain⟨l,xs,rfl,rfl,hH,q⟩:=h;cases rx;have hus:=rv.zero;subst hus;obtain⟨z,its,n,r,hl,e⟩:=I.lstM hH;refine call_meets F.slot_list_clear ⟨_,e,rfl⟩ F.entry_list_clear (F.args_list_clear_1 _) (AutoSeq1.list_clear_list_0 l its.toArray n (by rw[List.size_toArray];omega)) ⟨e, ?_⟩
 exact⟨.non,_,I.lset (its':=[]) (ys:=[]) hH e rfl .nil (Nat.zero_le _),rfl,q⟩
end
section
variable {prog:Program} {w:World} {A:Around} {E:Value->Shared->Prop} {s:Shared}
end
section
variable {X:Cx}
end
end L2
namespace L2
open PySem PySem.Spec PyProof.Rows
section
variable {κ:Type} [DecidableEq κ]
def YM(kvs:List (κ×V))(k:κ):Option V:=(kvs.find? fun kv=>decide (kv.1=k)).map (·.2)
def Jw(kvs:List (κ×V))(k:κ)(v:V):List (κ×V):=
 if(kvs.any fun kv=>decide (kv.1=k))=true then kvs.map (fun kv=>if kv.1=k then(kv.1,v) else kv) else kvs++[(k,v)]
theorem YF{p:κ×V}{r:List (κ×V)}{k:κ}(e:p.1=k):YM (p::r) k=some p.2:=by simp[YM,List.find?_cons,e]
theorem Yx{p:κ×V}{r:List (κ×V)}{k:κ}(e:¬p.1=k):YM (p::r) k=YM r k:=by simp[YM,List.find?_cons,e]
theorem Zar(k:κ):∀kvs:List (κ×V),(kvs.any fun kv=>decide (kv.1=k))=(YM kvs k).isSome
 |[]=>rfl
 |p::r=>by
  rw[List.any_cons]
  by_cases e:p.1=k
  ·simp only [YF e,decide_eq_true e,Bool.true_or,Option.isSome_some]
  ·rw[Yx e,decide_eq_false e,Bool.false_or];exact Zar k r
theorem Zij(k j:κ)(y:V):∀kvs:List (κ×V),YM (kvs.map fun kv=>if kv.1=k then(kv.1,y) else kv) j=(YM kvs j).map fun x=>if j=k then y else x
 |[]=>rfl
 |p::r=>by
  have ih:=Zij k j y r;rw[List.map_cons]
  by_cases h:p.1=k
  ·rw[if_pos h]
   by_cases e:p.1=j
   ·rw[YF (p:=(p.1,y)) e,YF e,Option.map_some,if_pos (e.symm.trans h)]
   ·rw[Yx (p:=(p.1,y)) e,Yx e,ih]
  ·rw[if_neg h]
   by_cases e:p.1=j
   ·rw[YF (p:=p) e,YF e,Option.map_some,if_neg (fun z=>h (e.trans z))]
   ·rw[Yx (p:=p) e,Yx e,ih]
theorem ZjW(k j:κ)(y:V):∀kvs:List (κ×V),YM kvs k=none->YM (kvs++[(k,y)]) j=if j=k then some y else YM kvs j
 |[],_=>by
  by_cases e:k=j
  ·rw[if_pos e.symm];exact YF (p:=(k,y)) e
  ·rw[if_neg (fun z=>e z.symm)];exact Yx (p:=(k,y)) e
 |p::r,hn=>by
  rw[List.cons_append];have hk:¬p.1=k:=fun z=>by rw[YF z] at hn;cases hn
  rw[Yx hk] at hn
  have ih:=ZjW k j y r hn
  by_cases e:p.1=j
  ·rw[YF e,YF e,if_neg (fun z=>hk (e.trans z))]
  ·rw[Yx e,Yx e,ih]
theorem ZfS(kvs:List (κ×V))(k j:κ)(y:V):YM (Jw kvs k y) j=if j=k then some y else YM kvs j:=by
 unfold Jw
 by_cases a:(kvs.any fun kv=>decide (kv.1=k))=true
 ·rw[if_pos a,Zij];rw[Zar] at a
  by_cases e:j=k
  ·obtain⟨x,hx⟩:=Option.isSome_iff_exists.mp a;rw[if_pos e,e,hx,Option.map_some,if_pos rfl]
  ·rw[if_neg e];cases YM kvs j with
   |none=>rfl
   |some x=>rw[Option.map_some,if_neg e]
 ·rw[if_neg a];refine ZjW k j y kvs ?_;rw[Zar] at a
  cases q:YM kvs k with
  |none=>rfl
  |some x=>rw[q] at a;exact(a rfl).elim
theorem Zb7(kvs:List (κ×V))(k:κ)(v:V):(Jw kvs k v).length<=kvs.length+1:=by
 unfold Jw
 split
 ·rw[List.length_map];omega
 ·rw[List.length_append,List.length_cons,List.length_nil];omega
theorem Zdn.isSome_eq{o:Option V}{u:Option Value}(r:Zdn o u):o.isSome=u.isSome:=by
 cases o with
 |none=>cases u with
  |none=>rfl
  |some _=>exact(show False from r).elim
 |some _=>cases u with
  |none=>exact(show False from r).elim
  |some _=>rfl
theorem Zdn.getD{o:Option V}{u:Option Value}{d:V}{d':Value}(r:Zdn o u)(rd:Ye d d'):Ye (o.getD d) (u.getD d'):=by
 cases o with
 |none=>cases u with
  |none=>exact rd
  |some _=>exact(show False from r).elim
 |some _=>cases u with
  |none=>exact(show False from r).elim
  |some _=>exact r
theorem KV.val{kvs:List (κ×V)}{vs:List (κ×Value)}(r:KV kvs vs)(k:κ):Zdn (YM kvs k) (valueAt vs k):=by
 unfold KV at r
 induction r with
 |nil=>exact True.intro
 | @cons p q ps qs h t ih=>
  obtain⟨h1,h2⟩:=h
  by_cases e:p.1=k
  ·have e':q.1=k:=h1.symm.trans e;have b:valueAt (q::qs) k=some q.2:=by simp[valueAt,List.find?_cons,e']
   rw[YF e,b];exact h2
  ·have e':¬q.1=k:=fun z=>e (h1.trans z);have b:valueAt (q::qs) k=valueAt qs k:=by simp[valueAt,List.find?_cons,e']
   rw[Yx e,b];exact ih
theorem KV.any{kvs:List (κ×V)}{vs:List (κ×Value)}(r:KV kvs vs)(k:κ):(kvs.any fun kv=>decide (kv.1=k))=vs.any fun kv=>decide (kv.1=k):=by
 unfold KV at r
 induction r with
 |nil=>rfl
 |cons h t ih=>rw[List.any_cons,List.any_cons,ih,h.1]
theorem KV.repl{kvs:List (κ×V)}{vs:List (κ×Value)}(r:KV kvs vs)(k:κ){y:V}{u:Value}(ry:Ye y u):
  KV (kvs.map fun kv=>if kv.1=k then(kv.1,y) else kv) (vs.map fun kv=>if kv.1=k then(kv.1,u) else kv):=by
 unfold KV at r⊢
 induction r with
 |nil=>exact .nil
 | @cons p q ps qs h t ih=>
  rw[List.map_cons,List.map_cons];refine .cons ?_ ih;obtain⟨h1,h2⟩:=h
  by_cases e:p.1=k
  ·rw[if_pos e,if_pos (h1.symm.trans e)];exact⟨h1,ry⟩
  ·rw[if_neg e,if_neg (fun z=>e (h1.trans z))];exact⟨h1,h2⟩
theorem KV.put{kvs:List (κ×V)}{vs:List (κ×Value)}(r:KV kvs vs)(k:κ){y:V}{u:Value}(ry:Ye y u):KV (Jw kvs k y) (stored vs k u):=by
 unfold Jw stored;rw[r.any k]
 by_cases e:(vs.any fun kv=>decide (kv.1=k))=true
 ·rw[if_pos e,if_pos e];exact r.repl k ry
 ·rw[if_neg e,if_neg e];exact Paired.snoc r ⟨rfl,ry⟩
theorem KV.keys{kvs:List (κ×V)}{vs:List (κ×Value)}(r:KV kvs vs):kvs.map (·.1)=vs.map (·.1):=by
 unfold KV at r
 induction r with
 |nil=>rfl
 |cons h t ih=>rw[List.map_cons,List.map_cons,ih,h.1]
theorem KV.length{kvs:List (κ×V)}{vs:List (κ×Value)}(r:KV kvs vs):kvs.length=vs.length:=Paired.length r
end
theorem Zik{P:Program}{w:World}{k:Key}{u:Value}(r:Ye (kV k) u):(Xd P w).is k u=true:=by
 cases k with
 |inl i=>obtain⟨t,e⟩:=(show∃t,u=Value.int i t from r);subst e;exact ZlD P w i t
 |inr x=>obtain⟨t,e⟩:=(show∃t,u=Value.str x t from r);subst e;exact ZlE P w x t
theorem ZjX{P:Program}{w:World}:∀{ks:List Key} {us:List Value},Yl (ks.map kV) us->ItemsAre (Xd P w) ks us
 |[],_,r=>by rw[List.map_nil] at r;cases r;exact .nil
 |k::ks,_,r=>by
  rw[List.map_cons] at r
  cases r with
  |cons h t=>exact .cons (Zik h) (ZjX t)
abbrev KT(H:Hp):List (List Key×V)->List (List Key×Addr×Value)->Prop:=Paired fun p q=>p.1=q.1/\H q.2.1=some (.tup (p.1.map kV))/\Ye p.2 q.2.2
theorem KT.val{H:Hp}{kvs:List (List Key×V)}{xs:List (List Key×Addr×Value)}(r:KT H kvs xs)(k:List Key):Zdn (YM kvs k) ((atKey xs k).map (·.2)):=by
 induction r with
 |nil=>exact True.intro
 | @cons p q ps qs h t ih=>
  obtain⟨h1,_,h2⟩:=h
  by_cases e:p.1=k
  ·have e':q.1=k:=h1.symm.trans e;have b:atKey (q::qs) k=some q.2:=by simp[atKey,List.find?_cons,e']
   rw[YF e,b];exact h2
  ·have e':¬q.1=k:=fun z=>e (h1.trans z);have b:atKey (q::qs) k=atKey qs k:=by simp[atKey,List.find?_cons,e']
   rw[Yx e,b];exact ih
theorem KT.repl{H:Hp}{kvs:List (List Key×V)}{xs:List (List Key×Addr×Value)}(r:KT H kvs xs)(k:List Key){y:V}{u:Value}(ry:Ye y u):
  KT H (kvs.map fun kv=>if kv.1=k then(kv.1,y) else kv) (xs.map (putAt k u)):=by
 induction r with
 |nil=>exact .nil
 | @cons p q ps qs h t ih=>
  rw[List.map_cons,List.map_cons];refine .cons ?_ ih;obtain⟨h1,h2,h3⟩:=h;unfold putAt
  by_cases e:p.1=k
  ·rw[if_pos e,if_pos (h1.symm.trans e)];exact⟨h1,h2,ry⟩
  ·rw[if_neg e,if_neg (fun z=>e (h1.trans z))];exact⟨h1,h2,h3⟩
theorem KT.put{H:Hp}{kvs:List (List Key×V)}{xs:List (List Key×Addr×Value)}(r:KT H kvs xs)(k:List Key){b:Addr}{y:V}{u:Value}(hb:H b=some (.tup (k.map kV)))(ry:Ye y u):
  KT H (Jw kvs k y) (storedH xs k b u):=by
 have e:(kvs.any fun kv=>decide (kv.1=k))=(atKey xs k).isSome:=by
  rw[Zar,(r.val k).isSome_eq,Option.isSome_map]
 unfold Jw storedH;rw[e]
 by_cases q:(atKey xs k).isSome=true
 ·rw[if_pos q,if_pos q];exact r.repl k ry
 ·rw[if_neg q,if_neg q];exact Paired.snoc r ⟨rfl,hb,ry⟩
theorem KT.keeps{H H':Hp}{kvs:List (List Key×V)}{xs:List (List Key×Addr×Value)}(r:KT H kvs xs)(ht:∀b ys,H b=some (.tup ys)->H' b=some (.tup ys)):KT H' kvs xs:=
 Paired.mapP r fun _ _ z=>⟨z.1,ht _ _ z.2.1,z.2.2⟩
section
variable {P:Program} {w:World} {H:Hp} {h:Heap} {a:Addr}
theorem Zrl{u:HO}(ok:HOk P w H h)(e:Rd H a u):Xu P w H h a u:=e.ok ok
theorem ZbY{kvs:List (Key×V)}(ok:HOk P w H h)(e:Rd H a (.dK kvs)):kvs.length<=sizeLine/\(a==sysModules)=false/\∃vs,KV kvs vs/\h.DictOf (Xd P w) a vs:=
 show Xu P w H h a (.dK kvs) from Zrl ok e
theorem Zpc{kvs:List (Key×V)}(ok:HOk P w H h)(e:H a=some (.dK kvs)):kvs.length<=sizeLine/\(a==sysModules)=false/\∃vs,KV kvs vs/\h.DictOf (Xd P w) a vs:=ZbY ok (.inl e)
theorem Zgy{ks:List Key}(ok:HOk P w H h)(e:H a=some (.tup (ks.map kV))):(tupleKind (Xd P w)).is h ks a:=by
 obtain⟨_,its,r,o,h1,h2,n,h3⟩:=(show Xu P w H h a (.tup (ks.map kV)) from ok a _ e)
 exact⟨o,its.toArray,n,h1,h2,h3,by simpa using ZjX r⟩
theorem Zil{kvs:List (List Key×V)}(ok:HOk P w H h)(e:Rd H a (.dT kvs)):kvs.length<=sizeLine/\(a==sysModules)=false/\
  ∃xs,KT H kvs xs/\h.DictOfH (tupleKind (Xd P w)) a xs:=by
 obtain⟨z,y,xs,r,o,es,ep,h1,h2,h3,h4,h5⟩:=(show Xu P w H h a (.dT kvs) from Zrl ok e)
 refine⟨z,y,xs,r,o,es,ep,h1,h2,h3,h4,fun x hx=> ?_,h5⟩;have all:∀{l:List (List Key×V)} {m:List (List Key×Addr×Value)},KT H l m->∀x∈m,(tupleKind (Xd P w)).is h x.1 x.2.1:=by
  intro l m q
  induction q with
  |nil=>intro x hx;exact nomatch hx
  | @cons p q ps qs hq t ih=>
   intro x hx;rcases List.mem_cons.mp hx with e|hx
   ·subst e;exact Zgy ok (by rw[<-hq.1];exact hq.2.1)
   ·exact ih x hx
 exact all r x hx
theorem ZsK{kvs:List (List Key×V)}(ok:HOk P w H h)(e:H a=some (.dT kvs)):kvs.length<=sizeLine/\(a==sysModules)=false/\
  ∃xs,KT H kvs xs/\h.DictOfH (tupleKind (Xd P w)) a xs:=Zil ok (.inl e)
end
def Zhv(H:Hp)(a:Addr)(y:V)(r:Option V):Prop:=
 (∃kvs k,Rd H a (.dK kvs)/\y=kV k/\r=YM kvs k)\/∃kvs k b,Rd H a (.dT kvs)/\y=.ref b/\H b=some (.tup (k.map kV))/\r=YM kvs k
def Zgz(H:Hp)(a:Addr)(y v:V)(H':Hp):Prop:=
 (∃kvs k,H a=some (.dK kvs)/\y=kV k/\kvs.length<sizeLine/\H'=upd H a (.dK (Jw kvs k v)))\/
 ∃kvs k b,H a=some (.dT kvs)/\y=.ref b/\H b=some (.tup (k.map kV))/\kvs.length<sizeLine/\H'=upd H a (.dT (Jw kvs k v))
theorem Zgz.k{H:Hp}{a:Addr}{kvs:List (Key×V)}{k:Key}{v:V}(e:H a=some (.dK kvs))(hl:kvs.length<sizeLine):Zgz H a (kV k) v (upd H a (.dK (Jw kvs k v))):=.inl ⟨kvs,k,e,rfl,hl,rfl⟩
section
variable {X:Cx} {pins:List (Addr×Obj)} {σ:St} {H:Hp} {s:Shared} {a:Addr} {y v:V} {u r:Value} {o:Option V} {A:Around} {E:Value->Shared->Prop}
theorem Inv.big(I:Inv X pins σ H s):sysModules<s.heap.objs.size:=by
 have h:mainGlobals<s.heap.objs.size:=(I.mod.glob.keeps I.bk).lt;exact Nat.lt_trans (by decide) h
theorem Zof{Q:Value->Shared->Prop}(hu:A.units+1<cLine)(I:Inv X pins σ H s)(g:Zhv H a y (some v))(ry:Ye y u)(h:∀w' s',Inv X pins σ H s'->Ye v w'->Q w' s'):
  wpAny (model X.prog X.w) A (getItem (.ref a) u) Q E s:=by
 rcases g with ⟨kvs,k,e,ey,l⟩|⟨kvs,k,b,e,ey,eb,l⟩
 ·subst ey;obtain⟨z,hd,vs,rel,dd⟩:=ZbY I.hok e;obtain⟨w',hw,rw'⟩:=Zdn.some_of (v:=v) (o:=valueAt vs k) (by rw[l];exact rel.val k)
  exact wpAny_getItem_of (Zik ry) dd.mapOf hw (h w' _ (I.tok _) rw')
 ·subst ey;cases(show u=Value.ref b from ry);obtain⟨z,hd,xs,rel,dd⟩:=Zil I.hok e;obtain⟨w',hw,rw'⟩:=Zdn.some_of (v:=v) (o:=(atKey xs k).map (·.2)) (by rw[l];exact rel.val k)
  obtain⟨p,hp,hp2⟩:=Option.map_eq_some_iff.mp hw;refine wpAny_getItem_heap (tupleKind_room_in1 hu) (Zgy I.hok eb) dd hp ?_;rw[hp2];exact h w' _ (I.tok _) rw'
theorem ZtD{Q:Value->Shared->Prop}(hu:A.units+1<cLine)(I:Inv X pins σ H s)(g:Zhv H a y o)(ry:Ye y u)(h:∀s',Inv X pins σ H s'->Q (.bool o.isSome) s'):
  wpAny (model X.prog X.w) A (compareOp .In u (.ref a)) Q E s:=by
 rcases g with ⟨kvs,k,e,ey,l⟩|⟨kvs,k,b,e,ey,eb,l⟩
 ·subst ey;obtain⟨z,hd,vs,rel,dd⟩:=ZbY I.hok e;refine wpAny_in_of (Zik ry) hd dd.mapOf ?_;rw[<-(rel.val k).isSome_eq,<-l];exact h _ (I.tok _)
 ·subst ey;cases(show u=Value.ref b from ry);obtain⟨z,hd,xs,rel,dd⟩:=Zil I.hok e;refine wpAny_in_heap (tupleKind_room_in1 hu) (Zgy I.hok eb) hd dd ?_;have q:=(rel.val k).isSome_eq;rw[Option.isSome_map] at q
  rw[<-q,<-l];exact h _ (I.tok _)
theorem ZqH{Q:Value->Shared->Prop}(hu:A.units+1<cLine)(I:Inv X pins σ H s)(g:Zhv H a y o)(ry:Ye y u)(h:∀s',Inv X pins σ H s'->Q (.bool (!o.isSome)) s'):
  wpAny (model X.prog X.w) A (compareOp .NotIn u (.ref a)) Q E s:=by
 rcases g with ⟨kvs,k,e,ey,l⟩|⟨kvs,k,b,e,ey,eb,l⟩
 ·subst ey;obtain⟨z,hd,vs,rel,dd⟩:=ZbY I.hok e;refine wpAny_notIn_of (Zik ry) hd dd.mapOf ?_;rw[<-(rel.val k).isSome_eq,<-l];exact h _ (I.tok _)
 ·subst ey;cases(show u=Value.ref b from ry);obtain⟨z,hd,xs,rel,dd⟩:=Zil I.hok e;refine wpAny_notIn_heap (tupleKind_room_in1 hu) (Zgy I.hok eb) hd dd ?_;have q:=(rel.val k).isSome_eq;rw[Option.isSome_map] at q
  rw[<-q,<-l];exact h _ (I.tok _)
theorem ZhT{h':Heap}{t':Nat}{ob:HO}(I:Inv X pins σ H s)(mu:Mut (H a))(hs:Heap.SameBut a s.heap h')(he:∃q,h'.get? a=some q)(new:Xu X.prog X.w (upd H a ob) h' a ob):
  Inv X pins σ (upd H a ob) {s with heap:=h',toks:=t'}:=
 I.write (x:=a) (e:=a) mu (.inl rfl) (fun b q hb z=>(hs.2 b hb).trans z) he new
theorem ZkG{P:Program}{w:World}{H':Hp}{h':Heap}{kvs:List (Key×V)}{vs:List (Key×Value)}(z:kvs.length<=sizeLine)(hd:(a==sysModules)=false)(rel:KV kvs vs)(dd:h'.DictOf (Xd P w) a vs):
  Xu P w H' h' a (.dK kvs):=⟨z,hd,vs,rel,dd⟩
theorem Zog{H':Hp}{Q:Unit->Shared->Prop}(hu:A.units+1<cLine)(I:Inv X pins σ H s)(g:Zgz H a y v H')(ry:Ye y u)(rv:Ye v r)(h:∀s',Inv X pins σ H' s'->Q () s'):
  wpAny (model X.prog X.w) A (setItem (.ref a) u r) Q E s:=by
 rcases g with ⟨kvs,k,e,ey,l,eH⟩|⟨kvs,k,b,e,ey,eb,l,eH⟩
 ·subst ey eH;obtain⟨z,hd,vs,rel,dd⟩:=Zpc I.hok e;have hz:vs.length<=sizeLine:=by rw[<-rel.length];exact z
  have hl:(Jw kvs k v).length<=sizeLine:=by have:=Zb7 kvs k v;omega
  refine wpAny_setItem_pairs (hsz:=hz) (Zik ry) dd fun h' dd' hs=>h _ ?_;have he:∃q,h'.get? a=some q:=let ⟨q,_,_,hq,_⟩:=dd';⟨q,hq⟩;exact ZhT I (by rw[e];exact True.intro) hs he (ZkG hl hd (rel.put k rv) dd')
 ·subst ey eH;cases(show u=Value.ref b from ry);obtain⟨z,hd,xs,rel,dd⟩:=ZsK I.hok e;have hz:xs.length<=sizeLine:=by rw[<-Paired.length rel];exact z
  have hl:(Jw kvs k v).length<=sizeLine:=by have:=Zb7 kvs k v;omega
  refine wpAny_setItem_heap (hsz:=hz) (tupleKind_room_in1 hu) (Zgy I.hok eb) dd fun h' dd' hs=>h _ ?_;obtain⟨q,es,ep,hq,h2,h3,h4,_,h5⟩:=dd';refine ZhT I (by rw[e];exact True.intro) hs ⟨q,hq⟩ ⟨hl,hd,_,(rel.put k eb rv).keeps fun c ys ec=> ?_,q,es,ep,hq,h2,h3,h4,h5⟩
  rw[Zm (Yj ec e (fun z=>nomatch z))];exact ec
end
section
variable {X:Cx} {pins:List (Addr×Obj)} {σ:St} {H:Hp} {s:Shared} {a:Addr} {kvs:List (Key×V)} {k:Key} {u:Value} {A:Around} {E:Value->Shared->Prop}
theorem ZqI{Q:Value->Shared->Prop}(I:Inv X pins σ H s)(e:H a=some (.dK kvs))(h:∀s',Inv X pins σ (upd H a (.dK [])) s'->Q .none s'):wpAny (model X.prog X.w) A (call (.builtin "dict.clear") [.ref a]) Q E s:=by
 obtain⟨z,hd,vs,rel,dd⟩:=Zpc I.hok e;refine call_meetsIn PySem.F.slot_dict_clear dd.typeIs PySem.F.entry_dict_clear (PySem.F.args_dict_clear_1 _) (meets_dict_clear (Xd X.prog X.w) a) ⟨vs,dd,by rw[<-rel.length];exact z,fun h' dd' hs=>h _ ?_⟩
 have he:∃q,h'.get? a=some q:=let ⟨q,_,_,hq,_⟩:=dd';⟨q,hq⟩;exact ZhT (t':=s.toks) I (by rw[e];exact True.intro) hs he (ZkG (Nat.zero_le _) hd .nil dd')
end
def ZsL(i:Expr):Prop:=∀ov iv,subscripted i false ov iv=operate [ov,iv] (getItem ov iv)
theorem ZqJ{prog:Program}{w:World}{A:Around}{E:Value->Shared->Prop}{s:Shared}{env:Env}{value slice:Expr}{pos:Pos}{T id:String}{Q:Value->Shared->Prop}
  (hl:typeLookup (.type T) "__getitem__"=pure (some (.builtin id)))(hs:ZsL slice)
  (h:wpAny (model prog w) A (eval value env) (fun o s₁=>wpAny (model prog w) A (eval slice env) (fun i s₂=>s₂.TypeIs o T/\wpAny (model prog w) A (getItem o i) Q E s₂) E s₁) E s):
  wpAny (model prog w) A (eval (.Subscript value slice pos) env) Q E s:=by
 refine Subscript_ (wpAny_mono h (fun o s₁ h₁=>wpAny_mono h₁ (fun i s₂ h₂=> ?_) fun _ _ x=>x) fun _ _ x=>x);obtain⟨hT,h₂⟩:=h₂;unfold subscriptTail;refine wpAny_bind ?_;rw[getitemInPython_of_ne hT.not_modules];refine wpAny_bind (wpAny_specialOf hT hl ?_);have fin:wpAny (model prog w) A (subscripted slice false o i) (fun r s₃=>wpAny (model prog w) A (letTemporaryGo value o r>>=fun _=>pure r) Q E s₃) E s₂:=by
  rw[hs o i];exact wpAny_operating (wpAny_mono h₂ (fun r s₃ h₃=>wpAny_bind (wpAny_letTemporaryGo (wpAny_pure h₃))) fun _ _ x=>x)
 first
  |exact wpAny_pure (wpAny_bind fin)
  |exact wpAny_bind (wpAny_pure (wpAny_bind fin))
  |exact wpAny_bind fin
theorem ZlK{X:Cx}{pins:List (Addr×Obj)}{σ:St}{H:Hp}{s:Shared}{a:Addr}{y:V}{o:Option V}(I:Inv X pins σ H s)(g:Zhv H a y o):s.TypeIs (.ref a) "dict":=by
 rcases g with ⟨kvs,k,e,_,_⟩|⟨kvs,k,b,e,_,_,_⟩
 ·obtain⟨_,_,vs,_,dd⟩:=ZbY I.hok e;exact dd.typeIs
 ·obtain⟨_,_,xs,_,dd⟩:=Zil I.hok e;exact dd.typeIs
def ZsM(td ty:TE):TE:=fun σ H Q=>td σ H fun x H1=>ty σ H1 fun y H2=>∃a v,x=.ref a/\Zhv H2 a y (some v)/\Q v H2
def ZtE(ty td:TE):TE:=fun σ H Q=>ty σ H fun y H1=>td σ H1 fun x H2=>∃a o,x=.ref a/\Zhv H2 a y o/\Q (.bl o.isSome) H2
def ZqK(ty td:TE):TE:=fun σ H Q=>ty σ H fun y H1=>td σ H1 fun x H2=>∃a o,x=.ref a/\Zhv H2 a y o/\Q (.bl (!o.isSome)) H2
def ZsN(td ty tv:TE):TS:=fun D σ H=>tv σ H fun v H1=>td σ H1 fun x H2=>ty σ H2 fun y H3=>∃a H4,x=.ref a/\Zgz H3 a y v H4/\D.nx σ H4
section
variable {X:Cx} {o i e value:Expr} {pos pos' tpos:Pos} {td ty tv:TE}
theorem Za9(hu:X.A.units+1<cLine)(ho:PE X o td)(hi:PE X i ty)(hs:ZsL i):PE X (.Subscript o i pos) (ZsM td ty):=by
 intro pins s σ H Q I h;refine ZqJ PySem.F.slot_dict_getitem.lookup hs (thn (ho pins s σ H _ I h) fun u s1 ⟨x,H1,I1,rx,q1⟩=>thn (hi pins s1 σ H1 _ I1 q1) fun iv s2 ⟨y,H2,I2,ry,a,v,ex,g,q2⟩=> ?_);subst ex;obtain rfl:u=Value.ref a:=rx;exact⟨ZlK I2 g,Zof hu I2 g ry fun w' s3 I3 rw'=>⟨v,H2,I3,rw',q2⟩⟩
theorem Zim(hu:X.A.units+1<cLine)(hi:PE X i ty)(ho:PE X o td):PC X .In i o (ZtE ty td):=by
 intro pins s σ H Q I h;refine thn (hi pins s σ H _ I h) fun iv s1 ⟨y,H1,I1,ry,q1⟩=>thn (ho pins s1 σ H1 _ I1 q1) fun u s2 ⟨x,H2,I2,rx,a,ov,ex,g,q2⟩=> ?_;subst ex;obtain rfl:u=Value.ref a:=rx;exact ZtD hu I2 g ry fun s3 I3=>⟨.bl ov.isSome,H2,I3,rfl,q2⟩
theorem Zd1(hu:X.A.units+1<cLine)(hi:PE X i ty)(ho:PE X o td):PC X .NotIn i o (ZqK ty td):=by
 intro pins s σ H Q I h;refine thn (hi pins s σ H _ I h) fun iv s1 ⟨y,H1,I1,ry,q1⟩=>thn (ho pins s1 σ H1 _ I1 q1) fun u s2 ⟨x,H2,I2,rx,a,ov,ex,g,q2⟩=> ?_;subst ex;obtain rfl:u=Value.ref a:=rx;exact ZqH hu I2 g ry fun s3 I3=>⟨.bl (!ov.isSome),H2,I3,rfl,q2⟩
theorem ZbG(hu:X.A.units+1<cLine)(ho:PE X o td)(hi:PE X i ty)(hv:PE X value tv)(hs:swapsWith value (some (.Subscript o i pos')) pos.line X.env=pure false):
  PS X (.Assign [.Subscript o i pos'] value pos) (ZsN td ty tv):=by
 intro pins s σ H D I h;refine wpAny_Assign_Subscript (thn (hv pins s σ H _ I h) fun r s1 ⟨v,H1,I1,rv,q1⟩=>thn (ho pins s1 σ H1 _ I1 q1) fun u s2 ⟨x,H2,I2,rx,q2⟩=>thn (hi pins s2 σ H2 _ I2 q2) fun iv s3 ⟨y,H3,I3,ry,a,H4,ex,g,q3⟩=> ?_) hs;subst ex;obtain rfl:u=Value.ref a:=rx;exact Zog hu I3 g ry rv fun s4 I4=>⟨σ,H4,I4,q3⟩
end
theorem Zpd{P:Program}{w:World}{H:Hp}(h:Heap)(hb:sysModules<h.objs.size):Xu P w H (h.push {cls:=.type "dict",data:=.dict #[]}) h.objs.size (.dK []):=
 ⟨Nat.zero_le _,beq_eq_false_iff_ne.mpr (Ne.symm (Nat.ne_of_lt hb)),[],.nil,Heap.DictOf.new h⟩
def ZrQ:TE:=fun _ H Q=>∀p,H p=none->Q (.ref p) (upd H p (.dK []))
section
variable {X:Cx} {pos:Pos}
theorem Za4:PE X (.Dict [] [] pos) ZrQ:=fun pins s σ H Q I h=>
 wpAny_Dict_empty ⟨.ref s.heap.objs.size,_,I.laid (a:=s.heap.objs.size) (o:=.dK []) (t':=s.toks) (fun _ _ q=>Heap.get?_push_of_some _ q) (Nat.le_refl _) (Zpd s.heap I.big),rfl,h _ (I.hok.fresh (Nat.le_refl _))⟩
end
structure M2 (X:Cx) (o:Expr) (m:Str) (apos:Pos) (e f:Expr) (cpos:Pos):Prop where
 base:attributeBase o m X.env (eval o X.env)=eval o X.env
 few:((backTo cpos (starEach [e,f] X.env)).all (fun x=> !x.1)&&(backToKw cpos (keywordEach [] X.env)).all (fun x=>x.1.isSome)
  &&decide (([e,f]:List Expr).length+([]:List Keyword).length+(if([]:List Keyword).isEmpty then 0 else 1)<30))=true
 line:(apos.endLine==cpos.line)=true
 trees:backTo cpos (starEach [e,f] X.env)=[(false,eval e X.env),(false,eval f X.env)]
def IsD(H:Hp)(a:Addr):Prop:=(∃kvs,Rd H a (.dK kvs))\/∃kvs,Rd H a (.dT kvs)
theorem Zpe{X:Cx}{pins:List (Addr×Obj)}{σ:St}{H:Hp}{s:Shared}{a:Addr}(I:Inv X pins σ H s)(d:IsD H a):
  s.TypeIs (.ref a) "dict"/\(∀b,Value.ref a=.ref b->∃ob,s.heap.get? b=some ob/\ob.dict=none)/\(a==sysModules)=false:=by
 rcases d with ⟨kvs,e⟩|⟨kvs,e⟩
 ·obtain⟨_,hd,vs,_,dd⟩:=ZbY I.hok e;refine⟨dd.typeIs,fun b q=> ?_,hd⟩;cases q;obtain⟨ob,_,_,h1,h2,_⟩:=dd;exact⟨ob,h1,h2.2.1⟩
 ·obtain⟨_,hd,xs,_,dd⟩:=Zil I.hok e;refine⟨dd.typeIs,fun b q=> ?_,hd⟩;cases q;obtain⟨ob,_,_,h1,h2,_⟩:=dd;exact⟨ob,h1,h2.2.1⟩
section
variable {X:Cx} {pins:List (Addr×Obj)} {σ:St} {H:Hp} {s:Shared} {a:Addr} {y d:V} {u r:Value} {o:Option V} {A:Around} {E:Value->Shared->Prop}
theorem ZrR{Q:Value->Shared->Prop}(hu:A.units+1<cLine)(I:Inv X pins σ H s)(g:Zhv H a y o)(ry:Ye y u)(rd:Ye d r)(h:∀w' s',Inv X pins σ H s'->Ye (o.getD d) w'->Q w' s'):
  wpAny (model X.prog X.w) A (call (.builtin "dict.get") [.ref a,u,r]) Q E s:=by
 rcases g with ⟨kvs,k,e,ey,l⟩|⟨kvs,k,b,e,ey,eb,l⟩
 ·subst ey;obtain⟨z,hd,vs,rel,dd⟩:=ZbY I.hok e;refine call_meetsIn PySem.F.slot_dict_get dd.typeIs PySem.F.entry_dict_get (PySem.F.args_dict_get_3 _ _ _) (meets_dict_get_default (Xd X.prog X.w) a (Zik ry) hd r) ⟨_,dd.mapOf,h _ _ (I.tok _) ?_⟩;rw[l];exact(rel.val k).getD rd
 ·subst ey;cases(show u=Value.ref b from ry);obtain⟨z,hd,xs,rel,dd⟩:=Zil I.hok e;refine call_meetsIn PySem.F.slot_dict_get dd.typeIs PySem.F.entry_dict_get (PySem.F.args_dict_get_3 _ _ _) (meetsH_dict_get_default (tupleKind (Xd X.prog X.w)) a b hd r) ⟨tupleKind_room_in1 hu,k,xs,Zgy I.hok eb,dd,h _ _ (I.tok _) ?_⟩;rw[l];exact(rel.val k).getD rd
end
def ZrS(td ty tx:TE):TE:=fun σ H Q=>td σ H fun x H1=>∃a,x=.ref a/\IsD H1 a/\ty σ H1 fun y H2=>tx σ H2 fun z H3=>∃o,Zhv H3 a y o/\Q (o.getD z) H3
section
variable {X:Cx} {o e f:Expr} {apos cpos:Pos} {td ty tx:TE}
theorem Zin(hu:X.A.units+1<cLine)(ho:PE X o td)(he:PE X e ty)(hf:PE X f tx)(m:M2 X o "get" apos e f cpos):PE X (.Call (.Attribute o "get" apos) [e,f] [] cpos) (ZrS td ty tx):=by
 intro pins s σ H Q I h;refine wpAny_Call_method m.base m.few m.line PySem.F.plainAttrs_dict PySem.F.slot_dict_get PySem.F.type_dict_get (thn (ho pins s σ H _ I h) fun u s1 ⟨x,H1,I1,rx,a,ex,d,q1⟩=> ?_);subst ex;obtain rfl:u=Value.ref a:=rx;obtain⟨t1,t2,_⟩:=Zpe I1 d;refine⟨t1,t2, ?_⟩;rw[m.trees];refine Calls.callWith_builtin rfl (Calls.evalArgs_plain (Calls.spliced_cons (thn (he pins s1 σ H1 _ I1 q1) fun iv s2 ⟨y,H2,I2,ry,q2⟩=>
  Calls.spliced_cons (thn (hf pins s2 σ H2 _ I2 q2) fun fv s3 ⟨z,H3,I3,rz,ov,g,q3⟩=>Calls.spliced_nil ?_))))
 exact ZrR hu I3 g ry rz fun w' s4 I4 rw'=>⟨_,H3,I4,rw',q3⟩
end
section
variable {X:Cx} {pins:List (Addr×Obj)} {σ:St} {H:Hp} {s:Shared} {a:Addr} {kvs:List (Key×V)} {A:Around} {E:Value->Shared->Prop}
theorem Zpf{Q:Value->Shared->Prop}(I:Inv X pins σ H s)(e:Rd H a (.dK kvs))(h:∀p s',H p=none->Inv X pins σ (upd H p (.dK kvs)) s'->Q (.ref p) s'):wpAny (model X.prog X.w) A (call (.type "dict") [.ref a]) Q E s:=by
 obtain⟨z,hd,vs,rel,dd⟩:=ZbY I.hok e;refine kt_call_dict hd dd (by rw[<-rel.length];exact z) fun h' dd' hs=> ?_
 refine h _ _ (I.hok.fresh (Nat.le_refl _)) (I.laid (a:=s.heap.objs.size) (o:=.dK kvs) (t':=s.toks) (fun b q hq=> ?_) (Nat.le_refl _) (ZkG z (beq_eq_false_iff_ne.mpr (Ne.symm (Nat.ne_of_lt I.big))) rel dd'));exact(hs.2 b (Nat.ne_of_lt (Heap.lt_size hq))).trans (Heap.get?_push_of_some _ hq)
end
section
variable {X:Cx} {pins:List (Addr×Obj)} {σ:St} {H:Hp} {s:Shared} {a:Addr} {y:V} {u:Value} {A:Around} {E:Value->Shared->Prop}
end
end L2
namespace Att
open PySem PySem.W PySem.Calls PyProof.Rows
theorem Zhw{P:Params}{h:Heap}:∀(ns:List Int) (vs:List Value),WellAll P h vs (ns.map WData.int)->IntsAre vs ns:=by
 intro ns
 induction ns with
 |nil=>
  intro vs w;rw[List.map_nil] at w
  cases w;exact .nil
 |cons n ns ih=>
  intro vs w;rw[List.map_cons] at w
  cases w with
  |cons a b=>
   cases a;exact .cons _ _ (ih _ b)
theorem script_of{l:OpenLaw}{n:Nat}(hn:l.most=some n){P:Params}{h:Heap}{args:List WData}{vals:List Value}
  (hpre:l.row.toRowW.claim.pre args=true)(hwl:WellAll P h vals args):
  ∃a vs ns,vals=[Value.ref a]/\args=[WData.list (ns.map WData.int)]/\h.get? a=some {cls:=.type "list",data:=.seq vs.toArray}/\IntsAre vs ns/\ns.length<=n:=by
 have hsh:WShape.hasAll [] args [.list .int]=true:=(pre_splitW hpre).1;have hc:l.pre.holds [] {args:=args}=true:=(pre_splitW hpre).2;obtain⟨d,r,rfl,h1,h2⟩:=hasAllW_cons hsh;obtain rfl:=hasAllW_nil h2;obtain⟨xs,rfl,h3⟩:=hasW_list h1;obtain⟨ns,rfl⟩:=items_int h3;have hlen:ns.length<=n:=by
  unfold OpenLaw.pre at hc
  have h4:(WTm.not (.lt (.lit (.int (n:Int))) (.len (.arg 0)))).holds [] {args:=[.list (ns.map .int)]}=true:=by
   have h4:=(holds_andW hc).1;rw[hn] at h4
   exact h4
  have h5:=condW_of h4 (w_not (w_lt w_lit (w_len_list (w_arg rfl))));rw[List.length_map] at h5
  refine Nat.le_of_not_lt fun q=> ?_;have q':(n:Int)<((ns.length:Nat):Int):=by omega
  first
   |(rw[decide_eq_true q'] at h5;exact absurd h5 (by decide))
   |(simp at h5;omega)
 cases hwl with
 |cons w1 w2=>
  cases w2;cases w1 with
  |list ho hall=>exact⟨_,_,ns,rfl,rfl,ho,Zhw ns _ hall,hlen⟩
theorem post_true(l:OpenLaw)(args:List WData):l.row.toRowW.claim.post args (.bool true) args=true:=
 postW_of (r:=l.row.toRowW) (X:=(true==true))
  (show WShape.has [] (.bool true) .bool=true by first|rfl|decide|simp[WShape.has,WShape.arms,WShape.armsAll])
  (show(WTm.eq .res (.lit (.bool true))).value [] {args:=args,res:=some (.bool true),after:=args}=some (.bool (true==true)) from w_eq_bool (w_res rfl) w_lit) rfl
section
variable {prog:Program} {w:World} {A:Around} {E:Value->Shared->Prop} {s:Shared} {K:Frag}
end
end Att
namespace L2
open PySem PySem.Spec PyProof.Rows
theorem ZjY:∀{vs:List Value} {ns:List Int},IntsAre vs ns->Yl (ns.map V.int) vs
 |_,_,.nil=> .nil
 |_,_,.cons n t h=> .cons ⟨t,rfl⟩ (ZjY h)
def ZsO(H:Hp):Prop:=∀b,H b=none\/∃o xs,H b=some (.frz o (.lst xs))
theorem Zpg{P:Program}{w:World}{K:PySem.W.Frag}{mg mb:Str->Option Value}{CX:CXT}{k:Nat}{fa a:Addr}{fd:FuncData}{x:Str}{sp:Sp}{s₁:Shared}{vs:List Value}{ns:List Int}
  (KX:K.In s₁.heap)(hns:s₁.heap.Ns mainGlobals mg)(hb:s₁.heap.Ns builtinsNs mb)(hbb:∀x:Str,x≠"__name__"->mb x=bootBuiltins x)(hlim:s₁.heap.NoLimit)(hg:s₁.gens= #[])
  (ha:s₁.heap.get? a=some {cls:=.type "list",data:=.seq vs.toArray})(hi:IntsAre vs ns)(hl:ns.length<=sizeLine)(hr:Zao k callerA)
  (F:∀base:Heap,K.In base->base.Ns mainGlobals mg->Yn P w K mg base CX k fa fd [x] sp)(hbind:∀(s:Shared) (u:Value),BindsTo s fd ⟨[u],[]⟩ [(x,u)])
  (hsp:∀H:Hp,ZsO H->SqL K H a (ns.map V.int)->sp [.ref a] H (fun v _=>v=.bl true) fun _ _ _=>False)
  (hCX:∀H e s',CX [] H s₁ (fun _ _ _=>False) e s'->False):
  codeAny (model P w) callerA (.call (.ref fa) ⟨[.ref a],[]⟩) (fun r s'=>r=.ok (.ret (.bool true))/\OldK s₁.heap s'.heap/\s'.os=s₁.os/\AllBare s'.gens) s₁:=by
 have rv:=ZjY hi;have lenV:=hi.length;have core:∀H:Hp,ZsO H->SqL K H a (ns.map V.int)->HOk P w H s₁.heap->(∀b,H b≠none->b=a)->(H a≠none->K.lookup a=none)->
   codeAny (model P w) callerA (.call (.ref fa) ⟨[.ref a],[]⟩) (fun r s'=>r=.ok (.ret (.bool true))/\OldK s₁.heap s'.heap/\s'.os=s₁.os/\AllBare s'.gens) s₁:=by
  intro H hO hS hok hA hK;have base_of:∀{b:Addr} {o:Obj},s₁.heap.get? b=some o->H b=none->(Zkv s₁.heap H).get? b=some o:=fun e n=>ZoU e n;have noA:∀{b:Addr} {o:Obj} {es:Array DictEntry} {ep:Nat},s₁.heap.get? b=some o->o.data=.dict es ep->H b=none:=fun{b o es ep} e d=>by
   cases q:H b with
   |none=>rfl
   |some u=>
    have e':b=a:=hA b (by rw[q];simp)
    subst e';rw[ha] at e;cases e
    have d':Data.seq vs.toArray _=Data.dict es ep:=d;cases d'
  have nsK:∀{b:Addr} {m:Str->Option Value},s₁.heap.Ns b m->(Zkv s₁.heap H).Ns b m:=fun{b m} ⟨o,es,ep,e,d,r⟩=>⟨o,es,ep,base_of e (noA e d),d,r⟩
  have hKb:K.In (Zkv s₁.heap H):=fun b o e=>base_of (KX b o e) (by
   cases q:H b with
   |none=>rfl
   |some u=>
    have e':b=a:=hA b (by rw[q];simp)
    subst e';rw[hK (by rw[q];simp)] at e;cases e)
  have hM:Mod K mg (Zkv s₁.heap H):=⟨hKb,nsK hns,⟨mb,nsK hb,hbb⟩,let ⟨mc,h1,h2⟩:=hlim;⟨mc,nsK h1,h2⟩⟩
  have e0:ZmB P w K mg (Zkv s₁.heap H) callerA [] s₁ H:=⟨rfl,hM,fun b o e=>Zqt e,Nat.le_of_eq (Zo3 _ _),trivial,fun b hb=>absurd (show b∈([]:List Addr) from hb) (by simp),hok,.of_eq hg⟩
  refine codeAny_mono ((F _ hKb (nsK hns)).run callerA [] s₁ H ⟨[.ref a],[]⟩ [.ref a] [.ref a] _ _ hr e0 (hbind s₁ (.ref a)) (.cons rfl .nil) (hsp H hO hS)) fun r s' h=> ?_;cases r with
  |error e=>exact(hCX H e s' h).elim
  |ok fl=>
   cases fl with
   |next=>exact False.elim h
   |brk=>exact False.elim h
   |cont=>exact False.elim h
   |ret u=>
    obtain⟨v,H',os,bare,un,hok',r',q⟩:=h;have q':v=.bl true:=q;subst q';obtain rfl:u=Value.bool true:=r';refine⟨rfl,OldK.of_keep fun b o e=> ?_,os,bare⟩;cases q:H b with
    |none=>exact un.keep b o e q (by intro z;exact absurd (show b∈([]:List Addr) from z) (by simp)) (by simp)
    |some u=>
     rcases hO b with z|⟨ob,xs,z⟩
     ·rw[q] at z;cases z
     ·have z2:=un.frzs b ob _ z;obtain⟨e1,_⟩:=hok b _ z;obtain⟨e2,_⟩:=hok' b _ z2;rw[e] at e1;cases e1
      exact e2
 cases hk:K.lookup a with
 |some o=>
  have e:=KX a o hk;rw[ha] at e
  cases e;refine core (fun _=>none) (fun _=> .inl rfl) (.inr ⟨_,vs.toArray,_,hk,rfl,rfl,rfl,by rw[List.size_toArray,lenV];exact hl,by simpa using rv⟩) (fun b u z=>by have z':(none:Option HO)=some u:=z;cases z') (fun b z=>absurd rfl z) fun z=>absurd rfl z
 |none=>
  refine core (fun b=>if b=a then some (.frz {cls:=.type "list",data:=.seq vs.toArray} (.lst (ns.map V.int))) else none) (fun b=> ?_) (.inl (.inr ⟨{cls:=.type "list",data:=.seq vs.toArray},if_pos rfl⟩)) (fun b u z=> ?_) (fun b z=> ?_) fun _=>hk
  ·by_cases hb:b=a
   ·exact .inr ⟨_,_,if_pos hb⟩
   ·exact .inl (if_neg hb)
  ·by_cases hb:b=a
   ·have z':=(if_pos hb).symm.trans z;cases z';subst hb;exact⟨ha,by rw[List.length_map];exact hl,vs,_,rv,ha⟩
   ·have z':=(if_neg hb).symm.trans z;cases z'
  ·by_cases hb:b=a
   ·exact hb
   ·exact absurd (if_neg hb) z
end L2
namespace L2
open PySem PySem.Spec PyProof.Rows
end L2
namespace L2
open PySem PySem.Spec PyProof.Rows
def Xl(s:Stmt)(j:Nat):Stmt:=match s with
 | .ClassDef _ _ _ body _ _ _ _ _ _ _=>body.getD j (.Pass ⟨0,0,0,0⟩)
 |_=> .Pass ⟨0,0,0,0⟩
def ZeR(s:Stmt):Arguments:=match s with
 | .FunctionDef _ a _ _ _ _ _ _ _ _=>a
 |_=>{posonlyargs:=[],args:=[],vararg:=none,kwonlyargs:=[],kw_defaults:=[],kwarg:=none,defaults:=[]}
def Zdt(s:Stmt):List Stmt:=match s with
 | .FunctionDef _ _ b _ _ _ _ _ _ _=>b
 |_=>[]
def Zw(s:Stmt):Scope:=match s with
 | .FunctionDef _ _ _ _ _ _ sc _ _ _=>sc
 |_=>{kind:=.function,names:=[],isGenerator:=false,isCoroutine:=false}
abbrev CX0:CXT:=fun _ _ _ _ _ _=>False
abbrev E0:XK:=fun _ _ _=>False
theorem ZJ{X:Cx}:ZbX CX0 X E0:=fun _ _ _ _ _ _ _ h=>h.elim
structure Fun (K:PySem.W.Frag) (x qual:Str) (st:Stmt) (f:Addr) (fd:FuncData):Prop where
 ex:∃(oc:Value) (od:Option Addr) (kV doc pm:Value) (an:Option Addr) (cdv ct:Value) (osl:Array (Option Value)),
  fd=PySem.W.fnOf x qual (ZeR st) (Zdt st) (Zw st) .none kV doc pm an cdv ct/\K.lookup f=some ⟨oc,od,.func fd,osl⟩/\PySem.W.codeIn K cdv qual=true
 kp:PySem.W.keepIn K (.ref f)=true
section
variable {P:Program} {w:World} {K:PySem.W.Frag} {mg:Str->Option Value} {base:Heap}
theorem Fun.ok{x qual:Str}{st:Stmt}{f:Addr}{fd:FuncData}{N ps:List Str}{k:Nat}{sp:Sp}(F:Fun K x qual st f fd)(S:ZG N ps (Zw st))(len:∀vs H Q E,sp vs H Q E->vs.length=ps.length)
  (hbody:∀(cdv:Value) (A:Around) (outer:List Env) (s:Shared) (H:Hp) (vs:List V) (Q:VK) (E:XK),Zao k (A.deeper (envOfC qual (Zw st) s.heap.objs.size f cdv))->sp vs H Q E->
   ∃t,PSs (Zod CX0 P w K mg base N qual (Zw st) f cdv A outer s H E).nox (Zdt st) t/\t {nx:=fun _ H'=>Q .non H',rt:=Q} (Zfa N vs) H):Yn P w K mg base CX0 (k+1) f fd ps sp:=by
 obtain⟨oc,od,kV,doc,pm,an,cdv,ct,osl,rfl,lk,hcd⟩:=F.ex;refine ZsG lk hcd S len fun A outer s H vs Q E hr hsp=> ?_;obtain⟨t,h,q⟩:=hbody cdv A outer s H vs Q E hr hsp;exact⟨t,h.nox,q⟩
theorem Fun.binds{x qual:Str}{st:Stmt}{f:Addr}{fd:FuncData}{ps:List Str}(F:Fun K x qual st f fd)
  (h:∀(kV doc pm:Value) (an:Option Addr) (cdv ct:Value) (us:List Value),us.length=ps.length->bindArgs (PySem.W.fnOf x qual (ZeR st) (Zdt st) (Zw st) .none kV doc pm an cdv ct) ⟨us,[]⟩=pure (ps.zip us)):Zea K fd ps []:=by
 obtain⟨oc,od,kV,doc,pm,an,cdv,ct,osl,rfl,lk,hcd⟩:=F.ex;exact .all (h kV doc pm an cdv ct)
theorem ZmF{x qual:Str}{st:Stmt}{f:Addr}{oc:Value}{od an:Option Addr}{osl:Array (Option Value)}{kV doc pm cdv ct:Value}(l:K.lookup f=some ⟨oc,od,.func (PySem.W.fnOf x qual (ZeR st) (Zdt st) (Zw st) .none kV doc pm an cdv ct),osl⟩)
  (c:PySem.W.codeIn K cdv qual=true)(k:PySem.W.keepIn K (.ref f)=true):Fun K x qual st f (PySem.W.fnOf x qual (ZeR st) (Zdt st) (Zw st) .none kV doc pm an cdv ct):=⟨⟨oc,od,kV,doc,pm,an,cdv,ct,osl,rfl,l,c⟩,k⟩
end
theorem ZaJ{A:Around}{k:Nat}(hr:Zao k A):A.units+1<cLine:=Nat.lt_of_le_of_lt (Nat.add_le_add_left (by decide:1<=64) _) hr.units
section
variable {X:Cx}
theorem pv(i:Nat){x:Str}{pos:Pos}(hN:X.N[i]? =some x:=by rfl)(hv:Vis X.env.scope x:=by first|exact Or.inl rfl|exact Or.inr (Or.inl rfl)|exact Or.inr (Or.inr rfl)) (hd:(x==("__debug__":Str))=false:=by decide)
  (hcd:(x==("__classdict__":Str))=false:=by decide):PE X (.Name x pos) (Zo5 i):=ZrE hN hv hd hcd
end
theorem ZW{A B:Prop}(h:B):if false=true then A else B:=by
 rw[if_neg Bool.false_ne_true];exact h
theorem XX{A B:Prop}(h:A):if true=true then A else B:=by
 rw[if_pos rfl];exact h
theorem Yp{c A B:Prop} [Decidable c](h1:c->A)(h2:¬c->B):if c then A else B:=by
 by_cases h:c
 ·rw[if_pos h];exact h1 h
 ·rw[if_neg h];exact h2 h
theorem ZsP{c A B:Prop} [Decidable c](hc:c)(h:B):if(!decide c)=true then A else B:=by
 rw[decide_eq_true hc];exact ZW h
def Zy(H H':Hp):Prop:=∀b o,H b=some o->H' b=some o
theorem Zy.refl(H:Hp):Zy H H:=fun _ _ h=>h
theorem Zy.trans{H H1 H2:Hp}(a:Zy H H1)(b:Zy H1 H2):Zy H H2:=fun c o h=>b c o (a c o h)
theorem Zy.free{H H':Hp}(e:Zy H H'){l:Addr}(h:H' l=Option.none):H l=Option.none:=by
 cases q:H l with
 |none=>rfl
 |some o=>
  rw[e l o q] at h
  cases h
theorem Zy.seq{K:PySem.W.Frag}{H H':Hp}{a:Addr}{xs:List V}(e:Zy H H')(h:SqL K H a xs):SqL K H' a xs:=by
 rcases h with (h|⟨o,h⟩)|h
 ·exact .inl (.inl (e _ _ h))
 ·exact .inl (.inr ⟨o,e _ _ h⟩)
 ·exact .inr h
section
variable {κ:Type} [DecidableEq κ]
end
end L2
namespace L3
open PySem PySem.Spec PyProof.Rows L2
theorem up{α:Type}{M:Model}{A:Around}{t:Sem α}{Q:α->Shared->Prop}{E:Value->Shared->Prop}{s:Shared}(h:wpAny M A t Q (fun _ _=>False) s):wpAny M A t Q E s:=wpAny_mono h (fun _ _ z=>z) fun _ _ z=>z.elim
theorem ZqL{prog:Program}{w:World}{A:Around}{E:Value->Shared->Prop}{s:Shared}{l b:Addr}{vs ws:List Value}{Q:Value->Shared->Prop}(hl:s.heap.IsList l vs.toArray)(hb:s.heap.IsList b ws.toArray)
  (h:Q (.ref s.heap.objs.size) {s with heap:=s.heap.push {cls:=.type "list",data:=.seq (vs++ws).toArray}})(hz:vs.length+ws.length<=sizeLine):wpAny (model prog w) A (binaryOp .Add (.ref l) (.ref b)) Q E s:=by
 obtain⟨⟨c1,d1,t1,l1⟩,o1,k1,n1,e1⟩:=id hl;obtain⟨⟨c2,d2,t2,l2⟩,o2,k2,n2,e2⟩:=id hb;simp only at k1 e1 k2 e2
 subst k1 e1 k2 e2;refine concat_meets ⟨_,o1,rfl⟩ ⟨_,o2,rfl⟩ noFill_list_add seq_list_add PySem.F.slot_list_add PySem.F.entry_list_add (PySem.F.args_list_add_2 _ _) (list_addW l b vs.toArray ws.toArray n1 n2 d1 d2 l1 l2 (by simpa using hz)) ⟨o1,o2, ?_⟩;have ea:vs.toArray++ws.toArray=(vs++ws).toArray:=by simp
 rw[ea];exact h
section
variable {X:Cx}
theorem ZbH:OpR X (binaryOp .Mult) (rI IntMulOk fun i j=> .int (i*j)):=opI fun _ _ _ _ _ _ _ hc q=>mul_int q hc
def ZsQ(K:PySem.W.Frag):R2:=fun x y H Q=>∃l b xs zs,x=.ref l/\y=.ref b/\SqL K H l xs/\SqL K H b zs/\xs.length+zs.length<=sizeLine/\∀p,H p=none->Q (.ref p) (upd H p (.lst (xs++zs)))
theorem ZeS:OpR X (binaryOp .Add) (ZsQ X.K):=by
 intro pins s σ H x y v u Q I rx ry h;obtain⟨l,b,xs,zs,rfl,rfl,h1,h2,hz,q⟩:=h;cases rx;cases ry;obtain⟨its,r,pl,_⟩:=I.list h1;obtain⟨its2,r2,pl2,_⟩:=I.list h2;obtain⟨m,F⟩:=I.fr;have e1:=r.length;have e2:=r2.length;refine ZqL pl.isList pl2.isList ?_ (by omega);exact⟨.ref _,_,I.lnew (t':=s.toks) (r.append r2) (by rw[List.length_append];omega),rfl,q _ I.fresh⟩
theorem Zio:∀{bs:List Bool} {us:List Value},Yl (bs.map V.bl) us->LSm.BoolsAre us bs
 |[],us,r=>by
  rw[List.map_nil] at r
  cases r;exact .nil
 |b::bs,us,r=>by
  rw[List.map_cons] at r
  cases r with
  |cons r1 r2=>
   cases(show _=Value.bool b from r1);exact .cons b (Zio r2)
def ZsR:V->Option Value
 | .ty n=>some (.type n)
 | .ref a=>some (.ref a)
 |_=>none
theorem Zag:Zb6 X (.builtin "isinstance") (fun xs H Q=>∃x y t c b,xs=[x,y]/\ZsR y=some c/\Zdr X.K H x t/\PySem.W.kitOne X.K t c=some b/\Q (.bl b) H):=by
 intro pins s σ H xs us Q I r h;obtain⟨x,y,t,c,b,rfl,hy,ty,e,q⟩:=h;obtain⟨u,u2,rfl,rx,ry⟩:=Zp2 r;have ec:u2=c:=by
  cases y with
  |ty n=>cases hy;exact ry
  |ref a=>cases hy;exact ry
  |_=>cases hy
 subst ec;exact Zoc I rx ty e fun tk=>⟨.bl b,H,I.tok _,rfl,q⟩
end
def Ext:L2.St->L2.St->Prop
 |[],[]=>True
 |none::a,_::b=>Ext a b
 |some v::a,w::b=>w=some v/\Ext a b
 |_,_=>False
theorem Ext.len:∀{a b:L2.St},Ext a b->a.length=b.length
 |[],[],_=>rfl
 |none::a,_::b,h=>by
  have h:Ext a b:=h;simp[h.len]
 |some v::a,w::b,h=>by
  have h:w=some v/\Ext a b:=h;simp[h.2.len]
 |[],_::_,h=>h.elim
 |none::_,[],h=>h.elim
 |some _::_,[],h=>h.elim
theorem Ext.get:∀{a b:L2.St},Ext a b->∀(i:Nat) (v:V),a[i]? =some (some v)->b[i]? =some (some v)
 |[],[],_,i,v,e=>by simp at e
 |none::a,_::b,h,i,v,e=>by
  have h:Ext a b:=h;cases i with
  |zero=>simp at e
  |succ i=>simpa using h.get i v (by simpa using e)
 |some z::a,w::b,h,i,v,e=>by
  have h:w=some z/\Ext a b:=h;cases i with
  |zero=>
   have e':z=v:=by simpa using e
   subst e';rw[h.1]
   rfl
  |succ i=>simpa using h.2.get i v (by simpa using e)
 |[],_::_,h,_,_,_=>h.elim
 |none::_,[],h,_,_,_=>h.elim
 |some _::_,[],h,_,_,_=>h.elim
def frY(own:List Str)(fr:List (Str×Nat))(σ:L2.St):L2.St:=own.map (fun _=>none)++fr.map fun p=>σ.getD p.2 none
def nmY(own:List Str)(fr:List (Str×Nat)):List Str:=own++fr.map (·.1)
def Jo(X:Cx)(N:List Str)(scope:Scope)(cl:List (Str×Addr))(C:Addr)(s:Shared)(H:Hp)(fp:List Addr):Cx:=
 {X with N:=N,s₀:=s,H₀:=H,env:=compEnvC scope cl C X.env,outer:=X.stack,stack:=X.stack,ex:=fp,fn:=fun _=>false,pn:=[],xe:=fun _ _=>False}
def ZmG:Option NameKind->Bool
 |some .cell=>true
 |some .free=>true
 |_=>false
theorem ZkH{o:Option NameKind}(h:ZmG o=true):o=some .cell\/o=some .free:=by
 cases o with
 |none=>cases h
 |some k=>cases k<;>first|exact .inl rfl|exact .inr rfl|cases h
def ZmH(X:Cx)(scope:Scope):List (Str×Nat)->Prop
 |[]=>True
 |p::r=>(X.N[p.2]? =some p.1/\ZmG (X.env.scope.names.lookup p.1)=true/\ZmG ((relabel scope X.env).names.lookup p.1)=true)/\ZmH X scope r
theorem ZmH.mem{X:Cx}{scope:Scope}:∀{fr:List (Str×Nat)},ZmH X scope fr->∀p∈fr,X.N[p.2]? =some p.1/\ZmG (X.env.scope.names.lookup p.1)=true/\ZmG ((relabel scope X.env).names.lookup p.1)=true
 |[],_,p,hp=>by simp at hp
 |q::r,h,p,hp=>by
  have h:_/\ZmH X scope r:=h;rcases List.mem_cons.mp hp with rfl|hmore
  ·exact h.1
  ·exact h.2.mem p hmore
def ZmI(X:Cx):List (Str×Addr)->Prop
 |[]=>True
 |p::r=>X.env.cells.lookup p.1=some p.2/\ZmI X r
theorem ZmI.get{X:Cx}:∀{cl:List (Str×Addr)},ZmI X cl->∀x c,cl.lookup x=some c->X.env.cells.lookup x=some c
 |[],_,x,c,e=>by simp at e
 |(n,a)::r,h,x,c,e=>by
  have h:X.env.cells.lookup n=some a/\ZmI X r:=h
  by_cases hx:x=n
  ·subst hx;simp only [List.lookup_cons,beq_self_eq_true] at e
   cases e;exact h.1
  ·have hb:(x==n)=false:=by simpa using hx
   simp only [List.lookup_cons,hb] at e
   exact h.2.get x c e
def Zfg(scope:Scope)(env:Env)(cl:List (Str×Addr)):Bool:=
 scope.kind==.function&&scope.names.all (fun y=>y.2 !=.cell)&&scope.names.all (fun y=>y.2 !=.local||scope.names.lookup y.1==some .local)&&
 (relabel scope env).names.all (fun y=> !ZmG (some y.2)||(cl.lookup y.1).isSome)
def ZlL:TT:=fun _ H Q=>Q true H
def PTs(X:Cx)(ifs:List Expr)(t:TT):Prop:=
 ∀(pins:List (Addr×Obj)) (s:Shared) (σ:L2.St) (H:Hp) (Q:Bool->Hp->Prop),Inv X pins σ H s->t σ H Q->
  wpAny (model X.prog X.w) X.A (forIn ifs true fun c r=>if r=true then do let ok<-isTrue c X.env (eval c X.env);pure (ForInStep.yield ok) else pure (ForInStep.yield r)) (TP X pins σ Q) X.xe s
theorem Zdu{X:Cx}:PTs X [] ZlL:=fun _ _ _ H _ I h=>wpAny_tests_nil ⟨H,I,h⟩
theorem JB{X:Cx}{c:Expr}{t:TT}(h:PT X c t):PTs X [c] t:=fun pins s σ H Q I q=>wpAny_tests_one (h pins s σ H Q I q)
theorem ZqM{prog:Program}{w:World}{A:Around}{R:Result->Shared->Prop}{s:Shared}{elt tg iter:Expr}{ifs:List Expr}{scope:Scope}{pos:Pos}{it acc:Value}{env:Env}(J:Nat->Shared->Prop)
  (turn:∀n s,J n s->∀E:Value->Shared->Prop,wpAny (model prog w) A (pyNext it) (fun r s₁=>(r=none/\R (.ok .next) s₁)\/∃v,r=some v/\
    wpAny (model prog w) A (letOwnedTupleGo tg it v) (fun _ s₂=>wpAny (model prog w) A (assign tg env v) (fun _ s₃=>
     wpAny (model prog w) A (forIn ifs true fun c r=>if r=true then do let ok<-isTrue c env (eval c env);pure (ForInStep.yield ok) else pure (ForInStep.yield r)) (fun ok s₄=>
      (ok=true/\wpAny (model prog w) A (eval elt env) (fun x s₅=>wpAny (model prog w) A (call (.builtin "list.append") [acc,x]) (fun _ s₆=>∃m,m<n/\J m s₆) E s₅) E s₄)\/
      (ok=false/\∃m,m<n/\J m s₄)) E s₃) E s₂) E s₁) E s)
  (n:Nat)(h:J n s):codeAny (model prog w) A (.compLoop (.ListComp elt [⟨tg,iter,ifs,0⟩] scope pos) 0 it acc env) R s:=by
 refine codeAny_loop rfl J (fun n s hJ=> ?_) n h;show wpAny _ A ((compTurn (.ListComp elt [⟨tg,iter,ifs,0⟩] scope pos) 0 it acc env).onRaise (fun x=>do noteFrame x env;theTreesLotGoes x)) _ _ s
 refine wpAny_noted ?_;rw[compTurn_list];refine wpAny_bind (wpAny_standAt (wpAny_bind (thn (turn n s hJ _) fun r s₁ h₁=> ?_)));rcases h₁ with ⟨rfl,h₁⟩|⟨v,rfl,h₁⟩
 ·exact wpAny_pure h₁
 ·refine wpAny_bind (thn h₁ fun _ s₂ h₂=>wpAny_bind (thn h₂ fun _ s₃ h₃=>wpAny_bind (thn h₃ fun ok s₄ h₄=> ?_)));rcases h₄ with ⟨rfl,h₄⟩|⟨rfl,h₄⟩
  ·exact wpAny_bind (wpAny_bind (thn h₄ fun x s₅ h₅=>wpAny_bind (thn h₅ fun _ s₆ h₆=>wpAny_pure (wpAny_pure ⟨rfl,h₆⟩))))
  ·exact wpAny_pure ⟨rfl,h₄⟩
def Zph(J:It)(own:List Str)(fr:List (Str×Nat))(g:TG)(tc:TT)(te:TE)(σ:L2.St)(H1:Hp)(Q:VK):Prop:=∀D,H1 D=none->∃W:Nat->Nat->List V->Hp->Prop,(∃m,W 0 m [] (upd H1 D (.lst [])))/\
 ∀i m ys H2,W i m ys H2->H2 D=some (.lst ys)/\((J.stop i H2/\Q (.ref D) H2)\/(J.go i H2/\∃N:List V->Hp->Prop,(∀zs H',N zs H'->∃m',m'<m/\W (i+1) m' zs H')/\
  ∀x H',J.yld i H2 x H'->g x (frY own fr σ) H' fun σ3 H3=>Ext (frY own fr σ) σ3/\tc σ3 H3 fun b H4=>if b=true then te σ3 H4 fun v H5=>H5 D=some (.lst ys)/\ys.length<sizeLine/\N (ys++[v]) (upd H5 D (.lst (ys++[v]))) else N ys H4))
def Zpi(wi:TI)(own:List Str)(fr:List (Str×Nat))(g:TG)(tc:TT)(te:TE):TE:=fun σ H Q=>wi σ H fun J H1=>Zph J own fr g tc te σ H1 Q
theorem ZjZ{X:Cx}{elt tg iter:Expr}{ifs:List Expr}{scope:Scope}{pos ipos:Pos}{wi:TI}{g:TG}{tc:TT}{te:TE}{cl:List (Str×Addr)}(own:List Str)(fr:List (Str×Nat))(hc:X.calm=true)(hi:PI X tg iter wi)
  (hclos:closureFor scope X.env=pure cl)(hcl:ZmI X cl)(hok:Zfg scope X.env cl=true)(hfr:ZmH X scope fr)
  (hg:∀C s H fp,PG (Jo X (nmY own fr) scope cl C s H fp) tg g)(ht:∀C s H fp,PTs (Jo X (nmY own fr) scope cl C s H fp) ifs tc)(he:∀C s H fp,PE (Jo X (nmY own fr) scope cl C s H fp) elt te)
  (hs:∀x,foldedSetIterable iter X.env x=pure x){pins:List (Addr×Obj)}{s:Shared}{σ:L2.St}{H:Hp}{Q:VK}{use:Option (Value->Sem Unit)}{PQ:Value->Shared->Prop}(I:Inv X pins σ H s)(h:Zpi wi own fr g tc te σ H Q)
  (hend:∀(s6:Shared) (H5:Hp) (C D:Addr) (m:Str->Option Value),Inv X pins σ H5 s6->s6.heap.Ns C m->Zjr X pins H5 C->Q (.ref D) H5->compPost (model X.prog X.w) X.A X.xe use PQ (.ref D) C (.ok .next) s6):
  wpAny (model X.prog X.w) X.A (comprehension (.ListComp elt [⟨tg,iter,ifs,0⟩] scope pos) scope X.env ipos (newList []) false (eval iter X.env) use) PQ X.xe s:=by
 have ok1:scope.kind=.function:=by
  unfold Zfg at hok
  simp only [Bool.and_eq_true,beq_iff_eq] at hok
  exact hok.1.1.1
 have ok2:∀y∈scope.names,y.2≠.cell:=by
  unfold Zfg at hok
  simp only [Bool.and_eq_true,List.all_eq_true] at hok
  intro y hy
  simpa using hok.1.1.2 y hy
 have ok3:∀y∈scope.names,y.2=.local->scope.names.lookup y.1=some .local:=by
  unfold Zfg at hok
  simp only [Bool.and_eq_true,List.all_eq_true] at hok
  intro y hy e;have:=hok.1.2 y hy
  simpa [e] using this
 have ok4:∀x,(relabel scope X.env).names.lookup x=some .cell\/(relabel scope X.env).names.lookup x=some .free->∃c,cl.lookup x=some c:=by
  unfold Zfg at hok
  simp only [Bool.and_eq_true,List.all_eq_true] at hok
  intro x hx;have key:∀k,(relabel scope X.env).names.lookup x=some k->ZmG (some k)=true->∃c,cl.lookup x=some c:=fun k e hk=>by
   have:=hok.2 (x,k) (PySem.mem_of_lookup e);simp only [hk,Bool.not_true,Bool.false_or] at this
   exact Option.isSome_iff_exists.mp this
  rcases hx with e|e
  ·exact key _ e rfl
  ·exact key _ e rfl
 refine wpAny_comprehension_free (use:=use) rfl hs hclos ok1 ok3 ?_;refine thn (hi pins s σ H _ I h) fun v s1 h1=>thn h1 fun itv s2 h2=> ?_;obtain⟨it,fp,tn,J,H2,e,I2,T,st2,f2,hD⟩:=h2;subst e;have lt2:∀b∈fp,b<s2.heap.objs.size:=fun b hb=>by
  obtain⟨o,e,_⟩:=T.obj _ _ st2 b hb;exact Heap.lt_size e
 refine wpAny_newObj_type (wpAny_newFunctionEnv ok2 (by intro y hy;simp at hy) (fun h₁ hns₁ hsb₁=> ?_) ok1)
 obtain⟨W,⟨m0,w0⟩,turn⟩:=hD s2.heap.objs.size I2.fresh;have I3:Inv X pins σ (upd H2 s2.heap.objs.size (.lst [])) {s2 with heap:=s2.heap.push {cls:=.type "list",data:=.seq ([]:List Value).toArray}}:=I2.lnew (t':=s2.toks) .nil (Nat.zero_le _);have st3:=T.keep 0 _ (s2.heap.push {cls:=.type "list",data:=.seq ([]:List Value).toArray}) st2 fun b hb o e=>Heap.get?_push_of_some _ e;have f3:∀b∈fp,Zjr X pins (upd H2 s2.heap.objs.size (.lst [])) b:=fun b hb=>⟨by rw[Zm (Nat.ne_of_lt (lt2 b hb))];exact(f2 b hb).1,(f2 b hb).2⟩
 generalize hs3:({s2 with heap:=s2.heap.push {cls:=.type "list",data:=.seq ([]:List Value).toArray}}:Shared)=s3 at I3
 have es3:s3.heap=s2.heap.push {cls:=.type "list",data:=.seq ([]:List Value).toArray}:=by rw[<-hs3]
 have eg3:s3.gens=s2.gens:=by rw[<-hs3]
 have lt3:∀b∈fp,b<s3.heap.objs.size:=fun b hb=>by rw[es3,Heap.size_push];exact Nat.lt_succ_of_lt (lt2 b hb)
 rw[<-es3] at st3
 have hns:h₁.Ns s3.heap.objs.size (fun x=>([]:List (Str×Value)).reverse.lookup x):=by rw[es3];exact hns₁
 have k34:∀b o,s3.heap.get? b=some o->h₁.get? b=some o:=fun b o e=>by
  have hsb:=hsb₁.extBut b o;rw[es3] at e
  exact hsb (Nat.ne_of_lt (Heap.lt_size e)) (Heap.get?_push_of_some _ e)
 generalize hs4:({s3 with heap:=h₁,toks:=s3.toks+([]:List (Str×Value)).length}:Shared)=s4;have es4:s4.heap=h₁:=by rw[<-hs4]
 have st4:tn 0 s4.heap:=T.keep 0 _ _ st3 fun b hb o e=>by rw[es4];exact k34 b o e
 have IY:Inv (Jo X (nmY own fr) scope cl s3.heap.objs.size s3 (upd H2 s2.heap.objs.size (.lst [])) fp) [] (frY own fr σ) (upd H2 s2.heap.objs.size (.lst [])) s4:=by
  refine⟨⟨I3.ok.mod,ok1,I3.ok.glob,I3.ok.blt,Nat.le_refl _,fun x y c e1 e2=>I3.ok.inj x y c (hcl.get x c e1) (hcl.get y c e2),fun x hx=>ok4 x hx,(fun x c z=>nomatch z),I3.ok.hd,I3.ok.frames,.inl rfl,
   fun b hb=>⟨Nat.ne_of_lt (lt3 b hb),fun x c e=>(f3 b hb).2.2.2.2.1 x c (hcl.get x c e)⟩,I3.bs,Nat.le_trans I3.ok.bsz I3.sz,fun b o e hb=> ?_,fun b hb z=> ?_,I3.stack,I3.stkFree⟩,
   by rw[<-hs4];rfl,by rw[<-hs4];exact I3.bare,Un.kept (by rw[es4];exact k34),⟨_,by rw[es4];exact hns,fun i x v e1 e2 e3=> ?_⟩,fun x c e=> ?_,I3.hok.fresh (Nat.le_refl _),fun x c e=>I3.freeC x c (hcl.get x c e),fun p hp=>absurd hp (by simp[Jo]),by rw[es4];exact I3.hok.kept k34, ?_⟩
  ·rcases(f3 b hb).2.2.2.1 with z|z
   ·exact I3.ok.noex b o e z
   ·exact absurd (Nat.lt_of_lt_of_le (Heap.lt_size (I3.ok.bs b o e).1) z) (Nat.lt_irrefl _)
  ·rcases List.mem_cons.mp (I3.stkSub b z) with q|q
   ·exact(f3 b hb).2.1 q
   ·exact(f3 b hb).2.2.1 q
  ·have e1:(own++fr.map (·.1))[i]? =some x:=e1;have e2:(own.map (fun _=>(none:Option V))++fr.map fun p=>σ.getD p.2 none)[i]? =some (some v):=e2;have hi:own.length<=i:=by
    refine Nat.le_of_not_lt fun hlt=> ?_;rw[List.getElem?_append_left (by simpa using hlt),List.getElem?_map] at e2
    cases q:own[i]? with
    |none=>rw[q] at e2;cases e2
    |some a=>rw[q] at e2;cases e2
   rw[List.getElem?_append_right hi,List.getElem?_map] at e1
   rw[List.getElem?_append_right (by simpa using hi),List.getElem?_map,List.length_map] at e2
   cases q:fr[i-own.length]? with
   |none=>rw[q] at e1;cases e1
   |some p=>
    rw[q] at e1 e2
    obtain rfl:p.1=x:=Option.some.inj e1;have e2:σ.getD p.2 none=some v:=Option.some.inj e2;have e4:σ[p.2]? =some (some v):=by
     rw[List.getD_eq_getElem?_getD] at e2
     cases z:σ[p.2]? with
     |none=>rw[z] at e2;cases e2
     |some a=>
      rw[z] at e2
      have e2:a=some v:=e2;rw[e2]
    obtain⟨n1,n2,n3⟩:=hfr.mem p (List.mem_of_getElem? q);obtain⟨m,hn,hl⟩:=I3.loc;have vis:Vis X.env.scope p.1:=.inr (ZkH n2);obtain⟨u,r,l⟩:=hl p.2 p.1 v n1 e4 vis;refine⟨u,r, ?_⟩;rcases l with ⟨k,_⟩|⟨_,c,e,z⟩
    ·have k:X.env.scope.names.lookup p.1=some .local:=k;rw[k] at n2;cases n2
    ·obtain⟨c',e'⟩:=ok4 p.1 (ZkH n3);have e'':=hcl.get _ _ e';rw[e] at e''
     cases e'';obtain⟨o,ho,hd⟩:=z;exact .inr ⟨ZkH n3,c,e',o,by rw[es4];exact k34 c o ho,hd⟩
  ·obtain⟨v,o,ho,hd⟩:=I3.cell x c (hcl.get x c e);exact⟨v,o,by rw[es4];exact k34 c o ho,hd⟩
  ·simp[frY,nmY,Jo]
 have fY:∀{H':Hp} {s':Shared},(∀b∈fp,H' b=none)->∀b∈fp,Zjr (Jo X (nmY own fr) scope cl s3.heap.objs.size s3 (upd H2 s2.heap.objs.size (.lst [])) fp) [] H' b:=fun{H' _} hn b hb=>
  ⟨hn b hb,Nat.ne_of_lt (lt3 b hb),fun z=>by
   rcases List.mem_cons.mp (I3.stkSub b z) with q|q
   ·exact(f3 b hb).2.1 q
   ·exact(f3 b hb).2.2.1 q,.inl hb,fun x c e=>(f3 b hb).2.2.2.2.1 x c (hcl.get x c e),fun p hp=>absurd hp (by simp[Jo])⟩
 have loop:codeAny (model X.prog X.w) X.A (.compLoop (.ListComp elt [⟨tg,iter,ifs,0⟩] scope pos) 0 (.ref it) (.ref s2.heap.objs.size) (compEnvC scope cl s3.heap.objs.size X.env))
   (compPost (model X.prog X.w) X.A X.xe use PQ (.ref s2.heap.objs.size) s3.heap.objs.size) s4:=by
  refine ZqM (fun n s'=>∃i ys H',Inv (Jo X (nmY own fr) scope cl s3.heap.objs.size s3 (upd H2 s2.heap.objs.size (.lst [])) fp) [] (frY own fr σ) H' s'/\tn i s'.heap/\(∀b∈fp,H' b=none)/\W i n ys H') ?_ m0
   ⟨0,[],_,IY,st4,fun b hb=>(f3 b hb).1,w0⟩
  rintro n s5 ⟨i,ys,H5,I5,st5,fr5,w5⟩ E;obtain⟨d5,way⟩:=turn i n ys H5 w5;rcases way with ⟨stop,q⟩|⟨go,N,hN,step⟩
  ·refine thn (T.done (Jo X (nmY own fr) scope cl s3.heap.objs.size s3 (upd H2 s2.heap.objs.size (.lst [])) fp) rfl rfl rfl hc i [] s5 _ H5 E I5 (fY (s':=s5) fr5) st5 stop) fun r s6 ⟨hr,I6⟩=> .inl ⟨hr, ?_⟩;obtain⟨m,hn,_⟩:=I6.loc;have I7:Inv X pins σ H5 s6:=I3.call' (s':=s6) (ch:=fp) I6.os I6.base I6.hok I6.bare (fun b hb=>⟨(f3 b hb).2.2.2.1,(f3 b hb).2.1,(f3 b hb).2.2.2.2.1,(f3 b hb).2.2.2.2.2⟩);exact hend s6 H5 _ _ m I7 hn (I3.fpOk (Nat.le_refl _) I6.free) q
  ·refine thn (T.item (Jo X (nmY own fr) scope cl s3.heap.objs.size s3 (upd H2 s2.heap.objs.size (.lst [])) fp) rfl rfl rfl hc i [] s5 _ H5 E I5 (fY (s':=s5) fr5) st5 go) fun r s6 ⟨u,hr,h6⟩=> .inr ⟨u,hr, ?_⟩;refine thn h6 fun _ s7 ⟨x,H7,I7,r7,y7,st7,fr7⟩=> ?_;have I7':=I7.pinned (fY (s':=s7) fr7) (T.obj _ _ st7);refine up (thn (hg _ _ _ _ _ s7 _ H7 x u _ I7' r7 (step x H7 y7)) fun _ s8 ⟨σ8,H8,I8,x8,q8⟩=> ?_)
   refine up (thn (ht _ _ _ _ _ s8 σ8 H8 _ I8 q8) fun ok s9 ⟨H9,I9,q9⟩=> ?_);have again:∀{σ':L2.St} {H':Hp} {s':Shared} {zs:List V},Inv (Jo X (nmY own fr) scope cl s3.heap.objs.size s3 (upd H2 s2.heap.objs.size (.lst [])) fp) ([]++Zid fp s7.heap) σ' H' s'->Ext (frY own fr σ) σ'->N zs H'->
     ∃m,m<n/\∃i ys H',Inv (Jo X (nmY own fr) scope cl s3.heap.objs.size s3 (upd H2 s2.heap.objs.size (.lst [])) fp) [] (frY own fr σ) H' s'/\tn i s'.heap/\(∀b∈fp,H' b=none)/\W i m ys H':=fun{σ' H' s' zs} I' x' n'=>by
    obtain⟨m',hm,w'⟩:=hN zs H' n';refine⟨m',hm,i+1,zs,H',I'.unpinned.weak x'.len fun j v e=>x'.get j v e,T.keep _ _ _ st7 fun b hb o e=>(I'.pin (b,o) (List.mem_append_right _ (List.mem_append_right _ (Zdq hb e)))).1,fun b hb=> ?_,w'⟩;obtain⟨o,e,_⟩:=T.obj _ _ st7 b hb;exact(I'.pin (b,o) (List.mem_append_right _ (List.mem_append_right _ (Zdq hb e)))).2.1
   cases ok with
   |false=>
    rw[if_neg Bool.false_ne_true] at q9
    exact .inr ⟨rfl,again I9 x8 q9⟩
   |true=>
    rw[if_pos rfl] at q9
    refine .inl ⟨rfl,up (thn (he _ _ _ _ _ s9 σ8 H9 _ I9 q9) fun y s10 ⟨v10,H10,I10,r10,d10,z10,n10⟩=> ?_)⟩;refine up (thn (Yk _ s10 σ8 H10 (.ref s2.heap.objs.size) [v10] _ [y] (fun _ H'=>N (ys++[v10]) H') I10 rfl (.cons r10 .nil) ⟨s2.heap.objs.size,ys,v10,rfl,rfl,d10,z10,n10⟩) fun _ s11 ⟨v11,H11,I11,_,n11⟩=> ?_);exact again I11 x8 n11
 have Zfa:codeAny (model X.prog X.w) X.A (.compStart (.ListComp elt [⟨tg,iter,ifs,0⟩] scope pos) 0 (.ref it) (.ref s2.heap.objs.size) (compEnvC scope cl s3.heap.objs.size X.env))
   (compPost (model X.prog X.w) X.A X.xe use PQ (.ref s2.heap.objs.size) s3.heap.objs.size) s4:=codeAny_compStart_list loop (T.self _ _ _ _ _ st4 loop)
 exact Zfa
theorem Jh{X:Cx}{elt tg iter:Expr}{ifs:List Expr}{scope:Scope}{pos:Pos}{wi:TI}{g:TG}{tc:TT}{te:TE}{cl:List (Str×Addr)}(own:List Str)(fr:List (Str×Nat))(hc:X.calm=true)(hi:PI X tg iter wi)
  (hclos:closureFor scope X.env=pure cl)(hcl:ZmI X cl)(hok:Zfg scope X.env cl=true)(hfr:ZmH X scope fr)
  (hg:∀C s H fp,PG (Jo X (nmY own fr) scope cl C s H fp) tg g)(ht:∀C s H fp,PTs (Jo X (nmY own fr) scope cl C s H fp) ifs tc)(he:∀C s H fp,PE (Jo X (nmY own fr) scope cl C s H fp) elt te)
  (hs:∀x,foldedSetIterable iter X.env x=pure x:=by intro _;rfl):PE X (.ListComp elt [⟨tg,iter,ifs,0⟩] scope pos) (Zpi wi own fr g tc te):=by
 intro pins s σ H Q I h;rw[eval_ListComp];refine ZjZ (use:=none) own fr hc hi hclos hcl hok hfr hg ht he hs I h fun s6 H5 C D m I6 hn f q=>⟨m,hn,fun h' hs'=> ?_⟩
 exact⟨.ref D,H5,I6.turned (t':=s6.toks) (fun b o hb e=>(hs'.2 b hb).trans e) f.1 f.2.1 f.2.2.2.1 f.2.2.2.2.1 f.2.2.2.2.2,rfl,q⟩
theorem ZfT{X:Cx}{elt tg iter:Expr}{ifs:List Expr}{scope:Scope}{pos py spos:Pos}{y:Str}{i:Nat}{wi:TI}{g:TG}{tc:TT}{te:TE}{cl:List (Str×Addr)}(own:List Str)(fr:List (Str×Nat))(hN:X.N.Nodup)(hy:X.N[i]? =some y)(hx:Loc X.env.scope y)(hc:X.calm=true)(hi:PI X tg iter wi)
  (hclos:closureFor scope X.env=pure cl)(hcl:ZmI X cl)(hok:Zfg scope X.env cl=true)(hfr:ZmH X scope fr)
  (hg:∀C s H fp,PG (Jo X (nmY own fr) scope cl C s H fp) tg g)(ht:∀C s H fp,PTs (Jo X (nmY own fr) scope cl C s H fp) ifs tc)(he:∀C s H fp,PE (Jo X (nmY own fr) scope cl C s H fp) elt te)
  (hs:∀x,foldedSetIterable iter X.env x=pure x:=by intro _;rfl)(hsw:swapsWith (.ListComp elt [⟨tg,iter,ifs,0⟩] scope pos) (some (.Name y py)) spos.line X.env=pure true:=by rfl)
  (hf:X.fn y=true\/X.env.scope.names.lookup y=some .local:=by first|exact .inl rfl|exact .inr rfl|assumption):
  PS X (.Assign [.Name y py] (.ListComp elt [⟨tg,iter,ifs,0⟩] scope pos) spos) (ZrI (Zpi wi own fr g tc te) (ZoW i)):=by
 intro pins s σ H D' I h;rw[exec_Assign_Name_used y py _ spos hsw];refine wpAny_bind (wpAny_standAt (wpAny_bind (wpAny_bind ?_)));refine(thn (ZjZ (use:=some (assign (.Name y py) X.env)) (PQ:=fun _ s'=>SP X pins D' .next s') own fr hc hi hclos hcl hok hfr hg ht he hs I h fun s6 H5 C D m I6 hn f q=> ?_) fun _ s' hq=>wpAny_pure (wpAny_pure hq));obtain⟨o,es,ep,ho,hrest⟩:=id hn;have I7:Inv X (pins++[(C,o)]) σ H5 s6:=I6.pins_of fun p hp=>by
  rcases List.mem_append.mp hp with old|z
  ·exact I6.pin p (List.mem_append_right _ old)
  ·have e:p=(C,o):=by simpa using z
   subst e;exact⟨ho,f.1,f.2.1,f.2.2.1,fun v z=>by rw[hrest.1] at z;cases z⟩
 refine thn (ZK (pos:=py) hN hy hx hf (pins++[(C,o)]) s6 σ H5 (.ref D) (.ref D) D'.nx I7 rfl q) fun _ s8 ⟨σ8,H8,I8,q8⟩=> ?_;have hC:=I8.pin (C,o) (List.mem_append_right _ (List.mem_append_right _ (by simp)));refine⟨m,hn.at' fun o' e=>by rw[ho] at e;cases e;exact hC.1,fun h' hs'=>⟨σ8,H8,I8.unpinned.turned (t':=s8.toks) (fun b o hb e=>(hs'.2 b hb).trans e) hC.2.1 f.2.1 f.2.2.2.1 f.2.2.2.2.1 f.2.2.2.2.2,q8⟩⟩
end L3
namespace L3
open PySem PySem.Spec PyProof.Rows L2
theorem Zbm:bootBuiltins "len"=some (.builtin "len"):=by decide+kernel
theorem ZmJ:bootBuiltins "abs"=some (.builtin "abs"):=by decide+kernel
theorem Zip:bootBuiltins "max"=some (.builtin "max"):=by decide+kernel
theorem Zpj:bootBuiltins "min"=some (.builtin "min"):=by decide+kernel
theorem Jv:bootBuiltins "isinstance"=some (.builtin "isinstance"):=by decide+kernel
theorem ZgA:bootBuiltins "int"=some (.type "int"):=by decide+kernel
theorem ZrT:bootBuiltins "str"=some (.type "str"):=by decide+kernel
theorem ZqN:bootBuiltins "bool"=some (.type "bool"):=by decide+kernel
theorem ZkI:bootBuiltins "list"=some (.type "list"):=by decide+kernel
theorem ZqO:bootBuiltins "dict"=some (.type "dict"):=by decide+kernel
theorem ZlM:bootBuiltins "reversed"=some (.type "reversed"):=by decide+kernel
structure Cal (P:Program) (w:World) (K:PySem.W.Frag) (mg:Str->Option Value) (base:Heap) (CX:CXT) (k:Nat) (x:Str) (ps:List Str) (sp:Sp):Prop where
 ex:∃(f:Addr) (fd:FuncData),mg x=some (.ref f)/\PySem.W.keepIn K (.ref f)=true/\Zea K fd ps []/\Yn P w K mg base CX k f fd ps sp
section
variable {X:Cx} {CX:CXT} {k:Nat} {x:Str} {ps:List Str} {sp:Sp} {E:XK} {e:PySem.Expr} {es:List PySem.Expr} {t:TA} {p pos:Pos}
theorem ZQ(c:Cal X.prog X.w X.K X.mg X.base CX k x ps sp)(hr:Zao k X.A)(hg:Gl X x)(hx:ZbX CX X E)(ha:PA X (e::es) t)(hdb:(x==("__debug__":Str))=false:=by decide)
  (he:starEach (e::es) X.env=(false,eval e X.env)::starEach es X.env:=by rfl)(hpl:(backTo pos (starEach es X.env)).any (·.1)=false:=by rfl):PE X (.Call (.Name x p) (e::es) [] pos) (Zny sp [] E t):=by
 obtain⟨f,fd,hm,hk,hb,F⟩:=c.ex;exact Zqy F hr hg hm hk hb .nil hx ha hdb he hpl
theorem ZrU(c:Cal X.prog X.w X.K X.mg X.base CX k x ps sp)(hr:Zao k X.A)(hg:Gl X x)(hx:ZbX CX X E)(hdb:(x==("__debug__":Str))=false:=by decide):PE X (.Call (.Name x p) [] [] pos) (Zny sp [] E Zp5):=by
 obtain⟨f,fd,hm,hk,hb,F⟩:=c.ex;exact Zp6 F hr hg hm hk hb .nil hx hdb
end
theorem Zec:∀{ns:List Int} {B:Nat},PySem.W.WData.weightAll (ns.map PySem.W.WData.int)<=B->∀i∈ns,Builtin.Int.intBits i<=B
 |[],_,_,i,hi=>by simp at hi
 |n::ns,B,h,i,hi=>by
  have h:PySem.W.WData.weight (.int n)+1+PySem.W.WData.weightAll (ns.map PySem.W.WData.int)<=B:=h;have e:PySem.W.WData.weight (.int n)=Builtin.Int.intBits n:=rfl;rw[e] at h
  rcases List.mem_cons.mp hi with rfl|hi
  ·omega
  ·exact Zec (by omega) i hi
theorem ZqP{l:PySem.W.OpenLaw}{n:Nat}{q:Program}{loose:List Str}{XP:(Str->Option Value)->Heap->Prop}{YP:World->Heap->Prop}{d:DefRec}
  (hn:l.most=some n)(hdf:d.params.defaults=[])
  (call:∀(w:World) (s₀ s₁:Shared) (mg mb:Str->Option Value) (fa:Addr) (a:Addr) (vs:List Value) (ns:List Int),
   PySem.W.Ground q loose [] XP w s₀ mg mb s₁.heap->YP w s₁.heap->mg d.name=some (.ref fa)->
   s₁.heap.get? a=some {cls:=.type "list",data:=.seq vs.toArray}->IntsAre vs ns->ns.length<=n->(∀i∈ns,Builtin.Int.intBits i<=1048576)->s₁.gens= #[]->
   codeAny (model l.prog w) callerA (.call (.ref fa) ⟨[.ref a],[]⟩) (fun r s'=>r=.ok (.ret (.bool true))/\OldK s₁.heap s'.heap/\s'.os=s₁.os/\AllBare s'.gens) s₁):
  PySem.W.WalkO q loose XP YP l.row.toRowW d [] (fun f vs=>PySem.call f vs):=by
 intro w s₀ s₁ mg mb G Y fa o pm cd doc dV kV ho hdata hcode hD hmg hg args vals as hpre hlay hread hwl hlow;obtain rfl:dV=.none:=PySem.W.Dflts.none hD hdf;obtain rfl:kV=.none:=PySem.W.Dflts.noKw hD;obtain⟨a,vs,ns,rfl,rfl,hobj,hints,hlen⟩:=Att.script_of hn hpre hwl;have hb:∀i∈ns,Builtin.Int.intBits i<=1048576:=by
  have h1:PySem.W.WData.layableAll [PySem.W.WData.list (ns.map PySem.W.WData.int)]=true:=hlay;have h2:PySem.W.WData.layable (PySem.W.WData.list (ns.map PySem.W.WData.int))=true:=by simpa [PySem.W.WData.layableAll] using h1
  have h3:PySem.W.WData.weight (PySem.W.WData.list (ns.map PySem.W.WData.int))<=2^20:=by
   unfold PySem.W.WData.layable at h2
   rw[Bool.and_eq_true] at h2
   exact of_decide_eq_true h2.2
  exact Zec (show PySem.W.WData.weightAll (ns.map PySem.W.WData.int)<=1048576 from h3)
 refine PySem.W.enter_call (codeAny_mono (call w s₀ s₁ mg mb fa a vs ns G Y hmg hobj hints hlen hb hg) fun r s' hq=> ?_);obtain⟨rfl,h2,h3,h4⟩:=hq;exact⟨.inl ⟨.bool true,.bool true,[],rfl,fun _=>rfl,.bool true,Att.post_true l _,fun _=>⟨List.Pairwise.nil,fun _ hm=>(nomatch hm)⟩⟩,h2,h3,h4⟩
def Zpk(K:PySem.W.Frag):Sp:=fun vs H Q _=>∃(a:Addr) (ns:List Int),vs=[.ref a]/\SqL K H a (ns.map V.int)/\ns.length<=63/\(∀i∈ns,Builtin.Int.intBits i<=1048576)/\∀H',Q (.bl true) H'
theorem ZsS{l:PySem.W.OpenLaw}{k:Nat}{q:Program}{loose:List Str}{XP:(Str->Option Value)->Heap->Prop}{YP:World->Heap->Prop}{d:DefRec}{K:Params->PySem.W.Frag}{x:Str}
  (hn:l.most=some 63)(hdf:d.params.defaults=[])(hr:Zao k callerA)(hY:∀(w:World) (h:Heap),YP w h->(K w.params).In h)
  (F:∀(w:World) (mg:Str->Option Value) (fa:Addr) (h:Heap),(K w.params).In h->h.Ns mainGlobals mg->mg d.name=some (.ref fa)->
   ∃fd:FuncData,(∀(s:Shared) (u:Value),BindsTo s fd ⟨[u],[]⟩ [(x,u)])/\∀base:Heap,(K w.params).In base->base.Ns mainGlobals mg->Yn l.prog w (K w.params) mg base CX0 k fa fd [x] (Zpk (K w.params))):
  PySem.W.WalkO q loose XP YP l.row.toRowW d [] (fun f vs=>PySem.call f vs):=by
 refine ZqP hn hdf fun w s₀ s₁ mg mb fa a vs ns G Y hmg hobj hints hlen hb hg=> ?_;have KX:=hY w _ Y;obtain⟨fd,hbd,hF⟩:=F w mg fa _ KX G.T.g hmg;exact Zpg KX G.T.g G.T.b G.T.builtins G.T.nolimit hg hobj hints (Nat.le_trans hlen (by decide)) hr hF hbd (fun H hO hS=>⟨a,ns,rfl,hS,hlen,hb,fun _=>rfl⟩) fun H e s' z=>z
end L3
namespace L3
open PySem PySem.Spec PyProof.Rows L2 PySem.Builtin PySem.Builtin.Str
section
variable {X:Cx}
theorem ZfU:∀{ys:List Str} {us:List Value},Yl (ys.map V.str) us->StrsAre us ys
 |[],us,r=>by
  rw[List.map_nil] at r
  cases r;exact .nil
 |y::ys,us,r=>by
  rw[List.map_cons] at r
  cases r with
  |cons r1 r2=>
   obtain⟨t,e⟩:=r1;subst e;exact .cons y t (ZfU r2)
theorem Zoh:MtR X "str.join" (fun x vs H Q=>∃z p ys,x=.str z/\vs=[.ref p]/\SqL X.K H p (ys.map V.str)/\(ys.map (·.length)).sum+ys.length*z.length<=16777216/\Q (.str (Txt.join z ys)) H):=by
 intro pins s σ H x xs v us Q I rx r h;obtain⟨z,p,ys,rfl,rfl,hS,hk,q⟩:=h;obtain⟨t,rfl⟩:=rx;obtain⟨u,rfl,r2⟩:=Zcn r;cases r2;obtain⟨its,rv,pl,_⟩:=I.list hS;exact join_list pl.isList (by simpa using ZfU rv) hk fun t' k=>⟨.str _,H,I.tok _,⟨_,rfl⟩,q⟩
end
end L3
namespace M1
open PySem.Builtin PySem.Builtin.Str PySem
def cs(x:Str):List Nat:=x.cps.toList
theorem ext{x y:Str}(h:cs x=cs y):x=y:=Str.ext' (Array.toList_inj.mp h)
theorem ZmK(x y:Str):cs (x++y)=cs x++cs y:=by
 show(x.cps++y.cps).toList=_;rw[Array.toList_append]
 rfl
theorem Zpl(c:Nat):cs ⟨#[c]⟩=[c]:=rfl
theorem ZmL(x:Str):x.length=(cs x).length:=by
 show x.cps.size=x.cps.toList.length;rw[Array.length_toList]
end M1
namespace M2
open PySem M1
end M2
namespace L3
open PySem PySem.Spec PyProof.Rows L2
theorem Zpm{k:Key}{u:Value}(h:Zi7 k u=true):Ye (kV k) u:=by
 rcases Xx h with ⟨i,t,rfl,rfl⟩|⟨x,t,rfl,rfl⟩
 ·exact⟨t,rfl⟩
 ·exact⟨t,rfl⟩
theorem Zrm{kvs:List (Key×V)}{vs:List (Key×Value)}(r:KV kvs vs):∀{i:Nat} {p:Key×V},kvs[i]? =some p->∃u,vs[i]? =some (p.1,u)/\Ye p.2 u:=by
 induction r with
 |nil=>intro i p e;simp at e
 |cons h _ ih=>
  intro i p e;cases i with
  |zero=>
   obtain rfl:=Option.some.inj ((List.getElem?_cons_zero ..).symm.trans e);refine⟨_, ?_,h.2⟩;rw[List.getElem?_cons_zero,h.1]
  |succ i=>
   rw[List.getElem?_cons_succ] at e
   obtain⟨u,e1,e2⟩:=ih e;exact⟨u,by rw[List.getElem?_cons_succ];exact e1,e2⟩
section
variable {X:Cx} {pins:List (Addr×Obj)} {σ:L2.St} {H:Hp} {s:Shared} {a n:Addr} {p q:HO}
theorem ZlN(I:L2.Inv X pins σ H s)(h:H a=some p)(h1:∀xs,p≠.tup xs)(h2:∀x,p≠.own x)(h3:∀t,p≠.tbl t)(hf:∀o u,X.H₀ a≠some (.frz o u))(ok:Xu X.prog X.w H s.heap a q):L2.Inv X pins σ (upd H a q) s:=by
 have nn:∀b,H b=none->b≠a:=fun b e z=>by subst z;rw[h] at e;cases e
 refine⟨I.ok,I.os,I.bare,⟨I.base.keep,I.base.slot,fun b o e n hx=> ?_,I.base.there,fun b xs e=> ?_,fun b o u e=> ?_,fun b ps e=> ?_⟩,I.loc,I.cell, ?_,fun x c e=> ?_,fun z hz=> ?_,fun b u e=> ?_,I.len⟩
 ·rw[Zm (nn b (I.base.free b o e n hx))];exact I.base.free b o e n hx
 ·have e2:=I.base.tups b xs e;rw[Zm (fun z=>by subst z;rw[h] at e2;exact h1 xs (Option.some.inj e2))]
  exact e2
 ·rw[Zm (fun z=>by subst z;exact hf o u e)]
  exact I.base.frzs b o u e
 ·obtain⟨m,e2⟩:=I.base.tbls b ps e;exact⟨m,by rw[Zm (fun z=>by subst z;rw[h] at e2;exact h3 _ (Option.some.inj e2))];exact e2⟩
 ·rw[Zm (nn _ I.free)];exact I.free
 ·rw[Zm (nn _ (I.freeC x c e))];exact I.freeC x c e
 ·obtain⟨z1,z2,z3⟩:=I.pin z hz;exact⟨z1,by rw[Zm (nn _ z2)];exact z2,z3⟩
 ·have ho:∀c x,H c=some (.own x)->upd H a q c=some (.own x):=fun c x ec=>by
   rw[Zm (fun z=>by subst z;rw[h] at ec;exact h2 x (Option.some.inj ec))]
   exact ec
  have ht:∀c xs,H c=some (.tup xs)->upd H a q c=some (.tup xs):=fun c xs ec=>by
   rw[Zm (fun z=>by subst z;rw[h] at ec;exact h1 xs (Option.some.inj ec))]
   exact ec
  by_cases hb:b=a
  ·subst hb;rw[Zc] at e
   cases e;exact ok.stay (fun _ _ _ z=>z) (fun c z=>ho c _ z) ht
  ·rw[Zm hb] at e
   exact(I.hok b u e).stay (fun _ _ _ z=>z) (fun c z=>ho c _ z) ht
theorem Ziq{kvs:List (Key×V)}(I:L2.Inv X pins σ H s)(h:H a=some (.dK kvs)):∃o,s.heap.get? a=some o/\L2.Inv X pins σ (upd H a (.frz o (.dK kvs))) s:=by
 obtain⟨z1,z2,vs,z3,o,es,ep,z4,z5⟩:=I.hok a _ h;refine⟨o,z4,ZlN I h (fun _ e=>nomatch e) (fun _ e=>nomatch e) (fun _ e=>nomatch e) (fun o' u e=> ?_) ⟨z4,I.hok a _ h⟩⟩;have:=I.base.frzs a o' u e;rw[h] at this
 cases this
theorem Zpn{o:Obj}{u:HO}(I:L2.Inv X pins σ H s)(h:H a=some (.frz o u))(hf:∀o u,X.H₀ a≠some (.frz o u)):L2.Inv X pins σ (upd H a u) s:=
 ZlN I h (fun _ e=>nomatch e) (fun _ e=>nomatch e) (fun _ e=>nomatch e) hf (I.hok a _ h).2
theorem Zoi(I:L2.Inv X pins σ H s)(f:Zjr X pins H n)(ok:Xu X.prog X.w (upd H n q) s.heap n q):L2.Inv X pins σ (upd H n q) s:=by
 obtain⟨f0,f1,f2,f3,f4,f5⟩:=f;have ns:∀b u,H b=some u->b≠n:=fun b u e z=>by subst z;rw[f0] at e;cases e
 refine⟨I.ok,I.os,I.bare,⟨I.base.keep,I.base.slot,fun b o e m hx=> ?_,I.base.there,fun b xs e=> ?_,fun b o u e=> ?_,fun b ps e=> ?_⟩,I.loc,I.cell, ?_,fun x c e=> ?_,fun z hz=> ?_,fun b u e=> ?_,I.len⟩
 ·refine(Zm ?_).trans (I.base.free b o e m hx);rintro rfl;rcases f3 with z|z
  ·exact hx z
  ·exact absurd (Nat.lt_of_lt_of_le (Heap.lt_size e) z) (Nat.lt_irrefl _)
 ·have e2:=I.base.tups b xs e;rw[Zm (ns b _ e2)];exact e2
 ·have e2:=I.base.frzs b o u e;rw[Zm (ns b _ e2)];exact e2
 ·obtain⟨m,e2⟩:=I.base.tbls b ps e;exact⟨m,by rw[Zm (ns b _ e2)];exact e2⟩
 ·rw[Zm (Ne.symm f1)];exact I.free
 ·rw[Zm (f4 x c e)];exact I.freeC x c e
 ·obtain⟨z1,z2,z3⟩:=I.pin z hz;exact⟨z1,by rw[Zm (f5 z hz)];exact z2,z3⟩
 ·by_cases hb:b=n
  ·subst hb;rw[Zc] at e
   cases e;exact ok
  ·rw[Zm hb] at e
   exact(I.hok b u e).stay (fun _ _ _ z=>z) (fun c z=>by rw[Zm (ns c _ z)];exact z) fun c xs z=>by rw[Zm (ns c _ z)];exact z
end
theorem Zk0{P:Program}{w:World}{H:Hp}{h:Heap}{a:Addr}{o:Obj}{kvs:List (Key×V)}(ok:HOk P w H h)(e:H a=some (.frz o (.dK kvs))){es:Array DictEntry}{ep:Nat}(hd:o.data=.dict es ep):
  (a==sysModules)=false/\∃vs,KV kvs vs/\h.DictAt (Xd P w) a vs ep:=by
 obtain⟨ho,z1,z2,vs,z3,o',es',ep',z4,z5,z6,z7⟩:=ok a _ e;rw[ho] at z4
 cases z4;rw[hd] at z6
 cases z6;exact⟨z2,vs,z3,o,es,ho,z5,hd,z7⟩
def Itk(a:Addr)(o:Obj)(kvs:List (Key×V)):It:=
 ⟨fun i H=>H a=some (.frz o (.dK kvs))/\i<kvs.length,fun i H x H'=>H'=H/\∃kv,kvs[i]? =some kv/\x=kV kv.1,fun i H=>H a=some (.frz o (.dK kvs))/\kvs.length<=i⟩
def Iti(a:Addr)(o:Obj)(kvs:List (Key×V)):It:=
 ⟨fun i H=>H a=some (.frz o (.dK kvs))/\i<kvs.length,fun i H x H'=>∃kv p,kvs[i]? =some kv/\H p=none/\x=.ref p/\H'=upd H p (.tup [kV kv.1,kv.2]),fun i H=>H a=some (.frz o (.dK kvs))/\kvs.length<=i⟩
theorem Zoj{P:Program}{w:World}{K:PySem.W.Frag}{tg:PySem.Expr}(a it:Addr){o:Obj}{kvs:List (Key×V)}{es:Array DictEntry}{ep:Nat}(hd:o.data=.dict es ep)(n:Nat)(hn:n=kvs.length):
  Zo6 P w K tg (Itk a o kvs) [it] it (fun i h=>h.IsKeyIter it a i n ep) where
 mem:=by simp
 obj:=fun i h st b hb=>by
  have e:b=it:=by simpa using hb
  subst e;obtain⟨o,e,c,d⟩:=st;exact⟨o,e,fun v z=>by rw[d] at z;cases z⟩
 keep:=fun i h h' st k=>st.at fun o e=>k it (by simp) o e
 item:=by
  intro X hP hw hK hc i pins s σ H E I hf st hg;subst hP hw hK;obtain⟨hz,hlt⟩:=hg;obtain⟨_,vs,rv,hm⟩:=Zk0 I.hok hz hd;obtain⟨kv,hx⟩:∃kv,kvs[i]? =some kv:=⟨kvs[i],by simp[hlt]⟩
  obtain⟨u,hu,ru⟩:=Zrm rv hx;obtain⟨f0,f1,f2,f3,f4,f5⟩:=hf it (by simp);have el:n=vs.length:=by rw[hn];exact Paired.length rv
  rw[el] at st
  refine wpAny_pyNext_dict_item st hm hu fun key h' hk st' sb=> ?_;have I1:L2.Inv X pins σ H {s with heap:=h'}:=I.turned (t':=s.toks) (fun b o hb e=>(sb.2 b hb).trans e) f0 f1 f3 f4 f5;obtain⟨ob,e,c,d⟩:=id st';refine⟨key,rfl,Zns (s:={s with heap:=h'}) e c d (by decide) ⟨kV kv.1,H,I1,Zpm hk,⟨rfl,kv,hx,rfl⟩, ?_,fun b hb=>(hf b hb).1⟩⟩;show h'.IsKeyIter it a (i+1) n ep;rw[el];exact st'
 done:=by
  intro X hP hw hK hc i pins s σ H E I hf st hg;subst hP hw hK;obtain⟨hz,hle⟩:=hg;obtain⟨_,vs,rv,hm⟩:=Zk0 I.hok hz hd;have el:n=vs.length:=by rw[hn];exact Paired.length rv
  rw[el] at st
  obtain⟨f0,f1,f2,f3,f4,f5⟩:=hf it (by simp);exact wpAny_pyNext_dict_end (I.ok.hd hc) st hm (List.getElem?_eq_none (by omega)) fun h' eb=>⟨rfl,I.turned (t':=s.toks) (fun b o hb e=>eb b o hb e) f0 f1 f3 f4 f5⟩
 self:=fun _ _ _ _ _ st h=>wpAny_pyIter_keyiter st h
theorem ZmM{P:Program}{w:World}{K:PySem.W.Frag}{elts:List PySem.Expr}{x1:Nat}{pos:Pos}(a it:Addr){o:Obj}{kvs:List (Key×V)}{es:Array DictEntry}{ep:Nat}(hd:o.data=.dict es ep)(n:Nat)(hn:n=kvs.length):
  Zo6 P w K (.Tuple elts x1 pos) (Iti a o kvs) [it] it (fun i h=>∃ok ov,IsItemIter h it a i n ep ok ov) where
 mem:=by simp
 obj:=fun i h st b hb=>by
  have e:b=it:=by simpa using hb
  subst e;obtain⟨ok,ov,e⟩:=st;exact⟨_,e,fun v z=>by cases z⟩
 keep:=fun i h h' ⟨ok,ov,e⟩ k=>⟨ok,ov,k it (by simp) _ e⟩
 item:=by
  intro X hP hw hK hc i pins s σ H E I hf st hg;subst hP hw hK;obtain⟨hz,hlt⟩:=hg;obtain⟨_,vs,rv,hm⟩:=Zk0 I.hok hz hd;obtain⟨kv,hx⟩:∃kv,kvs[i]? =some kv:=⟨kvs[i],by simp[hlt]⟩
  obtain⟨u,hu,ru⟩:=Zrm rv hx;obtain⟨f0,f1,f2,f3,f4,f5⟩:=hf it (by simp);have el:n=vs.length:=by rw[hn];exact Paired.length rv
  rw[el] at st
  obtain⟨ok,ov,st⟩:=st;refine wpAny_pyNext_items_item st hm hu fun key h' hk st' nt sz kp=> ?_;refine⟨_,rfl,wpAny_letOwnedTupleGo_items (s:={s with heap:=h'}) st' fun h2 st2 sb2=> ?_⟩;have nit:s.heap.objs.size≠it:=fun z=>by
   exact absurd (Heap.lt_size st) (by rw[<-z];exact Nat.lt_irrefl _)
  have I1:L2.Inv X pins σ H {s with heap:=h2,toks:=s.toks}:=I.turned (t':=s.toks) (fun b o hb e=>(sb2.2 b hb).trans (kp b o hb e)) f0 f1 f3 f4 f5;have fn:=I.fpOk (H':=H) (Nat.le_refl _) (I.hok.fresh (Nat.le_refl _));have I2:=Zoi (q:=.tup [kV kv.1,kv.2]) I1 fn ⟨by show 2<=sizeLine;rw[sizeLine_eq];decide,[key,u],.cons (Zpm hk) (.cons ru .nil),{cls:=.type "tuple",data:=.seq #[key,u]},(sb2.2 _ nit).trans nt,rfl,_,rfl⟩
  refine⟨.ref s.heap.objs.size,_,I2,rfl,⟨kv,_,hx,fn.1,rfl,rfl⟩,⟨key,u, ?_⟩,fun b hb=> ?_⟩
  ·show IsItemIter h2 it a (i+1) n ep key u;rw[el];exact st2
  ·have e:b=it:=by simpa using hb
   subst e;rw[Zm (Ne.symm nit)];exact f0
 done:=by
  intro X hP hw hK hc i pins s σ H E I hf st hg;subst hP hw hK;obtain⟨hz,hle⟩:=hg;obtain⟨_,vs,rv,hm⟩:=Zk0 I.hok hz hd;have el:n=vs.length:=by rw[hn];exact Paired.length rv
  rw[el] at st
  obtain⟨ok,ov,st⟩:=st;obtain⟨f0,f1,f2,f3,f4,f5⟩:=hf it (by simp);exact wpAny_pyNext_items_end (I.ok.hd hc) st hm (List.getElem?_eq_none (by omega)) fun h' eb=>⟨rfl,I.turned (t':=s.toks) (fun b o hb e=>eb b o hb e) f0 f1 f3 f4 f5⟩
 self:=fun _ _ _ _ _ ⟨_,_,st⟩ h=>PySem.W.kcp_self st h
section
variable {X:Cx} {tg:PySem.Expr}
def ZsT(tl:TE):TI:=fun σ H R=>tl σ H fun x H1=>∃a kvs,x=.ref a/\H1 a=some (.dK kvs)/\∀o,R (Itk a o kvs) (upd H1 a (.frz o (.dK kvs)))
theorem ZqQ{l:PySem.Expr}{tl:TE}(hl:PE X l tl):PI X tg l (ZsT tl):=by
 intro pins s σ H R I h;refine thn (hl pins s σ H _ I h) fun v s1 ⟨x,H1,I1,r1,q1⟩=> ?_;obtain⟨a,kvs,e,hq,q⟩:=q1;subst e;cases r1;obtain⟨o,ho,I2⟩:=Ziq I1 hq;obtain⟨z1,z2,vs0,z3,o',es,ep,z4,z5,z6,z7⟩:=I1.hok a _ hq;rw[ho] at z4
 cases z4;obtain⟨hs,vs,rv,hm⟩:=Zk0 I2.hok Zc z6;have el:kvs.length=vs.length:=Paired.length rv;refine wpAny_pyIter_dict hs hm ?_;refine⟨s1.heap.objs.size,[s1.heap.objs.size],_,_,_,rfl,I2.kept (t':=s1.toks) fun b o e=>Heap.get?_push_of_some _ e,Zoj a _ z6 vs.length el.symm,⟨_,Heap.get?_push_size _ rfl,rfl,rfl⟩,fun b hb=> ?_,q o⟩;have e:b=s1.heap.objs.size:=by simpa using hb
 subst e;exact I2.fpOk (Nat.le_refl _) (I2.hok.fresh (Nat.le_refl _))
def Zd2(v a:Addr):HO:=.ext fun h=>h.IsItemsView v a
def ZrV(tl:TE):TE:=fun σ H Q=>tl σ H fun x H1=>∃a kvs,x=.ref a/\H1 a=some (.dK kvs)/\∀v,H1 v=none->Q (.ref v) (upd H1 v (Zd2 v a))
theorem Zir{o:PySem.Expr}{to:TE}{apos cpos:Pos}(ho:PE X o to)
  (hbase:attributeBase o "items" X.env (eval o X.env)=eval o X.env:=by rfl)(hline:(apos.endLine==cpos.line)=true:=by rfl):PE X (.Call (.Attribute o "items" apos) [] [] cpos) (ZrV to):=by
 intro pins s σ H Q I h;refine wpAny_Call_method0_late hbase hline (thn (ho pins s σ H _ I h) fun v s1 ⟨x,H1,I1,r1,a,kvs,e,ha,q1⟩=> ?_);subst e;cases r1;obtain⟨h1,h2⟩:=ZkE (T:="dict") (x:=.ref a) I1 rfl (.inr (.inr (.inl ⟨rfl,.inl ⟨kvs,ha⟩⟩)));obtain⟨z1,z2,vs,z3,z4⟩:=I1.hok a _ ha;refine⟨"dict","dict.items",F.plainAttrs_dict,F.slot_dict_items,F.type_dict_items,h1,h2,Calls.callWith_builtin rfl (PySem.evalArgs_none ?_)⟩
 refine call_meetsIn F.slot_dict_items h1 F.entry_dict_items (F.args_dict_items_1 _) (meets_dict_items (Xd X.prog X.w) a z2) ⟨⟨vs,z4⟩, ?_⟩;refine⟨.ref _,_,I1.laid (a:=s1.heap.objs.size) (o:=Zd2 s1.heap.objs.size a) (t':=s1.toks) (fun b q hq=>Heap.get?_push_of_some _ hq) (Nat.le_refl _) ?_,rfl,q1 _ I1.fresh⟩;refine⟨⟨_,Heap.get?_push_size _ rfl,rfl,rfl⟩,⟨_,Heap.get?_push_size _ rfl⟩,fun g1 g2 z k=> ?_⟩
 obtain⟨ob,e1,e2⟩:=z;exact⟨ob,k _ e1,e2⟩
def ZrW(tl:TE):TI:=fun σ H R=>tl σ H fun x H1=>∃v a kvs,x=.ref v/\H1 v=some (Zd2 v a)/\H1 a=some (.dK kvs)/\∀o,R (Iti a o kvs) (upd H1 a (.frz o (.dK kvs)))
theorem Zis{l:PySem.Expr}{tl:TE}{elts:List PySem.Expr}{x1:Nat}{pos:Pos}(hl:PE X l tl):PI X (.Tuple elts x1 pos) l (ZrW tl):=by
 intro pins s σ H R I h;refine thn (hl pins s σ H _ I h) fun v s1 ⟨x,H1,I1,r1,q1⟩=> ?_;obtain⟨v,a,kvs,e,hv,hq,q⟩:=q1;subst e;cases r1;have vw:s1.heap.IsItemsView v a:=(I1.hok v _ hv).1;obtain⟨o,ho,I2⟩:=Ziq I1 hq;obtain⟨z1,z2,vs0,z3,o',es,ep,z4,z5,z6,z7⟩:=I1.hok a _ hq;rw[ho] at z4
 cases z4;obtain⟨hs,vs,rv,hm⟩:=Zk0 I2.hok Zc z6;have el:kvs.length=vs.length:=Paired.length rv;refine wpAny_pyIter_items vw hm ?_;refine⟨s1.heap.objs.size,[s1.heap.objs.size],_,_,_,rfl,I2.kept (t':=s1.toks) fun b o e=>Heap.get?_push_of_some _ e,ZmM a _ z6 vs.length el.symm,⟨_,_,Heap.get?_push_size _ rfl⟩,fun b hb=> ?_,q o⟩;have e:b=s1.heap.objs.size:=by simpa using hb
 subst e;exact I2.fpOk (Nat.le_refl _) (I2.hok.fresh (Nat.le_refl _))
def ZrX(H₀:Hp)(a:Addr)(H H':Hp):Prop:=(∀o u,H₀ a≠some (.frz o u))/\∃o u,H a=some (.frz o u)/\H'=upd H a u
end
end L3
namespace L3
open PySem PySem.Spec PyProof.Rows L2
theorem ZlO{A B:Hp->Prop}{σ:L2.St}{H:Hp}(h:A H):ZlL σ H (fun b H5=>if b=true then A H5 else B H5):=by
 unfold ZlL;exact XX h
structure ZsU (n:Nat) (Pv:Nat->List V->Hp->Prop) (D:Addr) (J:It) (own:List Str) (fr:List (Str×Nat)) (g:TG) (tc:TT) (te:TE) (σ:L2.St) (H:Hp) (Q:VK):Prop where
 hn:n<=sizeLine
 h0:Pv 0 [] (upd H D (.lst []))
 hlen:∀i ys H2,Pv i ys H2->ys.length<=i
 st:∀i ys zs H2 H3,H2 D=some (.lst zs)->(∀b u,b≠D->H2 b=some u->H3 b=some u)->Pv i ys H2->Pv i ys H3
 hgo:∀i ys H2,Pv i ys H2->i<n->J.go i H2
 hstop:∀ys H2,Pv n ys H2->H2 D=some (.lst ys)->J.stop n H2/\Q (.ref D) H2
 hstep:∀i x ys H2 H3,Pv i ys H2->H2 D=some (.lst ys)->i<n->J.yld i H2 x H3->∀(RT:V->Hp->Prop) (RF:Hp->Prop),(∀v H6,H6 D=some (.lst ys)->Pv (i+1) (ys++[v]) H6->RT v H6)->(∀H5,H5 D=some (.lst ys)->Pv (i+1) ys H5->RF H5)->
   g x (frY own fr σ) H3 fun σ3 H4=>Ext (frY own fr σ) σ3/\tc σ3 H4 fun b H5=>if b=true then te σ3 H5 RT else RF H5
theorem ZfV{J:It}{own:List Str}{fr:List (Str×Nat)}{g:TG}{tc:TT}{te:TE}{σ:L2.St}{H:Hp}{Q:VK}(h:∀D,H D=none->∃n Pv,ZsU n Pv D J own fr g tc te σ H Q):Zph J own fr g tc te σ H Q:=by
 intro D hD;obtain⟨n,Pv,hn,h0,hlen,st,hgo,hstop,hstep⟩:=h D hD;refine⟨fun i m ys H2=>m=n-i/\i<=n/\H2 D=some (.lst ys)/\Pv i ys H2,⟨n,by simp,Nat.zero_le _,Zc,h0⟩, ?_⟩;rintro i m ys H2 ⟨rfl,hi,d2,p2⟩;refine⟨d2, ?_⟩
 by_cases hlt:i<n
 ·refine .inr ⟨hgo i ys H2 p2 hlt,fun zs H'=>H' D=some (.lst zs)/\Pv (i+1) zs H',fun zs H' ⟨e1,e2⟩=>⟨n-(i+1),by omega,rfl,hlt,e1,e2⟩,fun x H' y=> ?_⟩;have l2:=hlen i ys H2 p2;exact hstep i x ys H2 H' p2 d2 hlt y _ _ (fun v H6 e6 p6=>⟨e6,by omega,Zc,st _ _ _ _ _ e6 (fun b u nb e=>by rw[Zm nb];exact e) p6⟩) fun H5 e5 p5=>⟨e5,p5⟩
 ·have e:i=n:=by omega
  subst e;exact .inl (hstop ys H2 p2 d2)
theorem Xm{J:It}{own:List Str}{fr:List (Str×Nat)}{g:TG}{tc:TT}{te:TE}{σ:L2.St}{H:Hp}{Q:VK}(n:Nat)(out:Nat->List V)(hn:n<=sizeLine)(ho:∀i,(out i).length<=1)
  (hgo:∀i H2,Zy H H2->i<n->J.go i H2)(hstop:∀H2,Zy H H2->J.stop n H2)
  (hstep:∀i x H2 H3,Zy H H2->i<n->J.yld i H2 x H3->∀(RT:V->Hp->Prop) (RF:Hp->Prop),(∀v H6,out i=[v]->Zy H2 H6->RT v H6)->(∀H5,out i=[]->Zy H2 H5->RF H5)->
   g x (frY own fr σ) H3 fun σ3 H4=>Ext (frY own fr σ) σ3/\tc σ3 H4 fun b H5=>if b=true then te σ3 H5 RT else RF H5)
  (q:∀D H2,H D=none->Zy H H2->H2 D=some (.lst ((List.range n).flatMap out))->Q (.ref D) H2):Zph J own fr g tc te σ H Q:=by
 have len:∀i,((List.range i).flatMap out).length<=i:=by
  intro i
  induction i with
  |zero=>simp
  |succ i ih=>
   have h1:=ho i;rw[List.range_succ,List.flatMap_append,List.length_append];simp only [List.flatMap_cons,List.flatMap_nil,List.append_nil];omega
 have nxt:∀i,(List.range (i+1)).flatMap out=(List.range i).flatMap out++out i:=fun i=>by
  rw[List.range_succ,List.flatMap_append];simp
 refine ZfV fun D hD=>⟨n,fun i ys H2=>ys=(List.range i).flatMap out/\Zy H H2,hn,⟨rfl,fun b u e=>by rw[Zm (Zf e hD)];exact e⟩,fun i ys H2 p=>by rw[p.1];exact len i,fun i ys zs H2 H3 _ k p=>⟨p.1,fun b u e=>k b u (Zf e hD) (p.2 b u e)⟩,
  fun i ys H2 p lt=>hgo i H2 p.2 lt,fun ys H2 p d=>⟨hstop H2 p.2,q D H2 hD p.2 (by rw[<-p.1];exact d)⟩,fun i x ys H2 H3 p d lt y RT RF rt rf=> ?_⟩
 exact hstep i x H2 H3 p.2 lt y RT RF (fun v H6 e s=>rt v H6 (s _ _ d) ⟨by rw[nxt,e,p.1],p.2.trans s⟩) fun H5 e s=>rf H5 (s _ _ d) ⟨by rw[nxt,e,List.append_nil,p.1],p.2.trans s⟩
theorem Zah{α β:Type}(f:α->β):∀l:List α,l.flatMap (fun a=>[f a])=l.map f
 |[]=>rfl
 |a::l=>by rw[List.flatMap_cons,List.map_cons,Zah f l];rfl
theorem ZgB{α β:Type}(xs:List α)(f:α->β)(d:β):(List.range xs.length).map (fun i=>((xs[i]?).map f).getD d)=xs.map f:=by
 apply List.ext_getElem
 ·simp
 ·intro i h1 h2;have h3:i<xs.length:=by simpa using h1
  simp[h3]
theorem Xo{α β:Type}(f:α->List β):∀xs:List α,(List.range xs.length).flatMap (fun i=>((xs[i]?).map f).getD [])=xs.flatMap f
 |[]=>rfl
 |x::xs=>by
  rw[List.length_cons,List.range_succ_eq_map,List.flatMap_cons,List.flatMap_map,List.flatMap_cons,<-Xo f xs]
  rfl
theorem Zpo{J:It}{n:Nat}{g:TG}{tb:TS}{D:Zkw}{σ:L2.St}{H:Hp}(Pv:Nat->L2.St->Hp->Prop)(h0:Pv 0 σ H)(hgo:∀i σ H,i<n->Pv i σ H->J.go i H)(hstop:∀σ H,Pv n σ H->J.stop n H/\D.nx σ H)
  (hs:∀i x σ H H',i<n->Pv i σ H->J.yld i H x H'->g x σ H' fun σ2 H2=>tb {D with nx:=Pv (i+1),ct:=Pv (i+1),bk:=D.nx} σ2 H2):
  ∃W:Nat->Nat->L2.St->Hp->Prop,(∃m,W 0 m σ H)/\∀i m σ H,W i m σ H->
   (J.stop i H/\D.nx σ H)\/(J.go i H/\∃N:L2.St->Hp->Prop,(∀σ' H',N σ' H'->∃m',m'<m/\W (i+1) m' σ' H')/\∀x H',J.yld i H x H'->g x σ H' fun σ2 H2=>tb {D with nx:=N,ct:=N,bk:=D.nx} σ2 H2):=by
 refine⟨fun i m σ H=>m=n-i/\i<=n/\Pv i σ H,⟨n,by simp,Nat.zero_le _,h0⟩, ?_⟩;rintro i m σ H ⟨rfl,hi,p⟩
 by_cases hlt:i<n
 ·exact .inr ⟨hgo i σ H hlt p,Pv (i+1),fun σ' H' p'=>⟨n-(i+1),by omega,rfl,hlt,p'⟩,fun x H' y=>hs i x σ H H' hlt p y⟩
 ·have e:i=n:=by omega
  subst e;exact .inl (hstop σ H p)
theorem Zpp:bootBuiltins "any"=some (.builtin "any"):=by decide+kernel
theorem Zai:bootBuiltins "sorted"=some (.builtin "sorted"):=by decide+kernel
theorem Zit:bootBuiltins "tuple"=some (.type "tuple"):=by decide+kernel
section
variable {X:Cx} {pins:List (Addr×Obj)} {σ:L2.St} {H:Hp} {s:Shared}
theorem ZrY{h:Heap}{L:Addr}{m m':Str->Option Value}(a:h.Ns L m)(b:h.Ns L m'):m=m':=by
 obtain⟨o,es,ep,e1,e2,_,e3⟩:=a;obtain⟨o',es',ep',f1,f2,_,f3⟩:=b;rw[e1] at f1
 cases f1;rw[e2] at f2
 cases f2;exact funext fun x=>(e3 x).symm.trans (f3 x)
theorem ZmN{m:Str->Option Value}{g:Heap}{tk:Nat}{more:List (Addr×Obj)}(I:L2.Inv X pins σ H s)(hm:s.heap.Ns X.env.locals m)(F:Fr X.base X.env.locals g m)(N:News X.base X.env.locals g (more++ZhO X.base s.heap X.env.locals)):L2.Inv X pins σ H {s with heap:=g,toks:=tk}:=by
 have kp:∀b o,b≠X.env.locals->s.heap.get? b=some o->g.get? b=some o:=fun b o nb e=>by
  cases hb:X.base.get? b with
  |some o'=>
   have e2:=I.bk b o' hb;rw[e] at e2
   cases e2;exact F.keep b o hb
  |none=>exact(N (b,o) (List.mem_append_right _ (Zhg nb hb e))).1
 have nt:∀b u,H b=some u->b≠X.env.locals:=fun b u e z=>by rw[z,I.free] at e;cases e
 refine I.step (g':=s.gens) (d':=s.drawn) (ch:=[]) (fun _ z=>nomatch z) (fun b o nb _ _ e _=>kp b o nb e) (fun b o nb _ _ e _=>⟨o.slots,kp b o nb e⟩) (fun _ _ _ _ n=>n) (fun b o _ e=> ?_) (fun _ _ e=>e) (fun _ _ _ e=>e) (fun _ ps e=>⟨#[],by rw[e];simp⟩)
  (fun m' hm'=>by rw[ZrY hm' hm];exact F.ns) (fun b u e=>(I.hok b u e).stay (fun c v hc z=>kp c v ?_ z) (fun _ z=>z) fun _ _ z=>z) I.bare
 ·by_cases nb:b=X.env.locals
  ·obtain⟨o',_,_,e',_⟩:=F.ns;exact⟨o',by rw[nb];exact e'⟩
  ·exact⟨o,kp b o nb e⟩
 ·rcases hc with rfl|hc
  ·exact nt _ _ e
  ·exact nt _ _ hc
end
section
variable {X:Cx}
theorem Ziu(hc:X.calm=true):Zb6 X (.builtin "any") (fun xs H Q=>∃(p:Addr) (bs:List Bool),xs=[.ref p]/\SqL X.K H p (bs.map V.bl)/\Q (.bl (bs.any id)) H):=by
 intro pins s σ H xs us Q I r h;obtain⟨p,bs,rfl,hq,q⟩:=h;obtain⟨u,rfl,rx⟩:=Zcn r;cases rx;obtain⟨its,r',pl,hz⟩:=I.list hq;have hb:=Zio r';have hlt:p<s.heap.objs.size:=pl.lt;refine call_any_walk (wpAny_pyIter_list pl.isList ?_);refine⟨s.heap.objs.size,[s.heap.objs.size,p],[s.heap.objs.size],its.toArray.size,_,_,fun i=>(bs[i]?).getD false,rfl,Walks.list (A:=X.A.in1) (I.ok.hd hc) _ p (Nat.ne_of_lt hlt) its.toArray,
  ⟨⟨_,Heap.get?_push_size _ rfl,rfl,rfl⟩,pl.isList.push _⟩,fun i v s' Q' E' hP hQ=> ?_,fun h' tk hk=> ?_⟩
 ·obtain⟨bit,ebit,rfl⟩:=hb.get i v (by simpa using hP);simp only [ebit,Option.getD_some] at hQ
  exact wpAny_truthy_bool hQ
 ·have e:((List.range its.toArray.size).any fun i=>(bs[i]?).getD false)=bs.any id:=by
   rw[List.size_toArray,hb.length];exact LSm.range_any bs
  rw[e];exact⟨.bl (bs.any id),H,I.kept (LSm.kept_iter hk),rfl,q⟩
theorem ZkJ:Zb6 X (.type "dict") (fun xs H Q=>∃a kvs,xs=[.ref a]/\Rd H a (.dK kvs)/\∀p,H p=none->Q (.ref p) (upd H p (.dK kvs))):=by
 intro pins s σ H xs us Q I r h;obtain⟨a,kvs,rfl,hq,q⟩:=h;obtain⟨u,rfl,rx⟩:=Zcn r;cases rx;exact Zpf I hq fun p s' hp I'=>⟨.ref p,_,I',rfl,q p hp⟩
theorem ZkK{prog:Program}{w:World}{A:Around}{E:Value->Shared->Prop}{s:Shared}{a:Addr}{vs:List Value}{ss:List Str}{n:Nat}{Q:Value->Shared->Prop}(ho:s.heap.get? a=some (seqObj "list" vs.toArray n))(hS:StrsAre vs ss)(h64:vs.length<64)
  (h:∀(out:Array Value) (ss':List Str),StrsAre out.toList ss'->ss'.Perm ss->sortedS ss'=true->Q .none {s with heap:=sortedHeap s.heap a vs out}):
  wpAny (model prog w) A (call (.builtin "list.sort") [.ref a]) Q E s:=by
 refine wpAny_call_entry slot_list_sort ⟨_,ho,rfl⟩ entry_list_sort (list_sort_treeK strKind_oneLt ho hS.keysOf (fun v₁ v₂ rest e=>keyKind_strs (by rw[<-e];exact hS)) h64 fun st' hp hs=>⟨_,rfl, ?_⟩) (args_list_sort _)
 obtain⟨to,z⟩:=sorted_out_str hS hp hs;exact h _ to z.1 z.2.1 z.2.2
theorem ZfW:∀{us:List Value} {ys:List Str},StrsAre us ys->Yl (ys.map V.str) us
 |_,_,.nil=> .nil
 |_,_,.cons y t r=> .cons ⟨t,rfl⟩ (ZfW r)
end
def Ziv(a:Addr)(kvs:List (Key×V))(H H2:Hp):Prop:=(∀b u,b≠a->H b=some u->H2 b=some u)/\∃o,H2 a=some (.frz o (.dK kvs))
theorem Ziv.of{a:Addr}{kvs:List (Key×V)}{H H2:Hp}{o:Obj}(s:Zy (upd H a (.frz o (.dK kvs))) H2):Ziv a kvs H H2:=⟨fun b u n e=>s b u (by rw[Zm n];exact e),o,s _ _ Zc⟩
theorem Ziv.thaw{H₀:Hp}{a:Addr}{kvs:List (Key×V)}{H H2:Hp}(f:Ziv a kvs H H2)(ha:H a=some (.dK kvs))(hf:∀o u,H₀ a≠some (.frz o u)):ZrX H₀ a H2 (upd H2 a (.dK kvs))/\Zy H (upd H2 a (.dK kvs)):=by
 obtain⟨o,e⟩:=f.2;refine⟨⟨hf,o,_,e,rfl⟩,fun b u h=> ?_⟩
 by_cases hb:b=a
 ·subst hb;rw[ha] at h
  cases h;exact Zc
 ·rw[Zm hb];exact f.1 b u hb h
end L3
namespace L3
open PySem PySem.Spec PyProof.Rows L2
def EqP(P:Program)(w:World)(A:Around)(s:Shared)(y x:Value)(k:Bool):Prop:=∀(E:Value->Shared->Prop) (Q:Bool->Shared->Prop),Q k s->wpAny (model P w) A (eqBool y x) Q E s
def RcP(P:Program)(w:World)(A:Around)(s:Shared)(op:CmpOp)(y x:Value)(k:Bool):Prop:=∀(E:Value->Shared->Prop) (Q:Value->Shared->Prop),Q (.bool k) s->wpAny (model P w) A (richCompare op y x) Q E s
theorem EqP.refs{P:Program}{w:World}{A:Around}{s:Shared}{l b:Addr}{k:Bool}(n:l≠b)(h:RcP P w A s .Eq (.ref l) (.ref b) k):EqP P w A s (.ref l) (.ref b) k:=by
 intro E Q q;unfold eqBool;refine wpAny_holding (wpAny_ite_split (fun z=>absurd (Value.ref.inj (eq_of_beq z)) n) fun _=>wpAny_bind ?_);exact h E _ (wpAny_truthy_bool q)
abbrev Zhx(d:Option Addr)(t:Array Value)(n:Nat)(sl:Array (Option Value)):Obj:={cls:=.type "list",dict:=d,data:=.seq t n,slots:=sl}
abbrev ZlP(d:Option Addr)(t:Array Value)(n:Nat)(sl:Array (Option Value)):Obj:={cls:=.type "tuple",dict:=d,data:=.seq t n,slots:=sl}
section
variable {P:Program} {w:World} (l b:Addr) (xs ys:Array Value) (n m:Nat) (d1 d2:Option Addr) (s1 s2:Array (Option Value)) (e:Nat->Bool)
theorem Zpq(hz:xs.size=ys.size)(c:Int)(hc:c=2\/c=3)(k:Nat):∀i:Nat,xs.size-i=k->MeetsIn P w (Builtin.«list.__eq__.loop» ⟨[.ref l,.ref b,rawInt i,rawInt c],[]⟩)
  (fun A R s=>s.heap.get? l=some (Zhx d1 xs n s1)/\s.heap.get? b=some (Zhx d2 ys m s2)/\(∀j (h1:j<xs.size) (h2:j<ys.size),EqP P w A.in1 s xs[j] ys[j] (e j))/\
   R (.ok (.ret (.bool (if c=2 then((List.range xs.size).drop i).all e else !((List.range xs.size).drop i).all e)))) s):=by
 induction k with
 |zero=>
  intro i hk A R s h;obtain⟨hq,gs,dr,tk,oss⟩:=s;obtain⟨u1,u2,ue,q⟩:=h;have v1:xs[((i:Nat):Int).toNat]? =none:=by simp;omega
  have v2:ys[((i:Nat):Int).toNat]? =none:=by simp;omega
  have v3:(List.range xs.size).drop i=[]:=by simp;omega
  rw[v3] at q
  rcases hc with rfl|rfl
  ·wp_walk using AutoSeq1.wpAny_loadPart' u1,AutoSeq1.wpAny_loadPart' u2
   rw[v1,v2]
   wp_walk using AutoSeq1.wpAny_loadPart' u1,AutoSeq1.wpAny_loadPart' u2
   show R (.ok (.ret (.bool (xs.size==ys.size)))) _;rw[hz,beq_self_eq_true];exact q
  ·wp_walk using AutoSeq1.wpAny_loadPart' u1,AutoSeq1.wpAny_loadPart' u2
   rw[v1,v2]
   wp_walk using AutoSeq1.wpAny_loadPart' u1,AutoSeq1.wpAny_loadPart' u2
   show R (.ok (.ret (.bool (xs.size !=ys.size)))) _;rw[hz,bne_self_eq_false];exact q
 |succ k ih=>
  intro i hk A R s h;obtain⟨hq,gs,dr,tk,oss⟩:=s;obtain⟨u1,u2,ue,q⟩:=h;have t1:i<xs.size:=by omega
  have t2:i<ys.size:=by omega
  have v1:xs[((i:Nat):Int).toNat]? =some xs[i]:=by simp[t1]
  have v2:ys[((i:Nat):Int).toNat]? =some ys[i]:=by simp[t2]
  have v3:(List.range xs.size).drop i=i::(List.range xs.size).drop (i+1):=by simp[List.drop_eq_getElem_cons,t1]
  have v4:((i:Int)+1)=((i+1:Nat):Int):=by push_cast;rfl
  rw[v3,List.all_cons] at q
  rcases hc with rfl|rfl
  ·wp_walk using AutoSeq1.wpAny_loadPart' u1,AutoSeq1.wpAny_loadPart' u2
   rw[v1,v2];refine wpAny_bind (ue i t1 t2 _ _ ?_);cases ei:e i with
   |true=>
    rw[ei,Bool.true_and] at q
    wp_walk
    rw[v4];refine⟨plainId_quiet MeetsSeq3.plain_eq_loop _,codeAny_builtin MeetsSeq3.entry_eq_loop ?_⟩;rw[Around.under_plainId MeetsSeq3.plain_eq_loop _];exact ih (i+1) (by omega) A R _ ⟨u1,u2,ue,q⟩
   |false=>
    rw[ei,Bool.false_and] at q
    wp_walk using AutoSeq1.wpAny_loadPart' u1,AutoSeq1.wpAny_loadPart' u2
    rw[v1,v2]
    wp_walk
    exact q
  ·wp_walk using AutoSeq1.wpAny_loadPart' u1,AutoSeq1.wpAny_loadPart' u2
   rw[v1,v2];refine wpAny_bind (ue i t1 t2 _ _ ?_);cases ei:e i with
   |true=>
    rw[ei,Bool.true_and] at q
    wp_walk
    rw[v4];refine⟨plainId_quiet MeetsSeq3.plain_eq_loop _,codeAny_builtin MeetsSeq3.entry_eq_loop ?_⟩;rw[Around.under_plainId MeetsSeq3.plain_eq_loop _];exact ih (i+1) (by omega) A R _ ⟨u1,u2,ue,q⟩
   |false=>
    rw[ei,Bool.false_and] at q
    wp_walk using AutoSeq1.wpAny_loadPart' u1,AutoSeq1.wpAny_loadPart' u2
    rw[v1,v2]
    wp_walk
    exact q
theorem ZrZ(hz:xs.size=ys.size):MeetsIn P w (Builtin.«list.__eq__» ⟨[.ref l,.ref b],[]⟩) (fun A R s=>s.heap.get? l=some (Zhx d1 xs n s1)/\s.heap.get? b=some (Zhx d2 ys m s2)/\
  (∀j (h1:j<xs.size) (h2:j<ys.size),EqP P w A.in1 s xs[j] ys[j] (e j))/\R (.ok (.ret (.bool ((List.range xs.size).all e)))) s):=by
 intro A R s h;obtain⟨hq,gs,dr,tk,oss⟩:=s;obtain⟨u1,u2,ue,q⟩:=h;have sub:=AutoSeq1.sub_list_list;have v0:¬(xs.size !=ys.size)=true:=by simp[hz]
 wp_walk using AutoSeq1.wpAny_loadPart' u1,AutoSeq1.wpAny_loadPart' u2
 refine⟨plainId_quiet MeetsSeq3.plain_eq_loop _,codeAny_builtin MeetsSeq3.entry_eq_loop ?_⟩;rw[Around.under_plainId MeetsSeq3.plain_eq_loop _];exact Zpq l b xs ys n m d1 d2 s1 s2 e hz 2 (.inl rfl) _ 0 rfl A R _ ⟨u1,u2,ue,by simpa using q⟩
theorem Zs0(hz:xs.size=ys.size):MeetsIn P w (Builtin.«list.__ne__» ⟨[.ref l,.ref b],[]⟩) (fun A R s=>s.heap.get? l=some (Zhx d1 xs n s1)/\s.heap.get? b=some (Zhx d2 ys m s2)/\
  (∀j (h1:j<xs.size) (h2:j<ys.size),EqP P w A.in1 s xs[j] ys[j] (e j))/\R (.ok (.ret (.bool (!(List.range xs.size).all e)))) s):=by
 intro A R s h;obtain⟨hq,gs,dr,tk,oss⟩:=s;obtain⟨u1,u2,ue,q⟩:=h;have sub:=AutoSeq1.sub_list_list;have v0:¬(xs.size !=ys.size)=true:=by simp[hz]
 wp_walk using AutoSeq1.wpAny_loadPart' u1,AutoSeq1.wpAny_loadPart' u2
 refine⟨plainId_quiet MeetsSeq3.plain_eq_loop _,codeAny_builtin MeetsSeq3.entry_eq_loop ?_⟩;rw[Around.under_plainId MeetsSeq3.plain_eq_loop _];exact Zpq l b xs ys n m d1 d2 s1 s2 e hz 3 (.inr rfl) _ 0 rfl A R _ ⟨u1,u2,ue,by simpa using q⟩
end
end L3
namespace L3
open PySem PySem.Spec PyProof.Rows L2
section
variable {P:Program} {w:World} (l b:Addr) (xs ys:Array Value) (n m:Nat) (d1 d2:Option Addr) (s1 s2:Array (Option Value)) (e:Nat->Bool)
abbrev Zas(xs ys:Array Value)(e:Nat->Bool)(i:Nat):Bool:=((List.range (min xs.size ys.size)).drop i).all e&&xs.size==ys.size
theorem ZsV:MeetsIn P w (Builtin.«tuple.__eq__» ⟨[.ref l,.ref b],[]⟩) (fun A R s=>s.heap.get? l=some (ZlP d1 xs n s1)/\s.heap.get? b=some (ZlP d2 ys m s2)/\
  (∀j (h1:j<xs.size) (h2:j<ys.size),EqP P w A.in1 s xs[j] ys[j] (e j))/\R (.ok (.ret (.bool (Zas xs ys e 0)))) s):=
 .of_wp fun A R s h=>by
  obtain⟨hq,gs,dr,tk,oss⟩:=s;obtain⟨u1,u2,ue,q⟩:=h;have sub:=AutoSeq1.sub_tuple_tuple;have zl:(xs.toList.zip ys.toList).length=min xs.size ys.size:=by simp
  wp_walk using AutoSeq1.wpAny_loadPart' u1,AutoSeq1.wpAny_loadPart' u2,wpAny_forIn_list _ (fun rest a s'=>a.1=none/\s'=⟨hq,gs,dr,tk,oss⟩/\∃i,rest=(xs.toList.zip ys.toList).drop i/\
   R (.ok (.ret (.bool (Zas xs ys e i)))) ⟨hq,gs,dr,tk,oss⟩) _
  case turn=>
   rintro⟨y,x⟩ rest a s' ⟨ha,rfl,i,zr,zq⟩;have lt:i<(xs.toList.zip ys.toList).length:=Nat.lt_of_not_le fun z=>by rw[List.drop_of_length_le z] at zr;cases zr
   have lm:i<min xs.size ys.size:=zl▸lt;have l1:i<xs.size:=by omega
   have l2:i<ys.size:=by omega
   rw[List.drop_eq_getElem_cons lt] at zr
   injection zr with zyx zrest
   obtain rfl:y=xs[i]:=by simpa using congrArg Prod.fst zyx
   obtain rfl:x=ys[i]:=by simpa using congrArg Prod.snd zyx
   have zd:(List.range (min xs.size ys.size)).drop i=i::(List.range (min xs.size ys.size)).drop (i+1):=by simp[List.drop_eq_getElem_cons,lm]
   unfold Zas at zq
   rw[zd,List.all_cons] at zq
   refine wpAny_bind (ue i l1 l2 _ _ ?_);cases ei:e i with
   |true=>
    rw[ei,Bool.true_and] at zq
    wp_walk
    exact⟨rfl,rfl,i+1,zrest,zq⟩
   |false=>
    rw[ei,Bool.false_and,Bool.false_and] at zq
    wp_walk
    exact⟨_,rfl,zq⟩
  case fin=>
   rintro⟨a1,a2⟩ s' ⟨ha,rfl,i,zr,zq⟩;simp only at ha
   subst ha;have ge:min xs.size ys.size<=i:=Nat.le_of_not_lt fun z=>by rw[List.drop_eq_getElem_cons (zl▸z:i<(xs.toList.zip ys.toList).length)] at zr;cases zr
   unfold Zas at zq
   rw[List.drop_of_length_le (by simpa using ge)] at zq
   wp_walk
   exact⟨_,rfl,by simpa [Builtin.Tuple.tupleCompareSizes] using zq⟩
  case h=>exact⟨rfl,rfl,0,rfl,q⟩
theorem ZsW:MeetsIn P w (Builtin.«tuple.__ne__» ⟨[.ref l,.ref b],[]⟩) (fun A R s=>s.heap.get? l=some (ZlP d1 xs n s1)/\s.heap.get? b=some (ZlP d2 ys m s2)/\
  (∀j (h1:j<xs.size) (h2:j<ys.size),EqP P w A.in1 s xs[j] ys[j] (e j))/\R (.ok (.ret (.bool (!Zas xs ys e 0)))) s):=
 .of_wp fun A R s h=>by
  obtain⟨hq,gs,dr,tk,oss⟩:=s;obtain⟨u1,u2,ue,q⟩:=h;have sub:=AutoSeq1.sub_tuple_tuple;have zl:(xs.toList.zip ys.toList).length=min xs.size ys.size:=by simp
  wp_walk using AutoSeq1.wpAny_loadPart' u1,AutoSeq1.wpAny_loadPart' u2,wpAny_forIn_list _ (fun rest a s'=>a.1=none/\s'=⟨hq,gs,dr,tk,oss⟩/\∃i,rest=(xs.toList.zip ys.toList).drop i/\
   R (.ok (.ret (.bool (!Zas xs ys e i)))) ⟨hq,gs,dr,tk,oss⟩) _
  case turn=>
   rintro⟨y,x⟩ rest a s' ⟨ha,rfl,i,zr,zq⟩;have lt:i<(xs.toList.zip ys.toList).length:=Nat.lt_of_not_le fun z=>by rw[List.drop_of_length_le z] at zr;cases zr
   have lm:i<min xs.size ys.size:=zl▸lt;have l1:i<xs.size:=by omega
   have l2:i<ys.size:=by omega
   rw[List.drop_eq_getElem_cons lt] at zr
   injection zr with zyx zrest
   obtain rfl:y=xs[i]:=by simpa using congrArg Prod.fst zyx
   obtain rfl:x=ys[i]:=by simpa using congrArg Prod.snd zyx
   have zd:(List.range (min xs.size ys.size)).drop i=i::(List.range (min xs.size ys.size)).drop (i+1):=by simp[List.drop_eq_getElem_cons,lm]
   unfold Zas at zq
   rw[zd,List.all_cons] at zq
   refine wpAny_bind (ue i l1 l2 _ _ ?_);cases ei:e i with
   |true=>
    rw[ei,Bool.true_and] at zq
    wp_walk
    exact⟨rfl,rfl,i+1,zrest,zq⟩
   |false=>
    rw[ei,Bool.false_and,Bool.false_and] at zq
    wp_walk
    exact⟨_,rfl,zq⟩
  case fin=>
   rintro⟨a1,a2⟩ s' ⟨ha,rfl,i,zr,zq⟩;simp only at ha
   subst ha;have ge:min xs.size ys.size<=i:=Nat.le_of_not_lt fun z=>by rw[List.drop_eq_getElem_cons (zl▸z:i<(xs.toList.zip ys.toList).length)] at zr;cases zr
   unfold Zas at zq
   rw[List.drop_of_length_le (by simpa using ge)] at zq
   wp_walk
   exact⟨_,rfl,by simpa [Builtin.Tuple.tupleCompareSizes,bne] using zq⟩
  case h=>exact⟨rfl,rfl,0,rfl,q⟩
end
theorem ZaL{c:Bool}{Q E:Value->Shared->Prop}{s:Shared}(q:Q (.bool c) s):wants (fun v s'=>v≠.notImplemented/\Q v s') E (.ok (.ret (.bool c))) s:=⟨(fun z=>nomatch z),q⟩
section
variable {P:Program} {w:World} {A:Around} {s:Shared} {l b:Addr} {xs ys:Array Value} {e:Nat->Bool}
theorem Zpr(hl:s.heap.IsList l xs)(hb:s.heap.IsList b ys)(hz:xs.size=ys.size)(hu:A.units<cLine)(he:∀j (h1:j<xs.size) (h2:j<ys.size),EqP P w A.in1 s xs[j] ys[j] (e j)):RcP P w A s .Eq (.ref l) (.ref b) ((List.range xs.size).all e)/\RcP P w A s .NotEq (.ref l) (.ref b) (!(List.range xs.size).all e):=by
 obtain⟨⟨c1,d1,t1,s1⟩,o1,k1,n,e1⟩:=id hl;obtain⟨⟨c2,d2,t2,s2⟩,o2,k2,m,e2⟩:=id hb;simp only at k1 e1 k2 e2
 subst k1 e1 k2 e2;exact⟨fun E Q q=>wpAny_richCompare_same_room hl.typeIs hb.typeIs F.slot_list_eq (call_meetsIn F.slot_list_eq hl.typeIs F.entry_list_eq (F.args_list_eq_2 _ _) (ZrZ l b xs ys n m d1 d2 s1 s2 e hz) ⟨o1,o2,he,ZaL q⟩) hu,
  fun E Q q=>wpAny_richCompare_same_room hl.typeIs hb.typeIs F.slot_list_ne (call_meetsIn F.slot_list_ne hl.typeIs F.entry_list_ne (F.args_list_ne_2 _ _) (Zs0 l b xs ys n m d1 d2 s1 s2 e hz) ⟨o1,o2,he,ZaL q⟩) hu⟩
theorem Zk1(hl:s.heap.IsList l xs)(hb:s.heap.IsList b ys)(hz:xs.size≠ys.size)(hu:A.units<cLine):RcP P w A s .Eq (.ref l) (.ref b) false/\RcP P w A s .NotEq (.ref l) (.ref b) true:=
 ⟨fun E Q q=>SeqAt.RcAt.lists_lengths hl hb (by simpa using hz) hu P w E Q q,fun E Q q=>SeqAt.RcNeAt.lists_lengths hl hb (by simpa using hz) hu P w E Q q⟩
theorem Zrn(hl:s.heap.IsTuple l xs)(hb:s.heap.IsTuple b ys)(hu:A.units<cLine)(he:∀j (h1:j<xs.size) (h2:j<ys.size),EqP P w A.in1 s xs[j] ys[j] (e j)):RcP P w A s .Eq (.ref l) (.ref b) (Zas xs ys e 0)/\RcP P w A s .NotEq (.ref l) (.ref b) (!Zas xs ys e 0):=by
 obtain⟨⟨c1,d1,t1,s1⟩,o1,k1,n,e1⟩:=id hl;obtain⟨⟨c2,d2,t2,s2⟩,o2,k2,m,e2⟩:=id hb;simp only at k1 e1 k2 e2
 subst k1 e1 k2 e2;exact⟨fun E Q q=>wpAny_richCompare_same_room hl.typeIs hb.typeIs F.slot_tuple_eq (call_meetsIn F.slot_tuple_eq hl.typeIs F.entry_tuple_eq (F.args_tuple_eq_2 _ _) (ZsV l b xs ys n m d1 d2 s1 s2 e) ⟨o1,o2,he,ZaL q⟩) hu,
  fun E Q q=>wpAny_richCompare_same_room hl.typeIs hb.typeIs F.slot_tuple_ne (call_meetsIn F.slot_tuple_ne hl.typeIs F.entry_tuple_ne (F.args_tuple_ne_2 _ _) (ZsW l b xs ys n m d1 d2 s1 s2 e) ⟨o1,o2,he,ZaL q⟩) hu⟩
def dEq(a b:List (Key×V)):Bool:=a.length==b.length&&a.all fun kv=>match YM b kv.1 with|some u=>eqV kv.2 u|none=>false
theorem ZnA{kb:List (Key×V)}{vb:List (Key×Value)}(rb:KV kb vb)(fb:∀kv∈kb,Xy kv.2=true){ka:List (Key×V)}{va:List (Key×Value)}(ra:KV ka va)(fa:∀kv∈ka,Xy kv.2=true):
  PySem.W.KeqHits A s vb va (ka.all fun kv=>match YM kb kv.1 with|some u=>eqV kv.2 u|none=>false):=by
 induction ra with
 |nil=>exact .nil
 | @cons p q ps qs h t ih=>
  obtain⟨k,v⟩:=p;obtain⟨k',u⟩:=q;obtain⟨e1,e2⟩:=h;have e1:k=k':=e1;subst e1;have e2:Ye v u:=e2;have fr:=ih fun kv hm=>fa kv (List.mem_cons_of_mem _ hm);have fv:Xy v=true:=fa (k,v) (List.mem_cons_self ..);have rv:=KV.val rb k;rw[List.all_cons];cases hv:YM kb k with
  |none=>
   rw[hv] at rv
   exact .miss (Zdn.none_of rv)
  |some y=>
   rw[hv] at rv
   cases hw:valueAt vb k with
   |none=>rw[hw] at rv;exact rv.elim
   |some u'=>
    rw[hw] at rv
    have fy:Xy y=true:=by
     unfold YM at hv
     cases hf:kb.find? (fun kv=>decide (kv.1=k)) with
     |none=>rw[hf] at hv;exact nomatch hv
     |some p=>rw[hf] at hv;cases hv;exact fb p (List.mem_of_find?_eq_some hf)
    exact .hit hw (Zih e2 rv fv fy) fr
theorem Zs1{ka kb:List (Key×V)}{va vb:List (Key×Value)}(ha:(l==sysModules)=false)(hb:(b==sysModules)=false)(da:s.heap.DictOf (Xd P w) l va)(db:s.heap.DictOf (Xd P w) b vb)(ra:KV ka va)(rb:KV kb vb)
  (fa:∀kv∈ka,Xy kv.2=true)(fb:∀kv∈kb,Xy kv.2=true)(hu:A.units<cLine):RcP P w A s .Eq (.ref l) (.ref b) (dEq ka kb)/\RcP P w A s .NotEq (.ref l) (.ref b) (!dEq ka kb):=by
 have e1:ka.length=va.length:=Paired.length ra;have e2:kb.length=vb.length:=Paired.length rb;unfold dEq;rw[e1,e2];exact⟨fun E Q q=>PySem.W.keq_eq ha hb da db hu (fun _=>ZnA rb fb ra fa) q,fun E Q q=>PySem.W.keq_ne ha hb da db hu (fun _=>ZnA rb fb ra fa) q⟩
end
end L3
namespace L3
open PySem PySem.Spec PyProof.Rows L2
inductive Dt where
 |v (x:V)|lst (ds:List Dt)|tup (ds:List Dt)|dct (kvs:List (Key×V))
inductive Rep (K:PySem.W.Frag) (H:Hp):Dt->V->Prop where
 |flat {x:V} (f:Xy x=true):Rep K H (.v x) x
 |lst {a:Addr} {ds:List Dt} {xs:List V} (h:SqL K H a xs) (r:Paired (Rep K H) ds xs):Rep K H (.lst ds) (.ref a)
 |tup {a:Addr} {ds:List Dt} {xs:List V} (h:SqT K H a xs) (r:Paired (Rep K H) ds xs):Rep K H (.tup ds) (.ref a)
 |dct {a:Addr} {kvs:List (Key×V)} (h:Rd H a (.dK kvs)) (f:∀kv∈kvs,Xy kv.2=true):Rep K H (.dct kvs) (.ref a)
abbrev ZfX(K:PySem.W.Frag)(H:Hp)(ds:List Dt)(xs:List V):Prop:=Paired (Rep K H) ds xs
def Xp:Nat->Dt->Dt->Bool
 |_,.v x,.v y=>eqV x y
 |n+1,.lst a,.lst b=>a.length==b.length&&(a.zip b).all fun p=>Xp n p.1 p.2
 |n+1,.tup a,.tup b=>(a.zip b).all (fun p=>Xp n p.1 p.2)&&a.length==b.length
 |_+1,.dct a,.dct b=>dEq a b
 |_,_,_=>false
def Zat:Nat->Dt->Dt->Bool
 |_,.v _,.v _=>true
 |n+1,.lst a,.lst b=>(a.zip b).all fun p=>Zat n p.1 p.2
 |n+1,.tup a,.tup b=>(a.zip b).all fun p=>Zat n p.1 p.2
 |_+1,.dct _,.dct _=>true
 |_,_,_=>false
theorem Jt{x:V}(f:Xy x=true):eqV x x=true:=by
 cases x with
 |non=>rfl
 |bl b=>exact beq_self_eq_true b
 |int i=>exact beq_self_eq_true i
 |str z=>exact beq_self_eq_true z
 |_=>exact absurd (show false=true from f) Bool.false_ne_true
theorem Zps{kvs:List (Key×V)}(nd:(kvs.map (·.1)).Nodup)(f:∀kv∈kvs,Xy kv.2=true):dEq kvs kvs=true:=by
 unfold dEq;rw[beq_self_eq_true,Bool.true_and,List.all_eq_true];intro kv hm;have e:YM kvs kv.1=some kv.2:=by
  clear f
  induction kvs with
  |nil=>cases hm
  |cons p r ih=>
   rw[List.map_cons,List.nodup_cons] at nd
   rcases List.mem_cons.mp hm with rfl|more
   ·exact YF rfl
   ·rw[Yx (fun z=>nd.1 (by rw[z];exact List.mem_map.mpr ⟨kv,more,rfl⟩))]
    exact ih nd.2 more
 rw[e];exact Jt (f kv hm)
theorem Zs2{H:Hp}{a:Addr}{k1 k2:List (Key×V)}(h1:Rd H a (.dK k1))(h2:Rd H a (.dK k2)):k1=k2:=by
 rcases h1 with h1|⟨o1,h1⟩<;>rcases h2 with h2|⟨o2,h2⟩<;>(rw[h1] at h2;cases h2;try rfl)
section
variable {X:Cx} {pins:List (Addr×Obj)} {σ:L2.St} {H:Hp} {s:Shared}
theorem Zpt{a:Addr}{kvs:List (Key×V)}(I:L2.Inv X pins σ H s)(h:Rd H a (.dK kvs)):(kvs.map (·.1)).Nodup:=by
 obtain⟨_,_,vs,rel,dd⟩:=ZbY I.hok h;rw[KV.keys rel];obtain⟨ep,hat⟩:=dd.dictAt;exact hat.nodup
theorem Zpu(I:L2.Inv X pins σ H s):∀(n:Nat) (d e:Dt) (x:V),Rep X.K H d x->Rep X.K H e x->Zat n d e=true->Xp n d e=true:=by
 have XC:∀n,(∀(d e:Dt) (x:V),Rep X.K H d x->Rep X.K H e x->Zat n d e=true->Xp n d e=true)->∀{ds es:List Dt} {xs:List V},ZfX X.K H ds xs->ZfX X.K H es xs->((ds.zip es).all fun p=>Zat n p.1 p.2)=true->
   ds.length=es.length/\((ds.zip es).all fun p=>Xp n p.1 p.2)=true:=by
  intro n ih ds es xs r1
  induction r1 generalizing es with
  |nil=>intro r2 _;cases r2;exact⟨rfl,rfl⟩
  |cons h1 t1 ih2=>
   intro r2 lk;cases r2 with
   |cons h2 t2=>
    rw[List.zip_cons_cons,List.all_cons,Bool.and_eq_true] at lk
    obtain⟨z1,z2⟩:=ih2 t2 lk.2;refine⟨by simp[z1], ?_⟩;rw[List.zip_cons_cons,List.all_cons,Bool.and_eq_true];exact⟨ih _ _ _ h1 h2 lk.1,z2⟩
 intro n
 induction n with
 |zero=>
  intro d e x h1 h2 lk;cases h1 with
  |flat f=>
   cases h2 with
   |flat f2=>exact Jt f
   |_=>cases f
  |_=>cases h2<;>cases lk
 |succ n ih=>
  intro d e x h1 h2 lk;cases h1 with
  |flat f=>
   cases h2 with
   |flat f2=>exact Jt f
   |_=>cases f
  |lst q1 r1=>
   cases h2 with
   |lst q2 r2=>
    cases I.list_inj q1 q2;obtain⟨z1,z2⟩:=XC n ih r1 r2 lk;show(_==_&&_)=true;rw[z1,beq_self_eq_true,Bool.true_and];exact z2
   |_=>cases lk
  |tup q1 r1=>
   cases h2 with
   |tup q2 r2=>
    cases I.tuple_inj q1 q2;obtain⟨z1,z2⟩:=XC n ih r1 r2 lk;show(_&&_==_)=true;rw[z1,beq_self_eq_true,Bool.and_true];exact z2
   |_=>cases lk
  |dct q1 f1=>
   cases h2 with
   |dct q2 f2=>
    cases Zs2 q1 q2;exact Zps (Zpt I q1) f1
   |_=>cases lk
theorem ZhU{n:Nat}{f:Nat->Dt->Dt->Bool}:∀(ds es:List Dt),((ds.zip es).all fun p=>f n p.1 p.2)=(List.range (min ds.length es.length)).all fun j=>f n (ds.getD j (.v .non)) (es.getD j (.v .non))
 |[],es=>by simp
 |_::_,[]=>by simp
 |d::ds,e::es=>by
  rw[List.zip_cons_cons,List.all_cons,ZhU ds es,List.length_cons,List.length_cons,Nat.succ_min_succ,List.range_succ_eq_map,List.all_cons,List.all_map]
  rfl
theorem ZeT{K:PySem.W.Frag}:∀{ds:List Dt} {xs:List V} {us:List Value} (_:ZfX K H ds xs) (_:Yl xs us) (j:Nat) (h:j<us.length),∃x,Rep K H (ds.getD j (.v .non)) x/\Ye x us[j]
 |_,_,_,.nil,.nil,j,h=>absurd h (Nat.not_lt_zero _)
 |_,_,_,.cons r _,.cons v _,0,_=>⟨_,r,v⟩
 |_,_,_,.cons _ t,.cons _ vt,j+1,h=>by
  obtain⟨x,a,b⟩:=ZeT t vt j (by simpa using h);exact⟨x,a,b⟩
theorem ZfY(I:L2.Inv X pins σ H s):∀(n:Nat) (d e:Dt) (x y:V) (u v:Value) (A:Around),Rep X.K H d x->Rep X.K H e y->Ye x u->Ye y v->Zat n d e=true->A.units+n<cLine->
  EqP X.prog X.w A s u v (Xp n d e)/\(Xy x=false->RcP X.prog X.w A s .Eq u v (Xp n d e)/\RcP X.prog X.w A s .NotEq u v (!Xp n d e)):=by
 have flatEq:∀{x y:V} {u v:Value} {A:Around},Xy x=true->Xy y=true->Ye x u->Ye y v->EqP X.prog X.w A s u v (eqV x y):=fun fx fy rx ry E Q q=>Zih rx ry fx fy X.prog X.w E Q q;have refl:∀{n:Nat} {d e:Dt} {a b:Addr} {A:Around},Rep X.K H d (.ref a)->Rep X.K H e (.ref b)->Zat n d e=true->(RcP X.prog X.w A s .Eq (.ref a) (.ref b) (Xp n d e)/\RcP X.prog X.w A s .NotEq (.ref a) (.ref b) (!Xp n d e))->
   EqP X.prog X.w A s (.ref a) (.ref b) (Xp n d e)/\(Xy (.ref a)=false->RcP X.prog X.w A s .Eq (.ref a) (.ref b) (Xp n d e)/\RcP X.prog X.w A s .NotEq (.ref a) (.ref b) (!Xp n d e)):=fun{n d e a b A} h1 h2 lk rc=>by
  refine⟨?_,fun _=>rc⟩
  by_cases hab:a=b
  ·subst hab;rw[Zpu I n d e _ h1 h2 lk];exact fun E Q q=>SeqAt.EqAt.same _ X.prog X.w E Q q
  ·exact EqP.refs hab rc.1
 have item:∀n,(∀(d e:Dt) (x y:V) (u v:Value) (A:Around),Rep X.K H d x->Rep X.K H e y->Ye x u->Ye y v->Zat n d e=true->A.units+n<cLine->
   EqP X.prog X.w A s u v (Xp n d e)/\(Xy x=false->RcP X.prog X.w A s .Eq u v (Xp n d e)/\RcP X.prog X.w A s .NotEq u v (!Xp n d e)))->∀{A:Around} {ds es:List Dt} {xs ys:List V} {us vs:List Value},ZfX X.K H ds xs->ZfX X.K H es ys->Yl xs us->Yl ys vs->
   ((ds.zip es).all fun p=>Zat n p.1 p.2)=true->A.units+(n+1)<cLine->∀j (h1:j<us.toArray.size) (h2:j<vs.toArray.size),EqP X.prog X.w A.in1 s us.toArray[j] vs.toArray[j] (Xp n (ds.getD j (.v .non)) (es.getD j (.v .non))):=by
  intro n ih A ds es xs ys us vs r1 r2 v1 v2 lk hu j h1 h2;have l1:j<us.length:=by simpa using h1
  have l2:j<vs.length:=by simpa using h2
  obtain⟨x,a1,b1⟩:=ZeT r1 v1 j l1;obtain⟨y,a2,b2⟩:=ZeT r2 v2 j l2;have e1:=Paired.length r1;have e2:=Paired.length r2;have e3:=v1.length;have e4:=v2.length;rw[ZhU (f:=Zat),List.all_eq_true] at lk
  have lkj:=lk j (List.mem_range.mpr (by omega));have:=(ih _ _ x y us[j] vs[j] A.in1 a1 a2 b1 b2 lkj (by show A.units+1+n<cLine;omega)).1
  simpa using this
 intro n
 induction n with
 |zero=>
  intro d e x y u v A h1 h2 rx ry lk hu;cases h1 with
  |flat f=>
   cases h2 with
   |flat f2=>exact⟨flatEq f f2 rx ry,fun z=>by rw[f] at z;cases z⟩
   |_=>cases lk
  |_=>cases h2<;>cases lk
 |succ n ih=>
  intro d e x y u v A h1 h2 rx ry lk hu;have hu0:A.units<cLine:=by omega
  cases h1 with
  |flat f=>
   cases h2 with
   |flat f2=>exact⟨flatEq f f2 rx ry,fun z=>by rw[f] at z;cases z⟩
   |_=>cases lk
  | @lst a ds xs q1 r1=>
   cases h2 with
   | @lst b es ys q2 r2=>
    cases rx;cases ry;refine refl (.lst q1 r1) (.lst q2 r2) lk ?_;obtain⟨us,v1,p1,_⟩:=I.list q1;obtain⟨vs,v2,p2,_⟩:=I.list q2;have e1:=Paired.length r1;have e2:=Paired.length r2;have e3:=v1.length;have e4:=v2.length
    by_cases hz:us.length=vs.length
    ·have rc:=Zpr (P:=X.prog) (w:=X.w) (A:=A) (e:=fun j=>Xp n (ds.getD j (.v .non)) (es.getD j (.v .non))) p1.isList p2.isList (by simpa using hz) hu0 (item n ih r1 r2 v1 v2 lk hu);have ee:Xp (n+1) (.lst ds) (.lst es)=(List.range us.toArray.size).all fun j=>Xp n (ds.getD j (.v .non)) (es.getD j (.v .non)):=by
      show(ds.length==es.length&&((ds.zip es).all fun p=>Xp n p.1 p.2))=_;have el:ds.length=es.length:=by omega
      have eu:us.toArray.size=es.length:=by rw[List.size_toArray];omega
      rw[ZhU (f:=Xp),el,beq_self_eq_true,Bool.true_and,Nat.min_self,eu]
     rw[ee];exact rc
    ·have ee:Xp (n+1) (.lst ds) (.lst es)=false:=by
      show(ds.length==es.length&&((ds.zip es).all fun p=>Xp n p.1 p.2))=false;have el:(ds.length==es.length)=false:=beq_eq_false_iff_ne.mpr (by omega);rw[el,Bool.false_and]
     rw[ee];exact Zk1 p1.isList p2.isList (by simpa using hz) hu0
   |_=>cases lk
  | @tup a ds xs q1 r1=>
   cases h2 with
   | @tup b es ys q2 r2=>
    cases rx;cases ry;refine refl (.tup q1 r1) (.tup q2 r2) lk ?_;obtain⟨us,v1,p1,_⟩:=I.tuple q1;obtain⟨vs,v2,p2,_⟩:=I.tuple q2;have e1:=Paired.length r1;have e2:=Paired.length r2;have e3:=v1.length;have e4:=v2.length;have rc:=Zrn (P:=X.prog) (w:=X.w) (A:=A) (e:=fun j=>Xp n (ds.getD j (.v .non)) (es.getD j (.v .non))) (show s.heap.IsTuple a us.toArray from p1) (show s.heap.IsTuple b vs.toArray from p2) hu0 (item n ih r1 r2 v1 v2 lk hu)
    have ee:Xp (n+1) (.tup ds) (.tup es)=Zas us.toArray vs.toArray (fun j=>Xp n (ds.getD j (.v .non)) (es.getD j (.v .non))) 0:=by
     show(((ds.zip es).all fun p=>Xp n p.1 p.2)&&ds.length==es.length)=_;unfold Zas;rw[ZhU (f:=Xp),List.drop_zero,List.size_toArray,List.size_toArray,show us.length=ds.length by omega,show vs.length=es.length by omega]
    rw[ee];exact rc
   |_=>cases lk
  | @dct a ka q1 f1=>
   cases h2 with
   | @dct b kb q2 f2=>
    cases rx;cases ry;refine refl (.dct q1 f1) (.dct q2 f2) lk ?_;obtain⟨_,z1,va,r1,dd1⟩:=ZbY I.hok q1;obtain⟨_,z2,vb,r2,dd2⟩:=ZbY I.hok q2;exact Zs1 z1 z2 dd1 dd2 r1 r2 f1 f2 hu0
   |_=>cases lk
end
section
variable {X:Cx}
def ZsX(K:PySem.W.Frag)(neg:Bool):R2:=fun x y H Q=>∃n d e,n<=30/\Xy x=false/\Rep K H d x/\Rep K H e y/\Zat n d e=true/\Q (.bl (if neg then !Xp n d e else Xp n d e)) H
theorem ZmO(hu:X.A.units+30<cLine):OpR X (compareOp .Eq) (ZsX X.K false):=by
 intro pins s σ H x y v u Q I rx ry h;obtain⟨n,d,e,hn,fx,r1,r2,lk,q⟩:=h;exact((ZfY I n d e x y v u X.A r1 r2 rx ry lk (by omega)).2 fx).1 _ _ ⟨.bl _,H,I,rfl,q⟩
theorem ZgC(hu:X.A.units+30<cLine):OpR X (compareOp .NotEq) (ZsX X.K true):=by
 intro pins s σ H x y v u Q I rx ry h;obtain⟨n,d,e,hn,fx,r1,r2,lk,q⟩:=h;exact((ZfY I n d e x y v u X.A r1 r2 rx ry lk (by omega)).2 fx).2 _ _ ⟨.bl _,H,I,rfl,q⟩
theorem ZlQ{A:Around}{k:Nat}(hr:Zao k A):A.units+30<cLine:=Nat.lt_of_le_of_lt (Nat.add_le_add_left (by decide:30<=64) _) hr.units
end
end L3
namespace M3
open PySem PySem.Spec PyProof.Rows L2 L3
abbrev Tb:=List (Str×Int)
def kk(c:Tb):List (Key×V):=c.map fun p=>(Sum.inr p.1,V.int p.2)
def lk(c:Tb)(k:Str):Option Int:=(c.find? fun p=>decide (p.1=k)).map (·.2)
def Zhy(c:Tb)(k:Str)(v:Int):Tb:=if(c.any fun p=>decide (p.1=k))=true then c.map (fun p=>if p.1=k then(p.1,v) else p) else c++[(k,v)]
theorem Zk2(c:Tb):(kk c).length=c.length:=by unfold kk;rw[List.length_map]
theorem ZqR(c:Tb)(k:Str):YM (kk c) (Sum.inr k)=(lk c k).map V.int:=by
 induction c with
 |nil=>rfl
 |cons p r ih=>
  by_cases e:p.1=k
  ·have h1:lk (p::r) k=some p.2:=by simp[lk,List.find?_cons,e]
   rw[h1];exact YF (p:=(Sum.inr p.1,V.int p.2)) (by rw[e])
  ·have h1:lk (p::r) k=lk r k:=by simp[lk,List.find?_cons,e]
   rw[h1,<-ih];exact Yx (p:=(Sum.inr p.1,V.int p.2)) (fun h=>e (Sum.inr.inj h))
theorem Zs3(c:Tb)(k:Str):((kk c).any fun kv=>decide (kv.1=Sum.inr k))=c.any fun p=>decide (p.1=k):=by
 unfold kk;rw[List.any_map]
 congr 1
 funext p
 show decide ((Sum.inr p.1:Key)=Sum.inr k)=decide (p.1=k);exact ZoT p.1 k
theorem Zpv(c:Tb)(k:Str)(v:Int):Jw (kk c) (Sum.inr k) (.int v)=kk (Zhy c k v):=by
 unfold Jw Zhy;rw[Zs3];cases c.any fun p=>decide (p.1=k) with
 |true=>
  rw[if_pos rfl,if_pos rfl];unfold kk;rw[List.map_map,List.map_map]
  apply List.map_congr_left
  intro p _;show(if(Sum.inr p.1:Key)=Sum.inr k then((Sum.inr p.1:Key),V.int v) else(Sum.inr p.1,V.int p.2))=(Sum.inr (if p.1=k then(p.1,v) else p).1,V.int (if p.1=k then(p.1,v) else p).2)
  by_cases e:p.1=k
  ·rw[if_pos (by rw[e]),if_pos e]
  ·rw[if_neg (fun h=>e (Sum.inr.inj h)),if_neg e]
 |false=>
  rw[if_neg Bool.false_ne_true,if_neg Bool.false_ne_true];unfold kk;rw[List.map_append]
  rfl
theorem Ziw(c:Tb)(k:Str)(v:Int):(Zhy c k v).length<=c.length+1:=by
 unfold Zhy
 split
 ·rw[List.length_map];omega
 ·rw[List.length_append];exact Nat.le_refl _
theorem Zpw(ps:List Str):M1.cs (Txt.join Str.empty ps)=(ps.map M1.cs).flatten:=by
 have e:Txt.join Str.empty ps=Str.join Str.empty ps:=StrLaws.glued_eq_join _ _;rw[e];clear e
 induction ps with
 |nil=>rfl
 |cons p r ih=>
  cases r with
  |nil=>show M1.cs p=_;simp
  |cons q r=>
   show M1.cs (p++Str.empty++Str.join Str.empty (q::r))=_;rw[M1.ZmK,M1.ZmK,ih];simp[show M1.cs Str.empty=[] from rfl]
end M3
namespace M3
open PySem L2 L3
end M3
namespace L3
open PySem PySem.Spec PyProof.Rows L2
theorem ZkL{X:Cx}{K:PySem.W.Frag}{es:List PySem.Expr}{k:Nat}{t:TGs}{pos:Pos}(n:Nat)(hK:X.K=K)(hc:X.calm=true)(h:PGs X es t)(hn:(assignEach es X.env).length=n)(hst:(assignEach es X.env).findIdx? (·.1)=none):PG X (.Tuple es k pos) (Zsz K n t):=by
 subst hK;exact Zic hc h hn hst
end L3
namespace L3
open PySem PySem.Spec PyProof.Rows L2
structure ZkM (P:Program) (w:World) (K:PySem.W.Frag) (mg:Str->Option Value) (base:Heap) (CX:CXT) (k:Nat) (x:Str) (C:Addr) (ps:List Str) (sp:Sp):Prop where
 ex:∃(f:Addr) (fd:FuncData),mg x=some (.ref C)/\Mk K C f/\Zea K fd ps []/\Yn P w K mg base CX k f fd ps sp
structure Zs4 (K:PySem.W.Frag) (mg:Str->Option Value) (x:Str) (C:Addr):Prop where
 at_:mg x=some (.ref C)
 makes:PySem.W.makesIn K C=true
 init:PySem.W.findIn K (.ref C) "__init__"=some (some (.builtin "object.__init__"))
 kp:PySem.W.keepIn K (.ref C)=true
structure Zap (P:Program) (w:World) (K:PySem.W.Frag) (mg:Str->Option Value) (base:Heap) (CX:CXT) (k:Nat) (m:Str) (ps:List Str) (sp:Addr->Sp) (Fam:Addr->Prop):Prop where
 ex:∀C,Fam C->Cls K C/\∃(f:Addr) (fd:FuncData),ZsE K C m f/\Zea K fd ps []/\Yn P w K mg base CX k f fd ps (sp C)
theorem Zpx{P:Program}{w:World}{H:Hp}{h:Heap}{a:Addr}{o:HO}(x:Xu P w H h a o):∃ob,h.get? a=some ob:=by
 cases o with
 |lst xs=>obtain⟨_,_,_,_,e⟩:=x;exact⟨_,e⟩
 |tup xs=>obtain⟨_,_,_,ob,e,_⟩:=x;exact⟨ob,e⟩
 |dK kvs=>obtain⟨_,_,_,_,o,_,_,e,_⟩:=x;exact⟨o,e⟩
 |dT kvs=>obtain⟨_,_,_,_,o,_,_,e,_⟩:=x;exact⟨o,e⟩
 |set S n=>obtain⟨o,_,_,_,e,_⟩:=x;exact⟨o,e⟩
 |ins C dx fs=>obtain⟨_,_,_,e,_⟩:=x;exact⟨_,e⟩
 |own y=>exact x
 |xd fs=>obtain⟨_,⟨o,_,_,e,_⟩,_⟩:=x;exact⟨o,e⟩
 |rng lo hi=>obtain⟨_,_,_,e⟩:=x;exact⟨_,e⟩
 |frz ob u=>exact⟨ob,x.1⟩
 |tbl ps=>exact⟨_,x⟩
 |met f y=>exact⟨_,x⟩
 |ext φ=>exact x.2.1
section
variable {X:Cx} {pins:List (Addr×Obj)} {σ:L2.St} {H:Hp} {s:Shared} {n:Addr} {q:HO}
theorem Zfh{σ₁:L2.St}{H₁:Hp}{s':Shared}(I0:L2.Inv X pins σ₁ H₁ s)(I:L2.Inv X pins σ H s')(f0:H n=none)(hn:s.heap.get? n=none)(ok:Xu X.prog X.w (upd H n q) s'.heap n q):L2.Inv X pins σ (upd H n q) s':=by
 have ns:∀b u,H b=some u->b≠n:=fun b u e z=>by subst z;rw[f0] at e;cases e
 have nh:∀b o,s.heap.get? b=some o->b≠n:=fun b o e z=>by subst z;rw[hn] at e;cases e
 have nL:X.env.locals≠n:=by
  obtain⟨m,⟨o,_,_,e,_⟩,_⟩:=I0.loc;exact nh _ o e
 refine⟨I.ok,I.os,I.bare,⟨I.base.keep,I.base.slot,fun b o e m hx=> ?_,I.base.there,fun b xs e=> ?_,fun b o u e=> ?_,fun b ps e=> ?_⟩,I.loc,I.cell, ?_,fun x c e=> ?_,fun z hz=> ?_,fun b u e=> ?_,I.len⟩
 ·refine(Zm ?_).trans (I.base.free b o e m hx);obtain⟨o',z⟩:=I0.base.there b o e hx;exact nh b o' z
 ·rw[Zm (ns b _ (I.base.tups b xs e))];exact I.base.tups b xs e
 ·rw[Zm (ns b _ (I.base.frzs b o u e))];exact I.base.frzs b o u e
 ·obtain⟨m,e2⟩:=I.base.tbls b ps e;exact⟨m,by rw[Zm (ns b _ e2)];exact e2⟩
 ·rw[Zm nL];exact I.free
 ·obtain⟨v,o,z,_⟩:=I0.cell x c e;rw[Zm (nh c o z)];exact I.freeC x c e
 ·obtain⟨z1,z2,z3⟩:=I.pin z hz;exact⟨z1,by rw[Zm (nh z.1 z.2 (I0.pin z hz).1)];exact z2,z3⟩
 ·by_cases hb:b=n
  ·subst hb;rw[Zc] at e
   cases e;exact ok
  ·rw[Zm hb] at e
   exact(I.hok b u e).stay (fun _ _ _ z=>z) (fun c z=>by rw[Zm (ns c _ z)];exact z) fun c xs z=>by rw[Zm (ns c _ z)];exact z
theorem ZmP{s':Shared}(I0:L2.Inv X pins σ H s)(I:L2.Inv X pins σ H s')(hn:s.heap.get? n=none)(ok:Xu X.prog X.w (upd H n q) s'.heap n q):L2.Inv X pins σ (upd H n q) s':=by
 refine Zfh I0 I ?_ hn ok;cases e:H n with
 |none=>rfl
 |some u=>
  obtain⟨ob,z⟩:=Zpx (I0.hok n u e);rw[hn] at z
  cases z
end
section
variable {X:Cx} {CX:CXT} {k:Nat} {x m:Str} {C:Addr} {ps:List Str} {sp:Sp} {sf:Addr->Sp} {Fam:Addr->Prop} {E:XK} {e o:PySem.Expr} {es:List PySem.Expr} {ta:TE} {t:TA} {p pos apos:Pos}
theorem ZkN(c:ZkM X.prog X.w X.K X.mg X.base CX k x C ps sp)(hr:Zao (k+1) X.A)(hg:Gl X x)(hx:ZbX CX X E)(ha:PA X (e::es) t)(hdb:(x==("__debug__":Str))=false:=by decide)
  (he:starEach (e::es) X.env=(false,eval e X.env)::starEach es X.env:=by rfl)(hpl:(backTo pos (starEach es X.env)).any (·.1)=false:=by rfl):PE X (.Call (.Name x p) (e::es) [] pos) (Zrj C sp [] E t):=by
 obtain⟨f,fd,hm,M,hb,F⟩:=c.ex;exact Zqz M F hr hg hm hb .nil hx ha hdb he hpl
def ZsY(C:Addr):TE:=fun _ H Q=>∀x dx,H x=none->H dx=none->dx≠x->Q (.ref x) (upd (upd H dx (.own x)) x (.ins C dx []))
theorem ZqS(c:Zs4 X.K X.mg x C)(hg:Gl X x)(hdb:(x==("__debug__":Str))=false:=by decide):PE X (.Call (.Name x p) [] [] pos) (ZsY C):=by
 intro pins s σ H Q I h;refine wpAny_Call_Name_kw (ZhP I hg c.at_ ?_ hdb);obtain⟨mm,F⟩:=I.fr;refine PySem.W.callWith_K0 I.kIn c.kp (PySem.W.call_cls0 F I.ok.mod.kin ZoV c.makes c.init fun y dy g F' N' hl hlt=> ?_);have I1:L2.Inv X pins σ H {s with heap:=g,toks:=s.toks}:=ZmN (more:=[(y,PySem.W.instObj C dy),(dy,PySem.W.dictOf [] 0)]) I F.ns F' N';have gy:=N' (y,PySem.W.instObj C dy) (List.mem_cons_self ..)
 have gd:=N' (dy,PySem.W.dictOf [] 0) (List.mem_cons_of_mem _ (List.mem_cons_self ..));have fresh:∀z:Addr,dy<=z->z≠X.env.locals->X.base.get? z=none->s.heap.get? z=none:=fun z hz nl nb=>by
  cases e:s.heap.get? z with
  |none=>rfl
  |some ob=>exact absurd (hl (z,ob) (Zhg nl nb e)) (Nat.not_lt.mpr hz)
 have fd:=fresh dy (Nat.le_refl _) gd.2.1 gd.2.2;have fy:=fresh y (Nat.le_of_lt hlt) gy.2.1 gy.2.2;have I2:=ZmP (q:=.own y) I I1 fd ⟨_,gd.1⟩;have nH:∀z,s.heap.get? z=none->H z=none:=fun z e=>by
  cases q:H z with
  |none=>rfl
  |some u=>obtain⟨ob,w⟩:=Zpx (I.hok z u q);rw[e] at w;cases w
 have ne:dy≠y:=Nat.ne_of_lt hlt;have I3:L2.Inv X pins σ (upd (upd H dy (.own y)) y (.ins C dy [])) {s with heap:=g,toks:=s.toks}:=by
  have e3:g.Ns dy (fun _=>none):=⟨_, #[],_,gd.1,rfl,(fun e he=>absurd he (by simp)),fun _=>rfl⟩
  have f0:upd H dy (.own y) y=none:=(Zm (Ne.symm ne)).trans (nH y fy);have ok:Xu X.prog X.w (upd (upd H dy (.own y)) y (.ins C dy [])) g y (.ins C dy []):=⟨by rw[Zm ne,Zc],Nat.zero_le _,ne,gy.1,fun _=>none,Heap.Ns1.of_empty e3,fun _=>True.intro,fun z hz=>absurd rfl hz⟩
  have ns:∀b u,upd H dy (.own y) b=some u->b≠y:=fun b u e z=>by subst z;rw[f0] at e;cases e
  have nh:∀b o,s.heap.get? b=some o->b≠y:=fun b o e z=>by subst z;rw[fy] at e;cases e
  refine⟨I2.ok,I2.os,I2.bare,⟨I2.base.keep,I2.base.slot,fun b o e m hx=> ?_,I2.base.there,fun b xs e=> ?_,fun b o u e=> ?_,fun b ps e=> ?_⟩,I2.loc,I2.cell, ?_,fun x c e=> ?_,fun z hz=> ?_,fun b u e=> ?_,I2.len⟩
  ·refine(Zm ?_).trans (I2.base.free b o e m hx);obtain⟨o',z⟩:=I.base.there b o e hx;exact nh b o' z
  ·rw[Zm (ns b _ (I2.base.tups b xs e))];exact I2.base.tups b xs e
  ·rw[Zm (ns b _ (I2.base.frzs b o u e))];exact I2.base.frzs b o u e
  ·obtain⟨m,e2⟩:=I2.base.tbls b ps e;exact⟨m,by rw[Zm (ns b _ e2)];exact e2⟩
  ·rw[Zm (Ne.symm gy.2.1)];exact I2.free
  ·obtain⟨v,o,z,_⟩:=I.cell x c e;rw[Zm (nh c o z)];exact I2.freeC x c e
  ·obtain⟨z1,z2,z3⟩:=I2.pin z hz;exact⟨z1,by rw[Zm (nh z.1 z.2 (I.pin z hz).1)];exact z2,z3⟩
  ·by_cases hb:b=y
   ·subst hb;rw[Zc] at e
    cases e;exact ok
   ·rw[Zm hb] at e
    exact(I2.hok b u e).stay (fun _ _ _ z=>z) (fun c z=>by rw[Zm (ns c _ z)];exact z) fun c xs z=>by rw[Zm (ns c _ z)];exact z
 exact⟨.ref y,_,I3,rfl,h y dy (nH y fy) (nH dy fd) ne⟩
def Zpy(Fam:Addr->Prop)(m:Str)(sf:Addr->Sp)(E:XK)(ta:TE)(t:TA):TE:=fun σ H Q=>ta σ H fun x H1=>∃a C dx fs,x=.ref a/\H1 a=some (.ins C dx fs)/\Fam C/\fs.lookup m=none/\t σ H1 fun vs H2=>sf C (x::vs) H2 Q E
theorem Zau{pl:Sem Bool}(he:PE X o ta)(d:Zap X.prog X.w X.K X.mg X.base CX k m ps sf Fam)(hr:Zao k X.A)(hx:ZbX CX X E)(ha:PA X (e::es) t)
  (hst:starEach (e::es) X.env=(false,eval e X.env)::starEach es X.env:=by rfl)(hpl:(backTo pos (starEach es X.env)).any (·.1)=false:=by rfl)
  (ht:eval (.Call (.Attribute o m apos) (e::es) [] pos) X.env=(do
   let ov<-eval o X.env
   standAt apos.atName
   let (f,first)<-holding [ov] (getMethod ov m pl)
   callWith pos f first (backTo pos (starEach (e::es) X.env)) (backToKw pos (keywordEach [] X.env))):=by rfl):PE X (.Call (.Attribute o m apos) (e::es) [] pos) (Zpy Fam m sf E ta t):=by
 intro pins s σ H Q I h;refine PySem.W.methodCall_KW (pl:=pl) (thn (he pins s σ H _ I h) fun u s1 ⟨x,H1,I1,rx,a,C,dx,fs,ex,ea,fam,l,q⟩=> ?_) ht;subst ex;obtain rfl:u=Value.ref a:=rx;obtain⟨c,f,fd,hm,hb,F⟩:=d.ex C fam;refine Zif I1 ea c hm l ?_;refine PySem.W.callWith_K (first:=[.ref a]) (h₀:=X.base) I.ok.mod.kin hm.kp (thn (ha pos pins s1 σ H1 _ I1 q) fun us s2 ⟨vs,H2,I2,r,q2⟩=>⟨I2.kIn, ?_⟩) hst hpl
 exact ZkA (us:=.ref a::us) (vs:=.ref a::vs) F hr hb .nil hx I2 (.cons rfl r) (by rw[List.append_nil];exact q2)
theorem JC{pl:Sem Bool}(he:PE X o ta)(d:Zap X.prog X.w X.K X.mg X.base CX k m ps sf Fam)(hr:Zao k X.A)(hx:ZbX CX X E)
  (ht:eval (.Call (.Attribute o m apos) [] [] pos) X.env=(do
   let ov<-eval o X.env
   standAt apos.atName
   let (f,first)<-holding [ov] (getMethod ov m pl)
   callWith pos f first (backTo pos (starEach [] X.env)) (backToKw pos (keywordEach [] X.env))):=by rfl):PE X (.Call (.Attribute o m apos) [] [] pos) (Zpy Fam m sf E ta Zp5):=by
 intro pins s σ H Q I h;refine PySem.W.methodCall_KW (pl:=pl) (thn (he pins s σ H _ I h) fun u s1 ⟨x,H1,I1,rx,a,C,dx,fs,ex,ea,fam,l,q⟩=> ?_) ht;subst ex;obtain rfl:u=Value.ref a:=rx;obtain⟨c,f,fd,hm,hb,F⟩:=d.ex C fam;refine Zif I1 ea c hm l ?_;exact PySem.W.callWith_K0 (first:=[.ref a]) I1.kIn hm.kp (ZkA (us:=[.ref a]) (vs:=[.ref a]) F hr hb .nil hx I1 (.cons rfl .nil) q)
def Zs5(K:PySem.W.Frag):R2:=fun x y H Q=>∃a b xs,x=.ref a/\y=.ref b/\SqL K H a xs/\SqL K H b []/\Q (.bl (decide (xs=[]))) H
theorem Zpz(hu:X.A.units+30<cLine):OpR X (compareOp .Eq) (Zs5 X.K):=by
 intro pins s σ H x y v u Q I rx ry h;obtain⟨a,b,xs,rfl,rfl,h1,h2,q⟩:=h;cases rx;cases ry;obtain⟨us,v1,p1,_⟩:=I.list h1;obtain⟨vs,v2,p2,_⟩:=I.list h2;have e1:=v1.length;have e2:=v2.length;have hu0:X.A.units<cLine:=by omega
 cases xs with
 |nil=>
  have el:us.toArray.size=vs.toArray.size:=by rw[List.size_toArray,List.size_toArray,<-e1,<-e2]
  have z:us.toArray.size=0:=by rw[List.size_toArray,<-e1];rfl
  refine(Zpr (P:=X.prog) (w:=X.w) (e:=fun _=>true) p1.isList p2.isList el hu0 fun j h1 _=>absurd h1 (by omega)).1 _ _ ⟨.bl _,H,I, ?_,q⟩;rw[z]
  rfl
 |cons y r=>exact(Zk1 (P:=X.prog) (w:=X.w) p1.isList p2.isList (by rw[List.size_toArray,List.size_toArray,<-e1,<-e2];exact Nat.succ_ne_zero _) hu0).1 _ _ ⟨.bl _,H,I,rfl,q⟩
end
end L3
namespace L3
open PySem PySem.Spec PyProof.Rows L2
theorem Xe{P:Program}{w:World}{K:PySem.W.Frag}{mg:Str->Option Value}{base:Heap}{CX:CXT}{k:Nat}{f:Addr}{fd:FuncData}{ps:List Str}{sp:Sp}(h:∀vs H Q E,¬sp vs H Q E):Yn P w K mg base CX k f fd ps sp:=
 ⟨fun vs H Q E z=>(h vs H Q E z).elim,fun _ _ _ H _ _ vs Q E _ _ _ _ z=>(h vs H Q E z).elim⟩
structure TyC (K:PySem.W.Frag) (C:Addr):Prop where
 cl:Cls K C
 ha:PySem.W.findIn K (.ref C) "__class__"=some (some (.builtin "object.__class__"))
 hn:PySem.W.specialIn K (.builtin "object.__class__") "__get__"=some (some (.builtin "getset_descriptor.__get__"))
 htk:PySem.W.takesIn K (.builtin "object.__class__")=some true
 hm:PySem.W.mroIn K C (.type "object")=some true
theorem Yu{c A B:Prop} [Decidable c](hc:¬c)(h:B):if decide c=true then A else B:=by
 rw[decide_eq_false hc];exact ZW h
theorem ZtF{α:Type}{P:List α->Prop}(h:P []):∀us:List α,us.length=0->P us
 |[],_=>h
theorem ZbI{α:Type}{P:List α->Prop}(h:∀a,P [a]):∀us:List α,us.length=1->P us
 |[a],_=>h a
theorem XC{α:Type}{P:List α->Prop}(h:∀a b,P [a,b]):∀us:List α,us.length=2->P us
 |[a,b],_=>h a b
theorem ZlR{α:Type}{P:List α->Prop}(h:∀a b c,P [a,b,c]):∀us:List α,us.length=3->P us
 |[a,b,c],_=>h a b c
theorem ZmQ{α:Type}{P:List α->Prop}(h:∀a b c d,P [a,b,c,d]):∀us:List α,us.length=4->P us
 |[a,b,c,d],_=>h a b c d
end L3
namespace L3
open PySem PySem.Spec PyProof.Rows L2
section
variable {prog:Program} {w:World} {A:Around} {E:Value->Shared->Prop} {s:Shared} {it l S:Addr} {items:Array Value}
end
section
variable {X:Cx} {e:PySem.Expr} {te:TE} {p p2 pos pos2:Pos}
end
end L3
namespace L3
open PySem PySem.Spec PyProof.Rows L2 PySem.W PySem.Calls
section
variable {X:Cx}
end
section
variable {P:Program} {w:World} {K:Frag} {mg:Str->Option Value} {base:Heap} {N:List Str} {qual:Str} {scope:Scope} {f:Addr} {cdv:Value} {A:Around} {outer:List Env} {s₀:Shared} {H₀:Hp} {E:XK}
end
end L3
namespace L3
open PySem PySem.Spec PyProof.Rows L2 PySem.W PySem.Calls
section
variable {P:Program} {w:World} {K:Frag} {mg:Str->Option Value} {base:Heap} {N:List Str} {qual:Str} {scope:Scope} {f:Addr} {cdv:Value} {A:Around} {outer:List Env} {s₀:Shared} {H₀:Hp} {E:XK} {CX:CXT}
end
section
variable {X:Cx} {pins:List (Addr×Obj)} {σ:L2.St} {H:Hp} {s:Shared}
end
end L3
namespace L3
open PySem PySem.W PyProof.Rows
structure Ord (ans:Nat->Nat->Bool):Prop where
 asym:∀i j,ans i j=true->ans j i=false
 tr:∀i j k,ans j i=false->ans k j=false->ans k i=false
theorem Ord.irr{ans:Nat->Nat->Bool}(o:Ord ans)(i:Nat):ans i i=false:=by
 cases e:ans i i with
 |false=>rfl
 |true=>exact e.symm.trans (o.asym i i e)
def ZqT(n:Nat)(ans:Nat->Nat->Bool)(i j:Nat)(C:Bool->Shared->Prop)(s:Shared):Prop:=i<n/\j<n/\C (ans i j) s
abbrev ZbZ(n:Nat)(ans:Nat->Nat->Bool){α:Type}(s:Shared)(t:KasT α)(P:α->Prop):Prop:=t.kasWp (ZqT n ans) (fun a _=>P a) s
def at_(p:Array Nat)(i:Nat):Nat:=p.getD i 0
def ZaM(ans:Nat->Nat->Bool)(p:Array Nat)(k:Nat):Prop:=∀i j,i<=j->j<k->ans (at_ p j) (at_ p i)=false
def Zed(ans:Nat->Nat->Bool)(p:Array Nat)(k:Nat):Prop:=∀i j,i<=j->j<k->ans (at_ p i) (at_ p j)=false
structure Pl (n:Nat) (p:Array Nat):Prop where
 size:p.size=n
 perm:p.Perm (List.toArray (List.range n))
theorem Pl.lt{n:Nat}{p:Array Nat}(h:Pl n p){i:Nat}(hi:i<n):at_ p i<n:=by
 have hi':i<p.size:=by rw[h.size];exact hi
 have e:at_ p i=p[i]:=by simp[at_,Array.getD,hi']
 have m:p[i]∈List.range n:=by
  have:=(Array.perm_iff_toList_perm.mp h.perm).mem_iff (a:=p[i])
  simpa using this.mp (by simp)
 rw[e];exact List.mem_range.mp m
theorem Zfi(x:Array Nat)(k:Nat):at_ x k=(x[k]?).getD 0:=by
 by_cases hk:k<x.size<;>simp[at_,Array.getD,hk]
theorem Zee{p:Array Nat}{i j:Nat}(hj:j<=p.size)(k:Nat):at_ (kas_rev p i j) k=if i<=k/\k<j then at_ p (i+j-1-k) else at_ p k:=by
 rw[Zfi,kas_rev,getElem?_mirror_all hj k,Zfi,Zfi]
 split<;>rfl
theorem ZpA{p:Array Nat}{src d:Nat}(hs:src<p.size)(hd:d<=src)(k:Nat):at_ (bubble p src d) k=if k=src-d then at_ p src else if src-d<k/\k<=src then at_ p (k-1) else at_ p k:=by
 rw[Zfi,getElem?_bubble hs d hd k,Zfi,Zfi,Zfi]
 split
 ·rfl
 ·split<;>rfl
theorem Pl.rev{n:Nat}{p:Array Nat}(h:Pl n p)(i j:Nat):Pl n (kas_rev p i j):=⟨(mirror_size _ _ _ _).trans h.size,(mirror_perm _ _ _ _).trans h.perm⟩
theorem Pl.bub{n:Nat}{p:Array Nat}(h:Pl n p)(i j:Nat):Pl n (bubble p i j):=⟨(bubble_size _ _ _).trans h.size,(bubble_perm _ _ _).trans h.perm⟩
section
variable {n:Nat} {ans:Nat->Nat->Bool} {s:Shared}
theorem Zc0{α β:Type}{t:KasT α}{f:α->KasT β}{P:β->Prop}(h:ZbZ n ans s t fun a=>ZbZ n ans s (f a) P):ZbZ n ans s (t.bind f) P:=by
 have st:∀(t:KasT α) (s0:Shared),t.kasWp (ZqT n ans) (fun a _=>ZbZ n ans s (f a) P) s0->s0=s->t.kasWp (ZqT n ans) (fun a s'=>(f a).kasWp (ZqT n ans) (fun a _=>P a) s') s0:=by
  intro t
  induction t with
  |ret a=>intro s0 h e;subst e;exact h
  |ask i j k ih=>intro s0 ⟨a,b,h⟩ e;exact⟨a,b,ih _ s0 h e⟩
 show(t.bind f).kasWp _ _ _;rw[KasT.kasWp_bind];exact st t s h rfl
theorem Je{α:Type}{P P':α->Prop}(hp:∀a,P a->P' a):∀{t:KasT α},ZbZ n ans s t P->ZbZ n ans s t P'
 | .ret a,h=>hp a h
 | .ask i j k,⟨a,b,h⟩=>⟨a,b,Je hp (t:=k _) h⟩
theorem ZlS{α:Type}{cmp:Nat->Nat->(Bool->Shared->Prop)->Shared->Prop}{P:α->Prop}{Q:α->Shared->Prop}(I:Shared->Prop)(hc:∀i j (C:Bool->Shared->Prop) s,i<n->j<n->I s->(∀s',I s'->C (ans i j) s')->cmp i j C s)(hq:∀a s',P a->I s'->Q a s'):
  ∀(t:KasT α) (s0 s1:Shared),ZbZ n ans s0 t P->I s1->t.kasWp cmp Q s1
 | .ret a,s0,s1,h,i1=>hq a s1 h i1
 | .ask i j k,s0,s1,⟨a,b,h⟩,i1=>hc i j _ s1 a b i1 fun s' i'=>ZlS I hc hq (k _) s0 s' h i'
theorem Zef(o:Ord ans){p:Array Nat}(hp:Pl n p){k:Nat}(hk:k<n)(hs:ZaM ans p k):∀(f l r:Nat),l<=r->r<=k->r-l<=f->(∀i,i<l->ans (at_ p k) (at_ p i)=false)->(∀i,r<=i->i<k->ans (at_ p k) (at_ p i)=true)->
  ZbZ n ans s (kas_place p k f l r) fun x=>x<=k/\(∀i,i<x->ans (at_ p k) (at_ p i)=false)/\∀i,x<=i->i<k->ans (at_ p k) (at_ p i)=true
 |0,l,r,h1,h2,h3,lo,hi=>by
  have e:l=r:=by omega
  subst e;exact⟨h2,lo,hi⟩
 |f+1,l,r,h1,h2,h3,lo,hi=>by
  unfold kas_place
  by_cases g:l≥r
  ·rw[if_pos g];have e:l=r:=by omega
   subst e;exact⟨h2,lo,hi⟩
  ·rw[if_neg g];refine⟨hp.lt hk,hp.lt (by omega), ?_⟩;cases e:ans (p.getD k 0) (p.getD ((l+r)/2) 0) with
   |true=>
    (dsimp only;rw[if_pos rfl])
    refine Zef o hp hk hs f l ((l+r)/2) (by omega) (by omega) (by omega) lo fun i a b=> ?_;cases e2:ans (at_ p k) (at_ p i) with
    |true=>rfl
    |false=>
     have:=o.tr (at_ p ((l+r)/2)) (at_ p i) (at_ p k) (hs _ _ a b) e2;rw[show ans (at_ p k) (at_ p ((l+r)/2))=true from e] at this
     exact this.symm
   |false=>
    (dsimp only;rw[if_neg (by simp)])
    exact Zef o hp hk hs f ((l+r)/2+1) r (by omega) h2 (by omega) (fun i a=>o.tr (at_ p i) (at_ p ((l+r)/2)) (at_ p k) (hs _ _ (by omega) (by omega)) e) hi
theorem Zk3(o:Ord ans):∀(f:Nat) (p:Array Nat) (k:Nat),Pl n p->k+f=n->ZaM ans p k->ZbZ n ans s (kas_bin f p k) fun q=>Pl n q/\ZaM ans q n
 |0,p,k,hp,e,hs=>by
  have e:k=n:=by omega
  subst e;exact⟨hp,hs⟩
 |f+1,p,k,hp,e,hs=>by
  have hk:k<n:=by omega
  unfold kas_bin;refine Zc0 (Je (fun l ⟨a,lo,hi⟩=> ?_) (Zef o hp hk hs k 0 k (by omega) (by omega) (by omega) (fun i z=>by omega) fun i z1 z2=>by omega));refine Zk3 o f _ (k+1) (hp.bub _ _) (by omega) fun i j hij hj=> ?_;have hks:k<p.size:=by rw[hp.size];exact hk
  rw[ZpA hks (by omega),ZpA hks (by omega),show k-(k-l)=l by omega]
  repeat' split
  all_goals first
   |(exfalso;omega)
   |exact o.irr _
   |exact lo _ (by omega)
   |exact o.asym _ _ (hi _ (by omega) (by omega))
   |exact hs _ _ (by omega) (by omega)
theorem ZgD(o:Ord ans){p:Array Nat}(hp:Pl n p):∀(f m:Nat),1<=m->m+f<=n->ZaM ans p m->ZbZ n ans s (kas_asc p f m) fun x=>m<=x/\x<=m+f/\ZaM ans p x/\(x<m+f->ans (at_ p x) (at_ p (x-1))=true)
 |0,m,h1,h2,hs=>⟨Nat.le_refl _,Nat.le_refl _,hs,fun z=>absurd z (Nat.lt_irrefl _)⟩
 |f+1,m,h1,h2,hs=>by
  unfold kas_asc;refine⟨hp.lt (by omega),hp.lt (by omega), ?_⟩;cases e:ans (p.getD m 0) (p.getD (m-1) 0) with
  |true=>(dsimp only;rw[if_pos rfl]);exact⟨Nat.le_refl _,by omega,hs,fun _=>e⟩
  |false=>
   (dsimp only;rw[if_neg (by simp)])
   refine Je (fun x ⟨a,b,c,d⟩=>⟨by omega,by omega,c,fun z=>d (by omega)⟩) (ZgD o hp f (m+1) (by omega) (by omega) fun i j hij hj=> ?_)
   by_cases q:j<m
   ·exact hs i j hij q
   ·have ej:j=m:=by omega
    subst ej
    by_cases q2:i=j
    ·subst q2;exact o.irr _
    ·exact o.tr (at_ p i) (at_ p (j-1)) (at_ p j) (hs _ _ (by omega) (by omega)) e
theorem Zix(o:Ord ans){p q:Array Nat}{m:Nat}(h:Zed ans p m)(e:∀k,k<m->ans (at_ p k) (at_ q k)=false/\ans (at_ q k) (at_ p k)=false):Zed ans q m:=fun i j hij hj=>
 o.tr (at_ q j) (at_ p i) (at_ q i) (o.tr (at_ q j) (at_ p j) (at_ p i) (e j hj).1 (h i j hij hj)) (e i (by omega)).2
def ZqU(ans:Nat->Nat->Bool)(p:Array Nat)(m q:Nat):Prop:=∀k,m-(q+1)<=k->k<m->ans (at_ p k) (at_ p (m-1))=false/\ans (at_ p (m-1)) (at_ p k)=false
theorem ZlT(o:Ord ans){p:Array Nat}{m q:Nat}(hm:m<=p.size)(hq:q+1<=m)(t:ZqU ans p m q):∀k,k<m->ans (at_ p k) (at_ (kas_rev p (m-(q+1)) m) k)=false/\ans (at_ (kas_rev p (m-(q+1)) m) k) (at_ p k)=false:=fun k hk=>by
 rw[Zee hm]
 split
 ·rename_i h
  have a:=t k h.1 h.2;have b:=t (m-(q+1)+m-1-k) (by omega) (by omega);exact⟨o.tr _ _ _ b.2 a.1,o.tr _ _ _ a.2 b.1⟩
 ·exact⟨o.irr _,o.irr _⟩
theorem Zdv(o:Ord ans):∀(f:Nat) (p:Array Nat) (m q:Nat),Pl n p->1<=m->m+f<=n->q+1<=m->Zed ans p m->ZqU ans p m q->ZbZ n ans s (kas_desc f p m q) fun r=>Pl n r.1/\1<=r.2.1/\r.2.1<=m+f/\r.2.2+1<=r.2.1/\Zed ans r.1 r.2.1/\ZqU ans r.1 r.2.1 r.2.2
 |0,p,m,q,hp,h1,h2,hq,hf,ht=>⟨hp,h1,Nat.le_refl _,hq,hf,ht⟩
 |f+1,p,m,q,hp,h1,h2,hq,hf,ht=>by
  unfold kas_desc;refine⟨hp.lt (by omega),hp.lt (by omega), ?_⟩;have more:∀(p':Array Nat),Zed ans p' m->ans (at_ p' (m-1)) (at_ p' m)=false->Zed ans p' (m+1):=fun p' hf' l i j hij hj=>by
   by_cases z:j<m
   ·exact hf' i j hij z
   ·have ej:j=m:=by omega
    subst ej
    by_cases z2:i=j
    ·subst z2;exact o.irr _
    ·exact o.tr (at_ p' j) (at_ p' (j-1)) (at_ p' i) l (hf' _ _ (by omega) (by omega))
  cases e:ans (p.getD m 0) (p.getD (m-1) 0) with
  |true=>
   (dsimp only;rw[if_pos rfl])
   have one:∀p':Array Nat,ZqU ans p' (m+1) 0:=fun p' k a b=>by
    have ek:k=m:=by omega
    subst ek;exact⟨o.irr _,o.irr _⟩
   by_cases z:q>0
   ·rw[if_pos z];have al:=ZlT o (by rw[hp.size];omega) hq ht
    have f':=Zix o hf al;refine Je (fun r ⟨a,b,c,d⟩=>⟨a,b,by omega,d⟩) (Zdv o f _ (m+1) 0 (hp.rev _ _) (by omega) (by omega) (by omega) (more _ f' ?_) (one _));have em:at_ (kas_rev p (m-(q+1)) m) m=at_ p m:=by rw[Zee (by rw[hp.size];omega),if_neg (by omega)]
    rw[em];exact o.tr (at_ p m) (at_ p (m-1)) _ (o.asym _ _ e) (al (m-1) (by omega)).2
   ·rw[if_neg z];exact Je (fun r ⟨a,b,c,d⟩=>⟨a,b,by omega,d⟩) (Zdv o f p (m+1) 0 hp (by omega) (by omega) (by omega) (more _ hf (o.asym _ _ e)) (one _))
  |false=>
   (dsimp only;rw[if_neg (by simp)])
   refine⟨hp.lt (by omega),hp.lt (by omega), ?_⟩;cases e2:ans (p.getD (m-1) 0) (p.getD m 0) with
   |true=>(dsimp only;rw[if_pos rfl]);exact⟨hp,h1,(show m<=m+(f+1) by omega),hq,hf,ht⟩
   |false=>
    (dsimp only;rw[if_neg (by simp)])
    refine Je (fun r ⟨a,b,c,d⟩=>⟨a,b,by omega,d⟩) (Zdv o f p (m+1) (q+1) hp (by omega) (by omega) (by omega) (more _ hf e2) fun k a b=> ?_);show ans (at_ p k) (at_ p m)=false/\ans (at_ p m) (at_ p k)=false
    by_cases z:k=m
    ·subst z;exact⟨o.irr _,o.irr _⟩
    ·have t:=ht k (by omega) (by omega);exact⟨o.tr (at_ p m) (at_ p (m-1)) (at_ p k) e2 t.1,o.tr (at_ p k) (at_ p (m-1)) (at_ p m) t.2 e⟩
theorem Zhk(o:Ord ans){p:Array Nat}(hp:Pl n p){m:Nat}(h1:1<=m)(h2:m<=n)(hf:Zed ans p m):ZbZ n ans s (kas_tail3 m n p) fun r=>1<=r.1/\r.1<=n/\Pl n r.2/\ZaM ans r.2 r.1:=by
 unfold kas_tail3;refine Zc0 (Je (fun x ⟨a,b,c,d⟩=>⟨by omega,by omega,hp.rev _ _,c⟩) (ZgD o (hp.rev 0 m) (n-m) m h1 (by omega) fun i j hij hj=> ?_));rw[Zee (by rw[hp.size];exact h2),Zee (by rw[hp.size];exact h2),if_pos (by omega),if_pos (by omega)]
 exact hf _ _ (by omega) (by omega)
theorem Zeg(o:Ord ans){p:Array Nat}(hp:Pl n p){m:Nat}(h1:1<=m)(h2:m<n)(hf:Zed ans p m)(hl:ans (at_ p m) (at_ p (m-1))=true):ZbZ n ans s (kas_descPart m n p) fun r=>1<=r.1/\r.1<=n/\Pl n r.2/\ZaM ans r.2 r.1:=by
 unfold kas_descPart;refine Zc0 (Je (fun r ⟨a,b,c,d,e,t⟩=> ?g) (Zdv o (n-(m+1)) p (m+1) 0 hp (by omega) (by omega) (by omega) (fun i j hij hj=> ?f) fun k a b=> ?t))
 case g=>
  split
  ·have al:=ZlT o (by rw[a.size];omega) d t
   exact Zhk o (a.rev _ _) b (by omega) (Zix o e al)
  ·exact Zhk o a b (by omega) e
 case f=>
  by_cases z:j<m
  ·exact hf i j hij z
  ·have ej:j=m:=by omega
   subst ej
   by_cases z2:i=j
   ·subst z2;exact o.irr _
   ·exact o.tr (at_ p j) (at_ p (j-1)) (at_ p i) (o.asym _ _ hl) (hf _ _ (by omega) (by omega))
 case t=>
  have ek:k=m:=by omega
  subst ek;exact⟨o.irr _,o.irr _⟩
theorem ZlU(o:Ord ans){p:Array Nat}(hp:Pl n p)(h1:1<=n):ZbZ n ans s (kas_count n p) fun r=>1<=r.1/\r.1<=n/\Pl n r.2/\ZaM ans r.2 r.1:=by
 unfold kas_count;refine Zc0 (Je (fun x ⟨a,b,c,d⟩=> ?g) (ZgD o hp (n-1) 1 (Nat.le_refl _) (by omega) fun i j hij hj=> ?f))
 case g=>
  by_cases z:x=n
  ·rw[if_pos (by simpa using z)];exact⟨a,by omega,hp,c⟩
  ·rw[if_neg (by simpa using z)];have l:=d (by omega)
   by_cases z2:x>1
   ·rw[if_pos z2];refine⟨hp.lt (by omega),hp.lt (by omega), ?_⟩;cases e:ans (p.getD 0 0) (p.getD (x-1) 0) with
    |true=>(dsimp only;rw[if_pos rfl]);exact⟨a,by omega,hp,c⟩
    |false=>
     (dsimp only;rw[if_neg (by simp)])
     have al:∀i j,i<x->j<x->ans (at_ p i) (at_ p j)=false:=fun i j hi hj=>o.tr (at_ p j) (at_ p 0) (at_ p i) (o.tr (at_ p j) (at_ p (x-1)) (at_ p 0) (c _ _ (by omega) (by omega)) e) (c _ _ (by omega) hi);have hx:x<=p.size:=by rw[hp.size];omega
     refine Zeg o (hp.rev 0 x) a (by omega) (fun i j hij hj=> ?_) ?_
     ·rw[Zee hx,Zee hx,if_pos (by omega),if_pos (by omega)];exact al _ _ (by omega) (by omega)
     ·rw[Zee hx,Zee hx,if_neg (by omega),if_pos (by omega),show 0+x-1-(x-1)=0 by omega];cases e3:ans (at_ p x) (at_ p 0) with
      |true=>rfl
      |false=>
       have:=o.tr (at_ p (x-1)) (at_ p 0) (at_ p x) e e3;rw[l] at this
       exact this.symm
   ·rw[if_neg z2];have ex:x=1:=by omega
    subst ex;exact Zeg o hp (Nat.le_refl _) (by omega) (fun i j hij hj=>by
     have:i=j:=by omega
     subst this;exact o.irr _) l
 case f=>
  have:i=j:=by omega
  subst this;exact o.irr _
theorem ZmR(o:Ord ans)(h1:1<=n):ZbZ n ans s (kas_sort n) fun q=>Pl n q/\ZaM ans q n:=by
 unfold kas_sort;have p0:Pl n (List.toArray (List.range n)):=⟨by simp,Array.Perm.refl _⟩
 refine Zc0 (Je (fun r ⟨a,b,c,d⟩=> ?_) (ZlU o p0 h1))
 split
 ·have e:max r.1 1=r.1:=by omega
  rw[e];exact Zk3 o _ _ _ c (by omega) d
 ·have e:r.1=n:=by omega
  rw[e] at d
  exact⟨c,d⟩
end
end L3
namespace L3
open PySem
structure STO {α:Type} (lt:α->α->Bool):Prop where
 irr:∀a,lt a a=false
 tr:∀a b c,lt a b=true->lt b c=true->lt a c=true
 tri:∀a b,lt a b=true\/a=b\/lt b a=true
theorem STO.asym{α:Type}{lt:α->α->Bool}(o:STO lt){a b:α}(h:lt a b=true):lt b a=false:=by
 cases e:lt b a with
 |false=>rfl
 |true=>exact(o.tr a b a h e).symm.trans (o.irr a)
theorem STO.ord{α:Type}{lt:α->α->Bool}(o:STO lt)(f:Nat->α):Ord fun i j=>lt (f i) (f j) where
 asym:=fun i j h=>o.asym h
 tr:=fun i j k h1 h2=>by
  cases e:lt (f k) (f i) with
  |false=>rfl
  |true=>
   rcases o.tri (f i) (f j) with z|z|z
   ·exact(o.tr _ _ _ e z).symm.trans h2
   ·rw[z] at e;exact e.symm.trans h2
   ·exact z.symm.trans h1
def Zcp(a b:Int):Bool:=decide (a<b)
theorem Zd3:STO Zcp:=⟨fun a=>decide_eq_false (by omega),fun a b c h1 h2=>decide_eq_true (by have:=of_decide_eq_true h1;have:=of_decide_eq_true h2;omega),fun a b=>by
 rcases Int.lt_trichotomy a b with h|h|h
 ·exact .inl (decide_eq_true h)
 ·exact .inr (.inl h)
 ·exact .inr (.inr (decide_eq_true h))⟩
def Zf5{α:Type} [DecidableEq α](lt:α->α->Bool):List α->List α->Bool
 |[],[]=>false
 |[],_::_=>true
 |_::_,[]=>false
 |a::r,b::t=>if a=b then Zf5 lt r t else lt a b
theorem ZlV{α:Type} [DecidableEq α]{lt:α->α->Bool}(o:STO lt):STO (Zf5 lt) where
 irr:=fun l=>by
  induction l with
  |nil=>rfl
  |cons a r ih=>unfold Zf5;rw[if_pos rfl];exact ih
 tr:=fun x=>by
  induction x with
  |nil=>intro y z h1 h2;cases y with
   |nil=>exact h2
   |cons b t=>cases z with
    |nil=>exact absurd h2 (by simp[Zf5])
    |cons c u=>rfl
  |cons a r ih=>intro y z h1 h2;cases y with
   |nil=>exact absurd h1 (by simp[Zf5])
   |cons b t=>cases z with
    |nil=>exact absurd h2 (by simp[Zf5])
    |cons c u=>
     unfold Zf5 at h1 h2⊢
     by_cases e1:a=b
     ·subst e1;rw[if_pos rfl] at h1
      by_cases e2:a=c
      ·rw[if_pos e2] at h2⊢;exact ih t u h1 h2
      ·rw[if_neg e2] at h2⊢;exact h2
     ·rw[if_neg e1] at h1
      by_cases e2:b=c
      ·subst e2;rw[if_neg e1];exact h1
      ·rw[if_neg e2] at h2
       have h3:=o.tr _ _ _ h1 h2
       by_cases e3:a=c
       ·subst e3;rw[o.irr] at h3;cases h3
       ·rw[if_neg e3];exact h3
 tri:=fun x=>by
  induction x with
  |nil=>intro y;cases y with
   |nil=>exact .inr (.inl rfl)
   |cons b t=>exact .inl rfl
  |cons a r ih=>intro y;cases y with
   |nil=>exact .inr (.inr rfl)
   |cons b t=>
    unfold Zf5
    by_cases e:a=b
    ·subst e;rw[if_pos rfl,if_pos rfl];rcases ih t with h|h|h
     ·exact .inl h
     ·exact .inr (.inl (by rw[h]))
     ·exact .inr (.inr h)
    ·rw[if_neg e,if_neg (Ne.symm e)];rcases o.tri a b with h|h|h
     ·exact .inl h
     ·exact absurd h e
     ·exact .inr (.inr h)
def ZmS{α β:Type} [DecidableEq α](la:α->α->Bool)(lb:β->β->Bool)(x y:α×β):Bool:=if x.1=y.1 then lb x.2 y.2 else la x.1 y.1
theorem Ziy{α β:Type} [DecidableEq α]{la:α->α->Bool}{lb:β->β->Bool}(oa:STO la)(ob:STO lb):STO (ZmS la lb) where
 irr:=fun x=>by unfold ZmS;rw[if_pos rfl];exact ob.irr _
 tr:=fun⟨a,x⟩ ⟨b,y⟩ ⟨c,z⟩ h1 h2=>by
  unfold ZmS at h1 h2⊢
  dsimp only at h1 h2⊢
  by_cases e1:a=b
  ·subst e1;rw[if_pos rfl] at h1
   by_cases e2:a=c
   ·rw[if_pos e2] at h2⊢;exact ob.tr _ _ _ h1 h2
   ·rw[if_neg e2] at h2⊢;exact h2
  ·rw[if_neg e1] at h1
   by_cases e2:b=c
   ·subst e2;rw[if_neg e1];exact h1
   ·rw[if_neg e2] at h2
    have h3:=oa.tr _ _ _ h1 h2
    by_cases e3:a=c
    ·subst e3;rw[oa.irr] at h3;cases h3
    ·rw[if_neg e3];exact h3
 tri:=fun⟨a,x⟩ ⟨b,y⟩=>by
  unfold ZmS
  dsimp only
  by_cases e:a=b
  ·subst e;rw[if_pos rfl,if_pos rfl];rcases ob.tri x y with h|h|h
   ·exact .inl h
   ·exact .inr (.inl (by rw[h]))
   ·exact .inr (.inr h)
  ·rw[if_neg e,if_neg (Ne.symm e)];rcases oa.tri a b with h|h|h
   ·exact .inl h
   ·exact absurd h e
   ·exact .inr (.inr h)
def ZmT(a b:List Nat):Bool:=decide (a<b)
theorem Ziz:∀a b:List Nat,ZmT a b=Zf5 (fun x y=>decide (x<y)) a b
 |[],[]=>rfl
 |[],_::_=>rfl
 |_::_,[]=>rfl
 |a::r,b::t=>by
  unfold Zf5;have e:ZmT (a::r) (b::t)=(decide (a<b)||(a==b&&ZmT r t)):=StrLaws.lt_cons_cons a b r t;rw[e,Ziz r t]
  by_cases q:a=b
  ·subst q;rw[if_pos rfl];simp
  ·rw[if_neg q];simp[q]
def XD(a b:Str):Bool:=decide (a.cps.toList<b.cps.toList)
theorem XN:STO XD:=by
 have o:STO fun x y:Nat=>decide (x<y):=⟨fun a=>decide_eq_false (by omega),fun a b c h1 h2=>decide_eq_true (by have:=of_decide_eq_true h1;have:=of_decide_eq_true h2;omega),fun a b=>by
  rcases Nat.lt_trichotomy a b with h|h|h
  ·exact .inl (decide_eq_true h)
  ·exact .inr (.inl h)
  ·exact .inr (.inr (decide_eq_true h))⟩
 have L:=ZlV o;have e:∀a b:Str,XD a b=Zf5 (fun x y=>decide (x<y)) a.cps.toList b.cps.toList:=fun a b=>Ziz _ _;refine⟨fun a=>(e a a).trans (L.irr _),fun a b c h1 h2=> ?_,fun a b=> ?_⟩
 ·rw[e] at h1 h2⊢;exact L.tr _ _ _ h1 h2
 ·rw[e,e];rcases L.tri a.cps.toList b.cps.toList with h|h|h
  ·exact .inl h
  ·refine .inr (.inl ?_);obtain⟨⟨x⟩⟩:=a;obtain⟨⟨y⟩⟩:=b;have h:x=y:=h;rw[h]
  ·exact .inr (.inr h)
abbrev Lf:=Str×Int
def ZcB:Lf->Lf->Bool:=ZmS XD Zcp
def ZnB:List Lf->List Lf->Bool:=Zf5 ZcB
abbrev Ky:=Int×List Lf
def ZpB:Ky->Ky->Bool:=ZmS Zcp ZnB
theorem Zc1:STO ZcB:=Ziy XN Zd3
theorem Zk4:STO ZnB:=ZlV Zc1
theorem ZpC:STO ZpB:=Ziy Zd3 Zk4
end L3
namespace L3
open PySem PySem.Spec PyProof.Rows L2
def Zfj(e c:Nat->Bool)(fin:Bool):List Nat->Bool
 |[]=>fin
 |i::r=>if e i=true then Zfj e c fin r else c i
section
variable {P:Program} {w:World} (l b:Addr) (xs ys:Array Value) (n m:Nat) (d1 d2:Option Addr) (s1 s2:Array (Option Value)) (e c:Nat->Bool)
abbrev Zhz(xs ys:Array Value)(e c:Nat->Bool)(i:Nat):Bool:=Zfj e c (decide (xs.size<ys.size)) ((List.range (min xs.size ys.size)).drop i)
theorem Zs6(k:Nat):∀i:Nat,min xs.size ys.size-i=k->MeetsIn P w (Builtin.«list.__eq__.loop» ⟨[.ref l,.ref b,rawInt i,rawInt 0],[]⟩)
  (fun A R s=>s.heap.get? l=some (Zhx d1 xs n s1)/\s.heap.get? b=some (Zhx d2 ys m s2)/\(∀j (h1:j<xs.size) (h2:j<ys.size),EqP P w A.in1 s xs[j] ys[j] (e j))/\
   (∀j (h1:j<xs.size) (h2:j<ys.size),e j=false->RcP P w A.in1 s .Lt xs[j] ys[j] (c j))/\R (.ok (.ret (.bool (Zhz xs ys e c i)))) s):=by
 induction k with
 |zero=>
  intro i hk A R s h;obtain⟨hq,gs,dr,tk,oss⟩:=s;obtain⟨u1,u2,ue,uc,q⟩:=h;have v3:(List.range (min xs.size ys.size)).drop i=[]:=by simp;omega
  unfold Zhz at q
  rw[v3] at q
  have fin:∀o1 o2,(xs[((i:Nat):Int).toNat]? =o1)->(ys[((i:Nat):Int).toNat]? =o2)->o1=none\/o2=none:=fun o1 o2 a1 a2=>by
   rw[<-a1,<-a2]
   by_cases z:i<xs.size
   ·right;simp;omega
   ·left;simp;omega
  wp_walk using AutoSeq1.wpAny_loadPart' u1,AutoSeq1.wpAny_loadPart' u2
  cases v1:xs[((i:Nat):Int).toNat]? with
  |none=>
   wp_walk using AutoSeq1.wpAny_loadPart' u1,AutoSeq1.wpAny_loadPart' u2
   exact q
  |some x=>
   cases v2:ys[((i:Nat):Int).toNat]? with
   |none=>
    wp_walk using AutoSeq1.wpAny_loadPart' u1,AutoSeq1.wpAny_loadPart' u2
    exact q
   |some y=>exact absurd (fin _ _ v1 v2) (by simp)
 |succ k ih=>
  intro i hk A R s h;obtain⟨hq,gs,dr,tk,oss⟩:=s;obtain⟨u1,u2,ue,uc,q⟩:=h;have t1:i<xs.size:=by omega
  have t2:i<ys.size:=by omega
  have tm:i<min xs.size ys.size:=by omega
  have v1:xs[((i:Nat):Int).toNat]? =some xs[i]:=by simp[t1]
  have v2:ys[((i:Nat):Int).toNat]? =some ys[i]:=by simp[t2]
  have v3:(List.range (min xs.size ys.size)).drop i=i::(List.range (min xs.size ys.size)).drop (i+1):=by simp[List.drop_eq_getElem_cons,tm]
  have v4:((i:Int)+1)=((i+1:Nat):Int):=by push_cast;rfl
  unfold Zhz at q
  rw[v3] at q
  unfold Zfj at q
  wp_walk using AutoSeq1.wpAny_loadPart' u1,AutoSeq1.wpAny_loadPart' u2
  rw[v1,v2];refine wpAny_bind (ue i t1 t2 _ _ ?_);cases ei:e i with
  |true=>
   rw[ei,if_pos rfl] at q
   wp_walk
   rw[v4];refine⟨plainId_quiet MeetsSeq3.plain_eq_loop _,codeAny_builtin MeetsSeq3.entry_eq_loop ?_⟩;rw[Around.under_plainId MeetsSeq3.plain_eq_loop _];exact ih (i+1) (by omega) A R _ ⟨u1,u2,ue,uc,q⟩
  |false=>
   rw[ei,if_neg (by simp)] at q
   wp_walk using AutoSeq1.wpAny_loadPart' u1,AutoSeq1.wpAny_loadPart' u2
   rw[v1,v2];refine wpAny_bind (uc i t1 t2 ei _ _ ?_)
   wp_walk
   exact q
theorem Zs7:MeetsIn P w (Builtin.«list.__lt__» ⟨[.ref l,.ref b],[]⟩) (fun A R s=>s.heap.get? l=some (Zhx d1 xs n s1)/\s.heap.get? b=some (Zhx d2 ys m s2)/\
  (∀j (h1:j<xs.size) (h2:j<ys.size),EqP P w A.in1 s xs[j] ys[j] (e j))/\(∀j (h1:j<xs.size) (h2:j<ys.size),e j=false->RcP P w A.in1 s .Lt xs[j] ys[j] (c j))/\R (.ok (.ret (.bool (Zhz xs ys e c 0)))) s):=by
 intro A R s h;obtain⟨hq,gs,dr,tk,oss⟩:=s;obtain⟨u1,u2,ue,uc,q⟩:=h;have sub:=AutoSeq1.sub_list_list
 wp_walk using AutoSeq1.wpAny_loadPart' u1,AutoSeq1.wpAny_loadPart' u2
 refine⟨plainId_quiet MeetsSeq3.plain_eq_loop _,codeAny_builtin MeetsSeq3.entry_eq_loop ?_⟩;rw[Around.under_plainId MeetsSeq3.plain_eq_loop _];exact Zs6 l b xs ys n m d1 d2 s1 s2 e c _ 0 rfl A R _ ⟨u1,u2,ue,uc,q⟩
theorem ZsZ:MeetsIn P w (Builtin.«tuple.__lt__» ⟨[.ref l,.ref b],[]⟩) (fun A R s=>s.heap.get? l=some (ZlP d1 xs n s1)/\s.heap.get? b=some (ZlP d2 ys m s2)/\
  (∀j (h1:j<xs.size) (h2:j<ys.size),EqP P w A.in1 s xs[j] ys[j] (e j))/\(∀j (h1:j<xs.size) (h2:j<ys.size),e j=false->RcP P w A.in1 s .Lt xs[j] ys[j] (c j))/\R (.ok (.ret (.bool (Zhz xs ys e c 0)))) s):=
 .of_wp fun A R s h=>by
  obtain⟨hq,gs,dr,tk,oss⟩:=s;obtain⟨u1,u2,ue,uc,q⟩:=h;have sub:=AutoSeq1.sub_tuple_tuple;have zl:(xs.toList.zip ys.toList).length=min xs.size ys.size:=by simp
  wp_walk using AutoSeq1.wpAny_loadPart' u1,AutoSeq1.wpAny_loadPart' u2,wpAny_forIn_list _ (fun rest a s'=>a.1=none/\s'=⟨hq,gs,dr,tk,oss⟩/\∃i,rest=(xs.toList.zip ys.toList).drop i/\
   R (.ok (.ret (.bool (Zhz xs ys e c i)))) ⟨hq,gs,dr,tk,oss⟩) _
  case turn=>
   rintro⟨y,x⟩ rest a s' ⟨ha,rfl,i,zr,zq⟩;have lt:i<(xs.toList.zip ys.toList).length:=Nat.lt_of_not_le fun z=>by rw[List.drop_of_length_le z] at zr;cases zr
   have lm:i<min xs.size ys.size:=zl▸lt;have l1:i<xs.size:=by omega
   have l2:i<ys.size:=by omega
   rw[List.drop_eq_getElem_cons lt] at zr
   injection zr with zyx zrest
   obtain rfl:y=xs[i]:=by simpa using congrArg Prod.fst zyx
   obtain rfl:x=ys[i]:=by simpa using congrArg Prod.snd zyx
   have zd:(List.range (min xs.size ys.size)).drop i=i::(List.range (min xs.size ys.size)).drop (i+1):=by simp[List.drop_eq_getElem_cons,lm]
   unfold Zhz at zq
   rw[zd] at zq
   unfold Zfj at zq
   refine wpAny_bind (ue i l1 l2 _ _ ?_);cases ei:e i with
   |true=>
    rw[ei,if_pos rfl] at zq
    wp_walk
    exact⟨rfl,rfl,i+1,zrest,zq⟩
   |false=>
    rw[ei,if_neg (by simp)] at zq
    have rc:=uc i l1 l2 ei;unfold RcP at rc
    generalize richCompare CmpOp.Lt xs[i] ys[i]=m at rc⊢
    wp_walk
    first|refine wpAny_bind (rc _ _ ?_)|refine rc _ _ ?_
    wp_walk
    exact⟨_,rfl,zq⟩
  case fin=>
   rintro⟨a1,a2⟩ s' ⟨ha,rfl,i,zr,zq⟩;simp only at ha
   subst ha;have ge:min xs.size ys.size<=i:=Nat.le_of_not_lt fun z=>by rw[List.drop_eq_getElem_cons (zl▸z:i<(xs.toList.zip ys.toList).length)] at zr;cases zr
   unfold Zhz at zq
   rw[List.drop_of_length_le (by simpa using ge)] at zq
   wp_walk
   exact⟨_,rfl,by simpa [Builtin.Tuple.tupleCompareSizes,Zfj] using zq⟩
  case h=>exact⟨rfl,rfl,0,rfl,q⟩
end
section
variable {P:Program} {w:World} {A:Around} {s:Shared} {l b:Addr} {xs ys:Array Value} {e c:Nat->Bool}
theorem ZqV(hl:s.heap.IsList l xs)(hb:s.heap.IsList b ys)(hu:A.units<cLine)(he:∀j (h1:j<xs.size) (h2:j<ys.size),EqP P w A.in1 s xs[j] ys[j] (e j))(hc:∀j (h1:j<xs.size) (h2:j<ys.size),e j=false->RcP P w A.in1 s .Lt xs[j] ys[j] (c j)):RcP P w A s .Lt (.ref l) (.ref b) (Zhz xs ys e c 0):=by
 obtain⟨⟨c1,d1,t1,s1⟩,o1,k1,n,e1⟩:=id hl;obtain⟨⟨c2,d2,t2,s2⟩,o2,k2,m,e2⟩:=id hb;simp only at k1 e1 k2 e2
 subst k1 e1 k2 e2;exact fun E Q q=>wpAny_richCompare_same_room hl.typeIs hb.typeIs F.slot_list_lt (call_meetsIn F.slot_list_lt hl.typeIs F.entry_list_lt (F.args_list_lt_2 _ _) (Zs7 l b xs ys n m d1 d2 s1 s2 e c) ⟨o1,o2,he,hc,ZaL q⟩) hu
theorem Zs8(hl:s.heap.IsTuple l xs)(hb:s.heap.IsTuple b ys)(hu:A.units<cLine)(he:∀j (h1:j<xs.size) (h2:j<ys.size),EqP P w A.in1 s xs[j] ys[j] (e j))(hc:∀j (h1:j<xs.size) (h2:j<ys.size),e j=false->RcP P w A.in1 s .Lt xs[j] ys[j] (c j)):RcP P w A s .Lt (.ref l) (.ref b) (Zhz xs ys e c 0):=by
 obtain⟨⟨c1,d1,t1,s1⟩,o1,k1,n,e1⟩:=id hl;obtain⟨⟨c2,d2,t2,s2⟩,o2,k2,m,e2⟩:=id hb;simp only at k1 e1 k2 e2
 subst k1 e1 k2 e2;exact fun E Q q=>wpAny_richCompare_same_room hl.typeIs hb.typeIs F.slot_tuple_lt (call_meetsIn F.slot_tuple_lt hl.typeIs F.entry_tuple_lt (F.args_tuple_lt_2 _ _) (ZsZ l b xs ys n m d1 d2 s1 s2 e c) ⟨o1,o2,he,hc,ZaL q⟩) hu
end
end L3
namespace L3
open PySem PySem.Spec PyProof.Rows L2 PySem.W PySem.Calls
def lfD(x:Lf):Dt:=.tup [.v (.str x.1),.v (.int x.2)]
def ZlW(l:List Lf):Dt:=.lst (l.map lfD)
def kyD(k:Ky):Dt:=.tup [.v (.int k.1),ZlW k.2]
theorem ZpD(n:Nat)(x y:Lf):Xp (n+1) (lfD x) (lfD y)=decide (x=y):=by
 obtain⟨a,b⟩:=x;obtain⟨c,d⟩:=y;have e:Xp (n+1) (lfD (a,b)) (lfD (c,d))=((a==c)&&(b==d)):=by simp[lfD,Xp,eqV]
 rw[e]
 by_cases h:(a,b)=(c,d)
 ·injection h with h1 h2;subst h1 h2;simp
 ·rw[decide_eq_false h]
  by_cases h1:a=c
  ·subst h1;have h2:b≠d:=fun z=>h (by rw[z]);simp[h2]
  ·simp[h1]
theorem ZqW(n:Nat):∀x y:List Lf,Xp (n+2) (ZlW x) (ZlW y)=decide (x=y):=by
 have go:∀x y:List Lf,((x.map lfD).length==(y.map lfD).length&&((x.map lfD).zip (y.map lfD)).all fun p=>Xp (n+1) p.1 p.2)=decide (x=y):=by
  intro x
  induction x with
  |nil=>intro y;cases y<;>rfl
  |cons a r ih=>intro y;cases y with
   |nil=>rfl
   |cons b t=>
    rw[List.map_cons,List.map_cons,List.zip_cons_cons,List.all_cons,ZpD,List.length_cons,List.length_cons];have e:((r.map lfD).length+1==(t.map lfD).length+1)=((r.map lfD).length==(t.map lfD).length):=by
     by_cases z:(r.map lfD).length=(t.map lfD).length
     ·rw[z];simp
     ·rw[beq_false_of_ne z,beq_false_of_ne (by omega)]
    rw[e,Bool.and_left_comm,ih t]
    by_cases z:a=b
    ·subst z;simp
    ·simp[z]
 exact fun x y=>go x y
theorem ZnC(n:Nat)(x y:Lf):Zat (n+1) (lfD x) (lfD y)=true:=by simp[lfD,Zat]
theorem ZpE(n:Nat)(x y:List Lf):Zat (n+2) (ZlW x) (ZlW y)=true:=by
 show(((x.map lfD).zip (y.map lfD)).all fun p=>Zat (n+1) p.1 p.2)=true;rw[List.all_eq_true];intro p hp;have h1:=(List.of_mem_zip hp).1;have h2:=(List.of_mem_zip hp).2;obtain⟨a,_,e1⟩:=List.mem_map.mp h1;obtain⟨b,_,e2⟩:=List.mem_map.mp h2;rw[<-e1,<-e2];exact ZnC n a b
theorem Zk5(e c:Nat->Bool)(fin:Bool):∀l:List Nat,Zfj e c fin (l.map Nat.succ)=Zfj (fun j=>e (j+1)) (fun j=>c (j+1)) fin l
 |[]=>rfl
 |i::r=>by
  show(if e (i+1)=true then Zfj e c fin (r.map Nat.succ) else c (i+1))=_;rw[Zk5 e c fin r]
  rfl
theorem Zk6{α:Type} [DecidableEq α](lt:α->α->Bool)(d:α):∀a b:List α,Zfj (fun j=>decide (a.getD j d=b.getD j d)) (fun j=>lt (a.getD j d) (b.getD j d)) (decide (a.length<b.length)) (List.range (min a.length b.length))=Zf5 lt a b
 |[],[]=>rfl
 |[],_::_=>by simp[Zfj,Zf5]
 |_::_,[]=>by simp[Zfj,Zf5]
 |x::a,y::b=>by
  rw[List.length_cons,List.length_cons,Nat.succ_min_succ,List.range_succ_eq_map];show(if decide (x=y)=true then Zfj _ _ _ _ else lt x y)=if x=y then Zf5 lt a b else lt x y;rw[Zk5];have e:decide (a.length+1<b.length+1)=decide (a.length<b.length):=by
   by_cases z:a.length<b.length
   ·rw[decide_eq_true z,decide_eq_true (by omega)]
   ·rw[decide_eq_false z,decide_eq_false (by omega)]
  rw[e,<-Zk6 lt d a b]
  by_cases z:x=y
  ·rw[if_pos z,if_pos (decide_eq_true z)];rfl
  ·rw[if_neg z,if_neg (by rw[decide_eq_false z];simp)]
section
variable {X:Cx} {pins:List (Addr×Obj)} {σ:L2.St} {H:Hp} {s:Shared} {A:Around}
theorem Zs9{x:Lf}{v:V}(r:Rep X.K H (lfD x) v):∃p,v=.ref p/\SqT X.K H p [.str x.1,.int x.2]:=by
 cases r with
 |tup h r=>
  cases r with
  |cons a r=>
   cases r with
   |cons b r=>
    cases r;cases a;cases b;exact⟨_,rfl,h⟩
theorem ZfZ(I:L2.Inv X pins σ H s){x:Lf}{p:Addr}(h:SqT X.K H p [.str x.1,.int x.2]):∃t u,s.heap.IsTuple p #[.str x.1 t,.int x.2 u]:=by
 obtain⟨its,r,T,_⟩:=I.tuple h;cases r with
 |cons a r=>
  cases r with
  |cons b r=>
   cases r;obtain⟨t,rfl⟩:=a;obtain⟨u,rfl⟩:=b;exact⟨t,u,T⟩
theorem Zro(I:L2.Inv X pins σ H s){x y:Lf}{a b:Addr}(ha:SqT X.K H a [.str x.1,.int x.2])(hb:SqT X.K H b [.str y.1,.int y.2])(hu:A.units<cLine):RcP X.prog X.w A s .Lt (.ref a) (.ref b) (ZcB x y):=by
 obtain⟨t,u,T1⟩:=ZfZ I ha;obtain⟨t',u',T2⟩:=ZfZ I hb;have go:=Zs8 (P:=X.prog) (w:=X.w) (A:=A) (e:=fun j=>if j=0 then decide (x.1=y.1) else(x.2==y.2)) (c:=fun j=>if j=0 then XD x.1 y.1 else Zcp x.2 y.2) T1 T2 hu (fun j h1 h2=> ?_) (fun j h1 h2 z=> ?_)
 ·have e:Zhz #[Value.str x.1 t,Value.int x.2 u] #[Value.str y.1 t',Value.int y.2 u'] (fun j=>if j=0 then decide (x.1=y.1) else(x.2==y.2)) (fun j=>if j=0 then XD x.1 y.1 else Zcp x.2 y.2) 0=ZcB x y:=by
   show(if decide (x.1=y.1)=true then(if(x.2==y.2)=true then false else Zcp x.2 y.2) else XD x.1 y.1)=if x.1=y.1 then Zcp x.2 y.2 else XD x.1 y.1
   by_cases z:x.1=y.1
   ·rw[if_pos (decide_eq_true z),if_pos z]
    by_cases z2:x.2=y.2
    ·rw[z2,beq_self_eq_true,if_pos rfl,Zd3.irr]
    ·rw[beq_false_of_ne z2,if_neg (by simp)]
   ·rw[if_neg (by rw[decide_eq_false z];simp),if_neg z]
  rw[e] at go
  exact go
 ·match j,h1,h2 with
  |0,_,_=>exact fun E Q q=>wpAny_eqBool_str q
  |1,_,_=>exact fun E Q q=>wpAny_eqBool_int q
 ·match j,h1,h2 with
  |0,_,_=>exact fun E Q q=>PySem.P.lt_str q
  |1,_,_=>exact fun E Q q=>PyProof.Rows.lt_int q
theorem Zeh:∀{l:List Lf} {xs:List V} {us:List Value} (_:ZfX X.K H (l.map lfD) xs) (_:Yl xs us) (j:Nat) (h:j<us.length),∃p,us[j]=.ref p/\SqT X.K H p [.str (l.getD j (Str.empty,0)).1,.int (l.getD j (Str.empty,0)).2]
 |[],_,_,.nil,.nil,j,h=>absurd h (Nat.not_lt_zero _)
 |x::l,_,_,.cons r _,.cons v _,0,_=>by
  obtain⟨p,rfl,e⟩:=Zs9 r;exact⟨p,v,e⟩
 |x::l,_,_,.cons _ t,.cons _ vt,j+1,h=>by
  obtain⟨p,a,b⟩:=Zeh t vt j (by simpa using h);exact⟨p,a,b⟩
theorem Zsa(I:L2.Inv X pins σ H s){x y:List Lf}{a b:Addr}(ha:Rep X.K H (ZlW x) (.ref a))(hb:Rep X.K H (ZlW y) (.ref b))(hu:A.units+5<cLine):RcP X.prog X.w A s .Lt (.ref a) (.ref b) (ZnB x y):=by
 cases ha with
 |lst ha ra=>
  cases hb with
  |lst hb rb=>
   obtain⟨us,r1,p1,_⟩:=I.list ha;obtain⟨vs,r2,p2,_⟩:=I.list hb;have l1:us.length=x.length:=by rw[<-r1.length,<-Paired.length ra,List.length_map]
   have l2:vs.length=y.length:=by rw[<-r2.length,<-Paired.length rb,List.length_map]
   have u1:A.in1.units+1<cLine:=by show A.units+1+1<cLine;omega
   have go:=ZqV (P:=X.prog) (w:=X.w) (A:=A) (e:=fun j=>decide (x.getD j (Str.empty,0)=y.getD j (Str.empty,0))) (c:=fun j=>ZcB (x.getD j (Str.empty,0)) (y.getD j (Str.empty,0))) p1.isList p2.isList (by omega) (fun j h1 h2=> ?_) (fun j h1 h2 z=> ?_)
   ·unfold Zhz at go
    rw[List.drop_zero,List.size_toArray,List.size_toArray,l1,l2,Zk6 ZcB (Str.empty,0) x y] at go
    exact go
   ·obtain⟨p,e1,q1⟩:=Zeh ra r1 j (by simpa using h1);obtain⟨q,e2,q2⟩:=Zeh rb r2 j (by simpa using h2);have rp:Rep X.K H (lfD (x.getD j (Str.empty,0))) (.ref p):=.tup q1 (.cons (.flat rfl) (.cons (.flat rfl) .nil));have rq:Rep X.K H (lfD (y.getD j (Str.empty,0))) (.ref q):=.tup q2 (.cons (.flat rfl) (.cons (.flat rfl) .nil));have:=(ZfY I 1 _ _ _ _ (.ref p) (.ref q) A.in1 rp rq rfl rfl (ZnC 0 _ _) u1).1
    rw[ZpD] at this
    rw[List.getElem_toArray,List.getElem_toArray,e1,e2];exact this
   ·obtain⟨p,e1,q1⟩:=Zeh ra r1 j (by simpa using h1);obtain⟨q,e2,q2⟩:=Zeh rb r2 j (by simpa using h2);rw[List.getElem_toArray,List.getElem_toArray,e1,e2];exact Zro I q1 q2 (by omega)
theorem ZmU{k:Ky}{v:V}(r:Rep X.K H (kyD k) v):∃p q,v=.ref p/\SqT X.K H p [.int k.1,.ref q]/\Rep X.K H (ZlW k.2) (.ref q):=by
 cases r with
 |tup h r=>
  cases r with
  |cons a r=>
   cases r with
   |cons b r=>
    cases r;cases a;have b':=b;cases b with
    |lst h2 r2=>exact⟨_,_,rfl,h,b'⟩
theorem ZpF(I:L2.Inv X pins σ H s){k:Ky}{p q:Addr}(h:SqT X.K H p [.int k.1,.ref q]):∃t o n,s.heap.get? p=some o/\o.cls=.type "tuple"/\o.data=.seq #[.int k.1 t,.ref q] n:=by
 obtain⟨its,r,T,_⟩:=I.tuple h;cases r with
 |cons a r=>
  cases r with
  |cons b r=>
   cases r;obtain⟨t,rfl⟩:=a;cases b;obtain⟨o,e,c,n,d⟩:=T;exact⟨t,o,n,e,c,d⟩
theorem Zsb(I:L2.Inv X pins σ H s){x y:Ky}{a b:V}{u v:Value}(ra:Rep X.K H (kyD x) a)(rb:Rep X.K H (kyD y) b)(ru:Ye a u)(rv:Ye b v)(hu:A.units+5<cLine){C:Bool->Shared->Prop}(h:C (ZpB x y) s):wpAny (model X.prog X.w) A (keyLt' (tuples' true) u v) C (fun _ _=>False) s:=by
 obtain⟨p,q,rfl,hp,hq⟩:=ZmU ra;obtain⟨p',q',rfl,hp',hq'⟩:=ZmU rb;cases ru;cases rv;obtain⟨t,o,n,e1,_,e3⟩:=ZpF I hp;obtain⟨t',o',n',f1,_,f3⟩:=ZpF I hp';have hk:ZpB x y=if x.1=y.1 then ZnB x.2 y.2 else Zcp x.1 y.1:=rfl;refine kat_lt e1 e3 f1 f3 ?_;show KatLex X.prog X.w A true false C [(.int x.1 t,.int y.1 t'),(.ref q,.ref q')] 0 s;refine kat_cons (wpAny_eqBool_int ?_)
 by_cases z:x.1=y.1
 ·rw[if_pos z] at hk
  rw[z,beq_self_eq_true];refine kat_yes (kat_cons ?_);have eq:=(ZfY I 2 _ _ _ _ (.ref q) (.ref q') A hq hq' rfl rfl (ZpE 0 _ _) (by omega)).1;rw[ZqW 0] at eq
  refine eq _ _ ?_
  by_cases z2:x.2=y.2
  ·rw[decide_eq_true z2];refine kat_yes (kat_nil ?_);rw[hk,z2,Zk4.irr] at h
   exact h
  ·rw[decide_eq_false z2];refine kat_no ?_;show wpAny (model X.prog X.w) A (oneLt' false (.ref q) (.ref q')) C (fun _ _=>False) s;refine kat_one _ _ (Zsa I hq hq' hu _ _ ?_);rw[hk] at h
   exact h
 ·rw[if_neg z] at hk
  rw[beq_false_of_ne z];refine kat_no ?_;show wpAny (model X.prog X.w) A (oneLt' true (.int x.1 t) (.int y.1 t')) C (fun _ _=>False) s;refine oneLt_int ?_;rw[hk] at h
  exact h
theorem Zsc(I:L2.Inv X pins σ H s){x y:Lf}{a b:Addr}(ha:SqT X.K H a [.str x.1,.int x.2])(hb:SqT X.K H b [.str y.1,.int y.2]){C:Bool->Shared->Prop}(h:C (ZcB x y) s):wpAny (model X.prog X.w) A (keyLt' (tuples' true) (.ref a) (.ref b)) C (fun _ _=>False) s:=by
 obtain⟨t,u,o,e1,c1,n,e3⟩:=ZfZ I ha;obtain⟨t',u',o',f1,c2,n',f3⟩:=ZfZ I hb;have hk:ZcB x y=if x.1=y.1 then Zcp x.2 y.2 else XD x.1 y.1:=rfl;refine kat_lt e1 e3 f1 f3 ?_;show KatLex X.prog X.w A true false C [(.str x.1 t,.str y.1 t'),(.int x.2 u,.int y.2 u')] 0 s;refine kat_cons (wpAny_eqBool_str ?_)
 by_cases z:x.1=y.1
 ·rw[if_pos z] at hk
  rw[decide_eq_true z];refine kat_yes (kat_cons (wpAny_eqBool_int ?_))
  by_cases z2:x.2=y.2
  ·rw[z2,beq_self_eq_true];refine kat_yes (kat_nil ?_);rw[hk,z2,Zd3.irr] at h
   exact h
  ·rw[beq_false_of_ne z2];refine kat_no ?_;show wpAny (model X.prog X.w) A (oneLt' false (.int x.2 u) (.int y.2 u')) C (fun _ _=>False) s;refine kat_one _ _ (PyProof.Rows.lt_int ?_);rw[hk] at h
   exact h
 ·rw[if_neg z] at hk
  rw[decide_eq_false z];refine kat_no ?_;show wpAny (model X.prog X.w) A (oneLt' true (.str x.1 t) (.str y.1 t')) C (fun _ _=>False) s;refine oneLt_str ?_;rw[hk] at h
  exact h
end
end L3
namespace L3
open PySem PySem.Spec PyProof.Rows L2 PySem.W PySem.Calls
section
variable {prog:Program} {w:World} {A:Around} {E:Value->Shared->Prop} {s:Shared} {ks vs:List Value} {ans:Nat->Nat->Bool}
def ZkO(prog:Program)(w:World)(A:Around)(κ:SortKind)(ks:List Value)(n:Nat)(ans:Nat->Nat->Bool)(s:Shared):Prop:=
 ∀i j,i<n->j<n->∀C:Bool->Shared->Prop,C (ans i j) s->wpAny (model prog w) A (keyLt' κ (ks.getD i Value.none) (ks.getD j Value.none)) C (fun _ _=>False) s
structure Zsd (ks vs:List Value) (ans:Nat->Nat->Bool) (st:SortSt):Prop where
 ex:∃p:Array Nat,Pl vs.length p/\ZaM ans p vs.length/\(arrOf st).map (·.2)=List.toArray (p.toList.map fun i=>vs.getD i Value.none)
 ok:failedOf st=none
theorem Zok{Q:SortSt->Shared->Prop}{κ:SortKind}(o:Ord ans)(hl:ks.length=vs.length)(h2:2<=vs.length)(h64:vs.length<64)(hk:ZkO prog w A κ ks vs.length ans s)(q:∀st,Zsd ks vs ans st->Q st s):wpAny (model prog w) A ((sortRuns').run (SortSt.mk' κ (ks.toArray.zip vs.toArray) #[] 7 none)) (fun r s'=>Q r.2 s') E s:=by
 refine kat_run (G:=fun p s'=>Pl vs.length p/\ZaM ans p vs.length/\s'=s) hl h2 h64 (fun p st s' _ e f g=> ?_) (ZlS (fun s'=>s'=s) (fun i j C s1 hi hj e hC=> ?_) (fun a s' z e=>⟨z.1,z.2,e⟩) _ s s (ZmR o (by omega)) rfl)
 ·obtain⟨a,b,rfl⟩:=g;exact q st ⟨⟨p,a,b,kat_snds hl e⟩,f⟩
 ·subst e;exact hk i j hi hj _ (hC _ rfl)
theorem ZpG(o:Ord ans)(hl:ks.length=vs.length)(h2:vs.length<2)(κ:SortKind):Zsd ks vs ans (SortSt.mk' κ (ks.toArray.zip vs.toArray) #[] 7 none):=by
 refine⟨⟨List.toArray (List.range vs.length),⟨by simp,Array.Perm.refl _⟩,fun i j hij hj=> ?_, ?_⟩,rfl⟩
 ·have:i=j:=by omega
  subst this;exact o.irr _
 ·apply Array.toList_inj.mp
  show((ks.toArray.zip vs.toArray).map (·.2)).toList=_;rw[Array.toList_map,ksk_zip];show List.map (·.2) (ks.toArray.toList.zip vs)=(List.range vs.length).map fun i=>vs.getD i Value.none;have e:List.map (·.2) (ks.toArray.toList.zip vs)=vs:=List.map_snd_zip (by simp[hl]);rw[e]
  apply List.ext_getElem
  ·simp
  ·intro i h1 h3;simp[h1]
end
section
variable {X:Cx} {pins:List (Addr×Obj)} {σ:L2.St} {H:Hp} {s:Shared}
structure ZhA (X:Cx) (a:Addr):Prop where
 new:X.s₀.heap.objs.size<=a
 cells:∀x c,X.env.cells.lookup x=some c->c≠a
 pn:∀p∈X.pn,p.1≠a
theorem ZhV(I:L2.Inv X pins σ H s){a:Addr}(h:s.heap.objs.size<=a):ZhA X a:=by
 refine⟨Nat.le_trans I.sz h,fun x c e z=> ?_,fun p hp z=> ?_⟩
 ·obtain⟨v,o,e1,_⟩:=I.cell x c e;exact absurd (z▸Heap.lt_size e1) (Nat.not_lt.mpr h)
 ·exact absurd (z▸Heap.lt_size (I.pin p (List.mem_append_left _ hp)).1) (Nat.not_lt.mpr h)
theorem ZeU{ps:List (Addr×Obj)}{a:Addr}{o o':Obj}{h':Heap}(I:L2.Inv X ((a,o)::ps) σ H s)(l:ZhA X a)(n:∀p∈ps,p.1≠a)(k:∀b u,b≠a->s.heap.get? b=some u->h'.get? b=some u)(e:h'.get? a=some o')(nc:∀v,o'.data≠.cell v):L2.Inv X ((a,o')::ps) σ H {s with heap:=h'}:=by
 have pa:=I.pin (a,o) (List.mem_append_right _ (.head _));have I1:L2.Inv X ps σ H s:=I.pins_of fun p hp=>I.pin p (List.mem_append_right _ (.tail _ hp));have I2:L2.Inv X ps σ H {s with heap:=h'}:=I1.turned (it:=a) (t':=s.toks) k pa.2.1 pa.2.2.1 (.inr l.new) l.cells fun p hp=>(List.mem_append.mp hp).elim (l.pn p) (n p);refine I2.pins_of fun p hp=> ?_;rcases List.mem_cons.mp hp with rfl|hp
 ·exact⟨e,pa.2.1,pa.2.2.1,pa.2.2.2.1,nc⟩
 ·exact I2.pin p (List.mem_append_right _ hp)
theorem YK{h:Heap}{a:Addr}{f:Array Value->Array Value}:∀b u,b≠a->h.get? b=some u->(h.update a (Obj.mapSeq f)).get? b=some u:=fun b u n e=>(Heap.get?_update_other _ _ (Ne.symm n)).trans e
theorem Jm{c:String}{xs:Array Value}{n:Nat}:∀v,(seqObj c xs n).data≠.cell v:=fun _ z=>nomatch z
variable {k:Nat} {g:Addr} {fd:FuncData} {p:Str} {sp:Sp}
theorem ZkP{K:PySem.W.Frag}:∀{kk:List Ky} {kx:List V} {ks:List Value} (_:Paired (fun y x=>Rep K H (kyD y) x) kk kx) (_:Yl kx ks) (i:Nat),i<ks.length->∃x,Rep K H (kyD (kk.getD i (0,[]))) x/\Ye x (ks.getD i Value.none)
 |_,_,_,.nil,.nil,i,h=>absurd h (Nat.not_lt_zero _)
 |_,_,_,.cons r _,.cons v _,0,_=>⟨_,r,v⟩
 |_,_,_,.cons _ t,.cons _ vt,i+1,h=>by
  obtain⟨x,a,b⟩:=ZkP t vt i (by simpa using h);exact⟨x,a,b⟩
theorem Zk7(I:L2.Inv X pins σ H s):∀{kk:List Ky} {kx:List V} {ks:List Value} (_:Paired (fun y x=>Rep X.K H (kyD y) x) kk kx) (_:Yl kx ks),∃fs,KatTups s.heap ks fs/\fs.length=ks.length/\∀v∈fs,∃n t,v=Value.int n t
 |_,_,_,.nil,.nil=>⟨[],.nil,rfl,fun v hv=>nomatch hv⟩
 |_,_,_,.cons (a:=y) r t,.cons v vt=>by
  obtain⟨fs,a,b,c⟩:=Zk7 I t vt;obtain⟨p,q,rfl,hp,hq⟩:=ZmU r;obtain⟨tk,o,n,e1,e2,e3⟩:=ZpF I hp;cases v;refine⟨.int y.1 tk::fs,.cons e1 e2 e3 rfl a,by rw[List.length_cons,List.length_cons,b],fun w hw=> ?_⟩;rcases List.mem_cons.mp hw with rfl|hw
  ·exact⟨_,_,rfl⟩
  ·exact c w hw
theorem ZkQ:∀{xs:List V} {vs:List Value} (_:Yl xs vs) (i:Nat),i<vs.length->Ye (xs.getD i .non) (vs.getD i Value.none)
 |_,_,.nil,i,h=>absurd h (Nat.not_lt_zero _)
 |_,_,.cons v _,0,_=>v
 |_,_,.cons _ t,i+1,h=>ZkQ t i (by simpa using h)
theorem ZnD{xs:List V}{vs:List Value}(r:Yl xs vs){p:Array Nat}(pl:Pl vs.length p):Yl (p.toList.map fun i=>xs.getD i .non) (p.toList.map fun i=>vs.getD i Value.none):=by
 have mem:∀i∈p.toList,i<vs.length:=fun i hi=>by
  have:=(Array.perm_iff_toList_perm.mp pl.perm).mem_iff (a:=i)
  simpa using this.mp hi
 have go:∀l:List Nat,(∀i∈l,i<vs.length)->Yl (l.map fun i=>xs.getD i .non) (l.map fun i=>vs.getD i Value.none):=by
  intro l
  induction l with
  |nil=>exact fun _=> .nil
  |cons i l ih=>exact fun h=> .cons (ZkQ r i (h i (.head _))) (ih fun j hj=>h j (.tail _ hj))
 exact go _ mem
theorem ZnE{α β:Type}{xs:List α}{ks:List β}{a:α}{b:β}(hl:xs.length=ks.length){p:Array Nat}(pl:Pl xs.length p):(p.toList.map fun i=>(xs.getD i a,ks.getD i b)).Perm (xs.zip ks):=by
 have e:(List.range xs.length).map (fun i=>(xs.getD i a,ks.getD i b))=xs.zip ks:=by
  apply List.ext_getElem
  ·simp[hl]
  ·intro i h1 h2;have h3:i<xs.length:=by simpa using h1
   have h4:i<ks.length:=by omega
   simp[h3,h4]
 rw[<-e];refine List.Perm.map _ ?_
 simpa using Array.perm_iff_toList_perm.mp pl.perm
theorem ZnF{α β:Type}{lt:β->β->Bool}{f:Nat->α}{kk:Nat->β}{n:Nat}{p:Array Nat}(so:ZaM (fun i j=>lt (kk i) (kk j)) p n)(pl:Pl n p):(p.toList.map fun i=>(f i,kk i)).Pairwise (fun a b=>lt b.2 a.2=false):=by
 rw[List.pairwise_map,List.pairwise_iff_getElem];intro i j hi hj hij;have sz:p.toList.length=n:=by rw[Array.length_toList,pl.size]
 have h:=so i j (Nat.le_of_lt hij) (by omega);have e:∀m (hm:m<p.toList.length),at_ p m=p.toList[m]:=fun m hm=>by
  have hm':m<p.size:=by simpa using hm
  simp[at_,Array.getD,hm']
 rw[e i hi,e j hj] at h
 exact h
end
end L3
namespace L3
open PySem PySem.Spec PyProof.Rows L2 PySem.W PySem.Calls
section
variable {prog:Program} {w:World} {A:Around} {E:Value->Shared->Prop} {s:Shared} {vs:List Value} {ans:Nat->Nat->Bool}
abbrev Zb0(h:Heap)(D:Addr)(vs:List Value):Heap:=((h.update D (Obj.mapSeq fun _=>(#[]:Array Value))).push (seqObj "tuple" vs.toArray 0)).push (seqObj "list" #[] 0)
theorem ZiA{D:Addr}{n:Nat}{P:PySem.Fin->Shared->Prop}(ho:s.heap.get? D=some (seqObj "list" vs.toArray n))(h64:vs.length<64)(o:Ord ans)
  (hk:2<=vs.length->wpAny (model prog w) A (keyKind' vs.toArray) (fun κ s'=>s'={s with heap:=Zb0 s.heap D vs}/\ZkO prog w A κ vs vs.length ans {s with heap:=Zb0 s.heap D vs}) (fun _ _=>False) {s with heap:=Zb0 s.heap D vs})
  (q:∀p:Array Nat,Pl vs.length p->ZaM ans p vs.length->P (.done (.ret .none)) {s with heap:=sortedHeap s.heap D vs (List.toArray (p.toList.map fun i=>vs.getD i Value.none))}):wpAny (model prog w) A (Builtin.«list.sort» ⟨[.ref D],[]⟩) P E s:=by
 have hz:vs.length<=sizeLine:=by rw[sizeLine_eq];omega
 have za:vs.toArray.size<=sizeLine:=by rw[List.size_toArray];exact hz
 obtain⟨e1,o1⟩:∃e1,(s.heap.update D (Obj.mapSeq fun _=>(#[]:Array Value))).get? D=some (seqObj "list" #[] e1):=⟨_,get?_update_seq ho fun _=> #[]⟩
 have o2:(Zb0 s.heap D vs).get? D=some (seqObj "list" #[] e1):=Heap.get?_push_of_some _ (Heap.get?_push_of_some _ o1);rw[list_sort_plain];refine wpAny_bind (listItems_at ho rfl (wpAny_bind (listUpdate_at ho rfl (wpAny_bind (seqEpoch_at o1 rfl (wpAny_bind (wpAny_newTuple (wpAny_bind (wpAny_newList (wpAny_holding ?_) (Nat.zero_le _))) hz)))) za (Nat.zero_le _))));have zp:∀p:Array Nat,Pl vs.length p->(List.toArray (p.toList.map fun i=>vs.getD i Value.none)).size<=sizeLine+1:=fun p pl=>by rw[List.size_toArray,List.length_map,Array.length_toList,pl.size,sizeLine_eq];omega
 dsimp only
 by_cases h2:vs.length<2
 ·have h3:vs.toArray.size<2:=by rw[List.size_toArray];exact h2
  rw[if_pos h3,if_pos h3];refine wpAny_bind (wpAny_pure ?_);refine wpAny_bind (wpAny_pure ?_);obtain⟨⟨p,pl,so,hout⟩,_⟩:=ZpG (ks:=vs) o rfl h2 general'
  try dsimp only
  rw[hout];refine wpAny_bind (seqEpoch_at o2 rfl (wpAny_bind (listUpdate_at o2 rfl ?_ (Nat.zero_le _) (zp p pl))));simp only [reduceIte,bne_self_eq_false,Bool.false_eq_true];exact wpAny_pure (q p pl so)
 ·have h3:¬vs.toArray.size<2:=by rw[List.size_toArray];exact h2
  rw[if_neg h3,if_neg h3];refine wpAny_bind (wpAny_mono (hk (by omega)) (fun κ s0 z=> ?_) fun _ _ x=>x.elim);obtain⟨rfl,ak⟩:=z;refine wpAny_bind (wpAny_mono (Zok (Q:=fun st s'=>Zsd vs vs ans st/\s'={s with heap:=Zb0 s.heap D vs}) o rfl (by omega) h64 ak fun st dn=>⟨dn,rfl⟩) (fun r s' z=> ?_) fun _ _ x=>x);obtain⟨⟨⟩,st⟩:=r;obtain⟨⟨⟨p,pl,so,hout⟩,hf⟩,rfl⟩:=z
  try dsimp only
  rw[hout,hf];refine wpAny_bind (seqEpoch_at o2 rfl (wpAny_bind (listUpdate_at o2 rfl ?_ (Nat.zero_le _) (zp p pl))));simp only [reduceIte,bne_self_eq_false,Bool.false_eq_true];exact wpAny_pure (q p pl so)
end
section
variable {X:Cx} {pins:List (Addr×Obj)} {σ:L2.St} {H:Hp} {s:Shared}
theorem ZlX{h:Heap}{D:Addr}{vs:List Value}:∀b u,b≠D->h.get? b=some u->(Zb0 h D vs).get? b=some u:=fun b u n e=>Heap.get?_push_of_some _ (Heap.get?_push_of_some _ (YK b u n e))
theorem ZkR(hr:X.A.units+30<cLine):Zb6 X (.builtin "sorted") (fun xs H Q=>∃(l:Addr) (us:List V) (kk:List Ky),xs=[.ref l]/\SqL X.K H l us/\us.length<64/\Paired (fun y x=>Rep X.K H (kyD y) x) kk us/\
  ∀zs:List (V×Ky),zs.Perm (us.zip kk)->zs.Pairwise (fun a b=>ZpB b.2 a.2=false)->∀D,H D=none->Q (.ref D) (upd H D (.lst (zs.map (·.1))))):=by
 intro pins s σ H xs vals Q I r h;obtain⟨l,us,kk,rfl,hq,h64,rp,q⟩:=h;obtain⟨u,rfl,rx⟩:=Zcn r;cases rx;obtain⟨vs,rx,pl,_⟩:=I.list hq;have hn:vs.length<64:=by rw[<-rx.length];exact h64
 have hz:vs.length<=sizeLine:=by rw[sizeLine_eq];omega
 have lkk:kk.length=us.length:=Paired.length rp;refine call_function_entry kind_sorted plain_sorted entry_sorted (args_sorted1 (.ref l)) ?_;unfold Builtin.«sorted»;refine wpAny_bind (m:=checkCount "sorted" 1 1 _) (wpAny_pure (wpAny_bind (collect_list pl.isList (wpAny_bind (wpAny_newList ?_ hz)) hz)));have sz1:((s.heap.push (seqObj "list" #[] 0)).update s.heap.objs.size (Obj.mapSeq (· ++vs.toArray))).objs.size=s.heap.objs.size+1:=by rw[Heap.size_update,size_push']
 generalize hh1:(s.heap.push (seqObj "list" #[] 0)).update s.heap.objs.size (Obj.mapSeq (· ++vs.toArray))=h1 at sz1
 have k1:∀b u,s.heap.get? b=some u->h1.get? b=some u:=fun b u e=>by
  have hlt:=Heap.lt_size e;rw[<-hh1];exact YK b u (Nat.ne_of_lt hlt) (Heap.get?_push_of_some _ e)
 generalize hD:h1.objs.size=D at sz1
 have oD:(h1.push (seqObj "list" vs.toArray 0)).get? D=some (seqObj "list" vs.toArray 0):=by rw[<-hD];exact Heap.get?_push_size _ rfl
 have k2:∀b u,s.heap.get? b=some u->(Zb0 (h1.push (seqObj "list" vs.toArray 0)) D vs).get? b=some u:=fun b u e=>
  ZlX b u (Nat.ne_of_lt (Nat.lt_of_lt_of_le (Heap.lt_size e) (by omega))) (Heap.get?_push_of_some _ (k1 b u e))
 have I2:L2.Inv X pins σ H {s with heap:=Zb0 (h1.push (seqObj "list" vs.toArray 0)) D vs}:=I.kept (t':=s.toks) k2;refine wpAny_bind (wpAny_holding (wpAny_call_entry slot_list_sort ⟨_,oD,rfl⟩ entry_list_sort ?body (args_list_sort _)));refine ZiA (ans:=fun i j=>ZpB (kk.getD i (0,[])) (kk.getD j (0,[]))) oD hn (ZpC.ord _) (fun h2=> ?_) fun p pl2 so=>⟨_,rfl,wpAny_pure ⟨_,rfl, ?_⟩⟩
 ·obtain⟨fs,t1,t2,t3⟩:=Zk7 I2 rp rx;refine kat_kind (T:=.type "int") t1 (by omega) (fun v hv=> ?_) rfl ⟨rfl,fun i j hi hj C hC=> ?_⟩
  ·obtain⟨n,t,rfl⟩:=t3 v hv;exact Looks.of_pure rfl
  ·obtain⟨x,r1,r2⟩:=ZkP rp rx i (by omega);obtain⟨y,r3,r4⟩:=ZkP rp rx j (by omega);exact Zsb I2 r1 r3 r2 r4 (show X.A.units+1+1+5<cLine by omega) hC
 ·have lout:(p.toList.map fun i=>vs.getD i Value.none).length=vs.length:=by rw[List.length_map,Array.length_toList,pl2.size]
  have rv:=ZnD rx pl2;obtain⟨e,he⟩:=sortedHeap_at (h:=h1.push (seqObj "list" vs.toArray 0)) (out:=List.toArray (p.toList.map fun i=>vs.getD i Value.none)) oD;have I3:L2.Inv X pins σ H {s with heap:=sortedHeap (h1.push (seqObj "list" vs.toArray 0)) D vs (List.toArray (p.toList.map fun i=>vs.getD i Value.none))}:=I.kept (t':=s.toks) fun b u e=>YK b u (Nat.ne_of_lt (Nat.lt_of_lt_of_le (Heap.lt_size e) (by omega))) (k2 b u e)
  have fD:H D=none:=I.hok.fresh (by omega);have J:=Zfh (n:=D) (q:=.lst (p.toList.map fun i=>us.getD i .non)) I I3 fD (by
   cases z:s.heap.get? D with
   |none=>rfl
   |some o=>exact absurd (Heap.lt_size z) (Nat.not_lt.mpr (by omega))) ⟨by rw[rv.length,lout];exact hz,_,_,rv,he⟩
  refine⟨.ref D,_,J,rfl, ?_⟩;have fin:=q (p.toList.map fun i=>(us.getD i .non,kk.getD i (0,[]))) (ZnE lkk.symm (by rw[rx.length];exact pl2)) (ZnF so pl2) D fD
  rw[List.map_map] at fin
  exact fin
end
end L3
namespace L3
open PySem PySem.Spec PyProof.Rows L2 PySem.W PySem.Calls
section
variable {X:Cx}
end
end L3
namespace L3
open PySem PySem.Spec PyProof.Rows L2
section
variable {X:Cx}
def Zse(H₀:Hp)(t:TE):TE:=fun σ H Q=>t σ H fun v H1=>∃a H2,ZrX H₀ a H1 H2/\Q v H2
theorem Zg0{e:PySem.Expr}{t:TE}(h:PE X e t):PE X e (Zse X.H₀ t):=fun pins s σ H Q I q=>
 thn (h pins s σ H _ I q) fun _ _ z=>by
  obtain⟨v,H1,I1,r1,a,H2,⟨hf,o,u,e1,rfl⟩,q1⟩:=z;exact⟨v,_,Zpn I1 e1 hf,r1,q1⟩
end
end L3
namespace M4
open PySem L3 M3
section
variable {α:Type} {lt:α->α->Bool}
def Asc(lt:α->α->Bool)(l:List α):Prop:=l.Pairwise fun x y=>lt y x=false
theorem ZkS(o:STO lt):∀{a b:List α},a.Perm b->Asc lt a->Asc lt b->a=b
 |[],b,p,_,_=>(List.nil_perm.mp p).symm
 |x::a,[],p,_,_=>absurd (List.perm_nil.mp p) (by simp)
 |x::a,y::b,p,ha,hb=>by
  have ha:=List.pairwise_cons.mp ha;have hb:=List.pairwise_cons.mp hb;have e:x=y:=by
   have m1:x∈y::b:=p.mem_iff.mp (List.mem_cons_self ..);have m2:y∈x::a:=p.mem_iff.mpr (List.mem_cons_self ..);rcases List.mem_cons.mp m1 with z|z
   ·exact z
   ·rcases List.mem_cons.mp m2 with w|w
    ·exact w.symm
    ·rcases o.tri x y with q|q|q
     ·exact absurd q (by rw[hb.1 x z];simp)
     ·exact q
     ·exact absurd q (by rw[ha.1 y w];simp)
  subst e;rw[ZkS o ((List.perm_cons x).mp p) ha.2 hb.2]
end
end M4
namespace L3
open PySem PySem.Spec PyProof.Rows L2 PySem.W PySem.Calls
section
variable {X:Cx} {pins:List (Addr×Obj)} {σ:L2.St} {H:Hp} {s:Shared} {A:Around}
theorem ZpH{ps:List (Addr×Obj)}{a:Addr}{o o':Obj}{h':Heap}{t':Nat}(I:L2.Inv X ((a,o)::ps) σ H s)(l:ZhA X a)(n:∀p∈ps,p.1≠a)(k:∀b u,b≠a->s.heap.get? b=some u->h'.get? b=some u)(e:h'.get? a=some o')(nc:∀v,o'.data≠.cell v):L2.Inv X ((a,o')::ps) σ H {s with heap:=h',toks:=t'}:=by
 have pa:=I.pin (a,o) (List.mem_append_right _ (.head _));have I1:L2.Inv X ps σ H s:=I.pins_of fun p hp=>I.pin p (List.mem_append_right _ (.tail _ hp));have I2:L2.Inv X ps σ H {s with heap:=h',toks:=t'}:=I1.turned (it:=a) (t':=t') k pa.2.1 pa.2.2.1 (.inr l.new) l.cells fun p hp=>(List.mem_append.mp hp).elim (l.pn p) (n p);refine I2.pins_of fun p hp=> ?_;rcases List.mem_cons.mp hp with rfl|hp
 ·exact⟨e,pa.2.1,pa.2.2.1,pa.2.2.2.1,nc⟩
 ·exact I2.pin p (List.mem_append_right _ hp)
theorem Zb8{ps:List (Addr×Obj)}{p q:Addr×Obj}(I:L2.Inv X (p::q::ps) σ H s):L2.Inv X (q::p::ps) σ H s:=
 I.pins_of fun r hr=>I.pin r (List.mem_append_right _ (by
  rcases List.mem_cons.mp hr with rfl|hr
  ·exact .tail _ (.head _)
  ·rcases List.mem_cons.mp hr with rfl|hr
   ·exact .head _
   ·exact .tail _ (.tail _ hr)))
variable {k:Nat} {g:Addr} {fd:FuncData} {p:Str} {sp:Sp}
abbrev Zt0(X:Cx)(pins:List (Addr×Obj))(σ:L2.St)(R:VK)(E:Value->Shared->Prop):Result->Shared->Prop:=fun r s'=>match r with| .ok (.ret v)=>EP X pins σ R v s'| .ok _=>False| .error e=>E e s'
section
variable {prog:Program} {w:World} {B:Around} {R:Result->Shared->Prop} {it S:Addr} {key:Value} {c:Nat} {s:Shared}
theorem ZiB{P:PySem.Fin->Shared->Prop}(hP:∀f s',P f s'->match f with| .done x=>R (.ok x) s'| .again c'=>c'.quiet=true/\codeAny (model prog w) B c' R s')
  (h:wpAny (model prog w) B.in1 (Builtin.«min.loop» ⟨[.ref it,key,.ref S],[]⟩) P (fun e s'=>R (.error e) s') s):codeAny (model prog w) B (.builtin "min.loop" ⟨[.ref it,key,.ref S],[]⟩) R s:=
 codeAny_builtin F.entry_min_loop (by
  have e:=Around.under_plainId (A:=B) F.plain_min_loop ⟨[Value.ref it,key,.ref S],[]⟩;rw[e];exact wpAny_mono h (fun f s' z=>hP f s' z) fun _ _ z=>z)
theorem ZpI:toString "min"++toString ".loop"="min.loop":=rfl
theorem ZqX{Kp:Heap->Prop}{ub uk:Value}(hS:s.heap.get? S=some (seqObj "list" #[ub,uk] c))(hn:∀(Q:Option Value->Shared->Prop) (E:Value->Shared->Prop),(∀h' tk,Kp h'->Q none {s with heap:=h',toks:=tk})->wpAny (model prog w) B.in1 (pyNext (.ref it)) Q E s)
  (kp:∀h',Kp h'->h'.get? S=some (seqObj "list" #[ub,uk] c))(q:∀h' tk,Kp h'->R (.ok (.ret ub)) {s with heap:=h'.update S (Obj.mapSeq fun _=> #[]),toks:=tk}):codeAny (model prog w) B (.builtin "min.loop" ⟨[.ref it,key,.ref S],[]⟩) R s:=by
 refine ZiB (P:=fun f s'=>match f with| .done x=>R (.ok x) s'| .again _=>False) (fun f s' z=>by cases f with|done x=>exact z|again _=>exact z.elim) ?_;show wpAny _ _ (seqItems? (.ref S)>>=_) _ _ s;refine wpAny_bind (wpAny_seqItems hS rfl (show wpAny _ _ (tryCatch (pyNext (.ref it)) _>>=_) _ _ s from ?_));refine wpAny_bind (wpAny_tryCatch (hn _ _ fun h' tk k=> ?_));show wpAny _ _ (updateSeq S (fun _=> #[])>>=_) _ _ _
 exact wpAny_bind (wpAny_updateSeq (kp h' k) rfl (wpAny_bind (wpAny_letGo (wpAny_pure (q h' tk k)))))
end
theorem ZeV{l it:Addr}{oI:Obj}{ps:List (Addr×Obj)}{xs:List V}{j:Nat}{x:V}(hh:X.A.handled=none)(nl:l≠it)(lI:ZhA X it)(n:∀p∈ps,p.1≠it)(hq:SqL X.K H l xs)(hx:xs[j]? =some x)(I:L2.Inv X ((it,oI)::ps) σ H s)(hit:s.heap.IsListIter it l j)(Q:Option Value->Shared->Prop)(E:Value->Shared->Prop)
  (q:∀v h' tk,(Ye x v/\∀tk',∃o,L2.Inv X ((it,o)::ps) σ H {s with heap:=h',toks:=tk'}/\∀h2:Heap,h2.get? it=some o->h2.IsListIter it l (j+1))->Q (some v) {s with heap:=h',toks:=tk}):wpAny (model X.prog X.w) X.A.in1 (pyNext (.ref it)) Q E s:=by
 obtain⟨vs,rx,pl,_⟩:=I.list hq;have lt:j<vs.length:=by rw[<-rx.length];exact(List.getElem?_eq_some_iff.mp hx).1
 refine(Walks.list (prog:=X.prog) (w:=X.w) (A:=X.A.in1) hh it l nl vs.toArray).item j s Q E (by rw[List.size_toArray];exact lt) ⟨hit,pl.isList⟩ fun v h' tk pv st kp=>q v h' tk ⟨?_,fun tk'=> ?_⟩
 ·have e:vs[j]? =some v:=by simpa using pv
  have r:=ZkQ rx j lt;rw[List.getD_eq_getElem?_getD,List.getD_eq_getElem?_getD,hx,e] at r
  exact r
 ·obtain⟨⟨o,e1,e2,e3⟩,_⟩:=st;exact⟨o,ZpH I lI n (fun b u nb e=>kp b u (by simpa using nb) e) e1 (fun v z=>by rw[e3] at z;cases z),fun h2 e=>⟨o,e,e2,e3⟩⟩
end
end L3
namespace L3
open PySem PySem.Spec PyProof.Rows L2
section
variable {P:Program} {w:World} (l:Addr) (xs:Array Value) (n:Nat) (d1:Option Addr) (s1:Array (Option Value)) (y:Value) (e:Nat->Bool)
theorem Zsf(k:Nat):∀i:Nat,xs.size-i=k->MeetsIn P w (Builtin.«list.__contains__.loop» ⟨[.ref l,y,rawInt i],[]⟩)
  (fun A R s=>s.heap.get? l=some (Zhx d1 xs n s1)/\(∀j (h1:j<xs.size),EqP P w A.in1 s xs[j] y (e j))/\R (.ok (.ret (.bool (((List.range xs.size).drop i).any e)))) s):=by
 induction k with
 |zero=>
  intro i hk A R s h;obtain⟨hq,gs,dr,tk,oss⟩:=s;obtain⟨u1,ue,q⟩:=h;have v1:xs[((i:Nat):Int).toNat]? =none:=by simp;omega
  have v3:(List.range xs.size).drop i=[]:=by simp;omega
  rw[v3] at q
  wp_walk using AutoSeq1.wpAny_loadPart' u1
  rw[v1]
  wp_walk
  exact q
 |succ k ih=>
  intro i hk A R s h;obtain⟨hq,gs,dr,tk,oss⟩:=s;obtain⟨u1,ue,q⟩:=h;have t1:i<xs.size:=by omega
  have v1:xs[((i:Nat):Int).toNat]? =some xs[i]:=by simp[t1]
  have v3:(List.range xs.size).drop i=i::(List.range xs.size).drop (i+1):=by simp[List.drop_eq_getElem_cons,t1]
  have v4:((i:Int)+1)=((i+1:Nat):Int):=by push_cast;rfl
  rw[v3,List.any_cons] at q
  wp_walk using AutoSeq1.wpAny_loadPart' u1
  rw[v1];refine wpAny_bind (ue i t1 _ _ ?_);cases ei:e i with
  |true=>
   rw[ei,Bool.true_or] at q
   wp_walk
   exact q
  |false=>
   rw[ei,Bool.false_or] at q
   wp_walk
   rw[v4];refine⟨plainId_quiet MeetsSeq.plain_contains_loop _,codeAny_builtin MeetsSeq.entry_contains_loop ?_⟩;rw[Around.under_plainId MeetsSeq.plain_contains_loop _];exact ih (i+1) (by omega) A R _ ⟨u1,ue,q⟩
theorem Zsg:MeetsIn P w (Builtin.«list.__contains__» ⟨[.ref l,y],[]⟩)
  (fun A R s=>s.heap.get? l=some (Zhx d1 xs n s1)/\(∀j (h1:j<xs.size),EqP P w A.in1 s xs[j] y (e j))/\R (.ok (.ret (.bool ((List.range xs.size).any e)))) s):=by
 intro A R s h;obtain⟨hq,gs,dr,tk,oss⟩:=s;obtain⟨u1,ue,q⟩:=h
 wp_walk using AutoSeq1.wpAny_loadPart' u1
 refine⟨plainId_quiet MeetsSeq.plain_contains_loop _,codeAny_builtin MeetsSeq.entry_contains_loop ?_⟩;rw[Around.under_plainId MeetsSeq.plain_contains_loop _];exact Zsf l xs n d1 s1 y e _ 0 rfl A R _ ⟨u1,ue,by simpa using q⟩
end
section
variable {X:Cx} {pins:List (Addr×Obj)} {σ:L2.St} {H:Hp} {s:Shared} {A:Around} {E:Value->Shared->Prop}
theorem ZpJ{l:Addr}{xs:Array Value}{y:Value}{e:Nat->Bool}{Q:Value->Shared->Prop}(hl:s.heap.IsList l xs)(he:∀j (h1:j<xs.size),EqP X.prog X.w A.in1 s xs[j] y (e j))(q:∀b,b=(List.range xs.size).any e->Q (.bool b) s):
  wpAny (model X.prog X.w) A (call (.builtin "list.__contains__") [.ref l,y]) (fun v s'=>∃b,v=.bool b/\Q (.bool b) s') E s:=by
 obtain⟨⟨c1,d1,t1,s1⟩,o1,k1,n,e1⟩:=id hl;simp only at k1 e1
 subst k1 e1;exact call_meetsIn F.slot_list_contains hl.typeIs F.entry_list_contains (F.args_list_contains_2 _ _) (Zsg l xs n d1 s1 y e) ⟨o1,he,_,rfl,q _ rfl⟩
theorem Zol{α:Type}(f:α->Bool)(d:α):∀l:List α,((List.range l.length).any fun j=>f (l.getD j d))=l.any f:=by
 intro l;have e:l=(List.range l.length).map fun j=>l.getD j d:=by
  apply List.ext_getElem
  ·simp
  ·intro i h1 h2;simp[h1]
 conv=>rhs;rw[e]
 rw[List.any_map]
 rfl
def ZtG(K:PySem.W.Frag)(neg:Bool):R2:=fun x y H Q=>∃p n d xs ds,y=.ref p/\n<=20/\SqL K H p xs/\Rep K H d x/\ZfX K H ds xs/\(∀e∈ds,Zat n e d=true)/\Q (.bl (if neg then !(ds.any fun e=>Xp n e d) else ds.any fun e=>Xp n e d)) H
theorem ZqY(I:L2.Inv X pins σ H s){p:Addr}{n:Nat}{d:Dt}{x:V}{v:Value}{xs:List V}{ds:List Dt}(hn:n<=20)(hu:X.A.units+30<cLine)(rx:Ye x v)(r1:Rep X.K H d x)(rs:ZfX X.K H ds xs)(lk:∀e∈ds,Zat n e d=true){us:List Value}(ru:Yl xs us):
  ∀j (h1:j<us.toArray.size),EqP X.prog X.w X.A.in1 s us.toArray[j] v (Xp n (ds.getD j (.v .non)) d):=fun j h1=>by
 have h2:j<us.length:=by simpa using h1
 obtain⟨y,ry,rv⟩:=ZeT rs ru j h2;have hj:j<ds.length:=by rw[Paired.length rs,ru.length];exact h2
 have m:ds.getD j (.v .non)∈ds:=by rw[List.getD_eq_getElem?_getD,List.getElem?_eq_getElem hj];exact List.getElem_mem hj
 rw[List.getElem_toArray];exact(ZfY I n _ d y x _ v X.A.in1 ry r1 rv rx (lk _ m) (by show X.A.units+1+n<cLine;omega)).1
theorem Zom(hu:X.A.units+30<cLine):OpR X (compareOp .NotIn) (ZtG X.K true):=by
 intro pins s σ H x y v u Q I rx ry h;obtain⟨p,n,d,xs,ds,rfl,hn,hq,r1,rs,lk,q⟩:=h;cases ry;obtain⟨us,ru,pl,_⟩:=I.list hq;show wpAny _ X.A (do return Value.bool (!(<-contains (.ref p) v))) _ _ s;refine wpAny_bind (wpAny_contains_slot pl.isList.typeIs F.slot_list_contains (wpAny_mono (ZpJ (X:=X) (Q:=fun v s'=>∃b,v=.bool b/\EP X pins σ Q (.bool (!b)) s') pl.isList (ZqY (p:=p) I hn hu rx r1 rs lk ru) fun b hb=>⟨b,rfl,.bl (!b),H,I,rfl, ?_⟩) (fun v s' hv=> ?_) fun _ _ e=>e))
 ·have le:us.toArray.size=ds.length:=by rw[List.size_toArray,<-ru.length,Paired.length rs]
  rw[hb,le,Zol (fun e=>Xp n e d)];exact q
 ·obtain⟨b,rfl,b',e,told⟩:=hv;cases e;exact wpAny_truthy_bool (wpAny_pure told)
end
end L3
namespace L3
open PySem PySem.Spec PyProof.Rows L2 PySem.W PySem.Calls
section
variable {X:Cx}
end
end L3
namespace L3
open PySem PySem.Spec PyProof.Rows L2 PySem.W PySem.Calls
section
variable {X:Cx} {pins:List (Addr×Obj)} {σ:L2.St} {H:Hp} {s:Shared} {a:Addr} {kvs:List (Key×V)} {k:Key} {u:Value} {A:Around} {E:Value->Shared->Prop}
theorem ZpK{v:V}{r:Value}{Q:Value->Shared->Prop}(I:L2.Inv X pins σ H s)(e:H a=some (.dK kvs))(hl:kvs.length<sizeLine)(ry:Ye (kV k) u)(rv:Ye v r)
  (h1:∀w s' x,YM kvs k=some x->L2.Inv X pins σ H s'->Ye x w->Q w s')(h2:∀s',YM kvs k=none->L2.Inv X pins σ (upd H a (.dK (Jw kvs k v))) s'->Q r s'):
  wpAny (model X.prog X.w) A (call (.builtin "dict.setdefault") [.ref a,u,r]) Q E s:=by
 obtain⟨z,hd,vs,rel,dd⟩:=Zpc I.hok e;have hz:vs.length<=sizeLine:=by rw[<-rel.length];exact z
 have hv:=rel.val k;refine call_meetsIn PySem.F.slot_dict_setdefault dd.typeIs PySem.F.entry_dict_setdefault (PySem.F.args_dict_setdefault_3 _ _ _) (kt_meets_setdefault (Xd X.prog X.w) a (Zik ry) hd r) ⟨vs,dd,hz,fun w hw=> ?_,fun hn h' dd' hs=> ?_⟩
 ·rw[hw] at hv
  cases ex:YM kvs k with
  |none=>rw[ex] at hv;exact hv.elim
  |some x=>
   rw[ex] at hv
   exact h1 w _ x ex (I.tok _) hv
 ·have ex:YM kvs k=none:=by
   rw[hn] at hv
   cases ex:YM kvs k with
   |none=>rfl
   |some x=>rw[ex] at hv;exact hv.elim
  have he:∃q,h'.get? a=some q:=let ⟨q,_,_,hq,_⟩:=dd';⟨q,hq⟩;have l2:(Jw kvs k v).length<=sizeLine:=by have:=Zb7 kvs k v;omega
  exact h2 _ ex (ZhT I (by rw[e];exact True.intro) hs he (ZkG l2 hd (rel.put k rv) dd'))
end
section
variable {X:Cx} {o e f:PySem.Expr} {apos cpos:Pos} {td ty tx:TE}
def ZqZ(td ty tx:TE):TE:=fun σ H Q=>td σ H fun x H1=>∃a,x=.ref a/\IsD H1 a/\ty σ H1 fun y H2=>tx σ H2 fun z H3=>∃kvs k,H3 a=some (.dK kvs)/\kvs.length<sizeLine/\y=kV k/\(∀x,YM kvs k=some x->Q x H3)/\(YM kvs k=none->Q z (upd H3 a (.dK (Jw kvs k z))))
theorem Zon(ho:PE X o td)(he:PE X e ty)(hf:PE X f tx)(m:M2 X o "setdefault" apos e f cpos):PE X (.Call (.Attribute o "setdefault" apos) [e,f] [] cpos) (ZqZ td ty tx):=by
 intro pins s σ H Q I h;refine wpAny_Call_method m.base m.few m.line PySem.F.plainAttrs_dict PySem.F.slot_dict_setdefault PySem.F.type_dict_setdefault (thn (ho pins s σ H _ I h) fun u s1 ⟨x,H1,I1,rx,a,ex,d,q1⟩=> ?_);subst ex;obtain rfl:u=Value.ref a:=rx;obtain⟨t1,t2,_⟩:=Zpe I1 d;refine⟨t1,t2, ?_⟩;rw[m.trees];refine Calls.callWith_builtin rfl (Calls.evalArgs_plain (Calls.spliced_cons (thn (he pins s1 σ H1 _ I1 q1) fun iv s2 ⟨y,H2,I2,ry,q2⟩=>
  Calls.spliced_cons (thn (hf pins s2 σ H2 _ I2 q2) fun fv s3 ⟨z,H3,I3,rz,kvs,k,e3,l3,ey,qa,qb⟩=>Calls.spliced_nil ?_))))
 subst ey;exact ZpK I3 e3 l3 ry rz (fun w s' x ex I4 rw'=>⟨x,H3,I4,rw',qa x ex⟩) fun s' ex I4=>⟨z,_,I4,rz,qb ex⟩
end
end L3
namespace L3
open PySem PySem.Spec PyProof.Rows L2
section
variable {X:Cx} {K:PySem.W.Frag}
end
end L3
namespace L3
open PySem PySem.Spec PyProof.Rows L2
section
variable {prog:Program} {w:World} {A:Around} {E:Value->Shared->Prop} {s:Shared}
section
variable {prog:Program} {w:World} {A:Around} {E:Value->Shared->Prop} {s:Shared}
end
end
section
variable {X:Cx} {pins:List (Addr×Obj)} {σ:L2.St} {H:Hp} {s:Shared}
end
end L3
namespace L3
open PySem PySem.Spec PyProof.Rows L2
def Itv(K:PySem.W.Frag)(a:Addr)(ys:List V):It:=
 ⟨fun i H=>SqL K H a ys/\i<ys.length,fun i H x H'=>H'=H/\ys[ys.length-1-i]? =some x,fun i H=>SqL K H a ys/\ys.length=i⟩
theorem ZpL{P:Program}{w:World}{K:PySem.W.Frag}{tg:PySem.Expr}(a it:Addr)(ys:List V):
  Zo6 P w K tg (Itv K a ys) [it] it (fun i h=>h.IsRevIter it a ((ys.length:Int)-1-(i:Nat))) where
 mem:=by simp
 obj:=fun i h st b hb=>by
  have e:b=it:=by simpa using hb
  subst e;obtain⟨o,e,c,d⟩:=st;exact⟨o,e,fun v z=>by rw[d] at z;cases z⟩
 keep:=fun i h h' st k=>st.at fun o e=>k it (by simp) o e
 item:=by
  intro X hP hw hK hc i pins s σ H E I hf st hg;subst hP hw hK;obtain⟨hq,lt⟩:=hg;obtain⟨its,rv,p,hz⟩:=I.list hq;have hl:=rv.length;obtain⟨x,hx⟩:∃x,ys[ys.length-1-i]? =some x:=⟨_,List.getElem?_eq_getElem (by omega)⟩
  obtain⟨u,hu,ru⟩:=rv.get hx;obtain⟨f0,f1,f2,f3,f4,f5⟩:=hf it (by simp);have e1:(ys.length:Int)-1-(i:Nat)=((ys.length-1-i:Nat):Int):=by omega
  have st:s.heap.IsRevIter it a ((ys.length:Int)-1-(i:Nat)):=st;rw[e1] at st
  refine wpAny_pyNext_rev_item st p.isList (x:=u) (by simpa using hu) fun h' st' sb=> ?_;have I1:L2.Inv X pins σ H {s with heap:=h'}:=I.turned (t':=s.toks) (fun b o hb z=>(sb.2 b hb).trans z) f0 f1 f3 f4 f5;have e2:(ys.length:Int)-1-((i+1:Nat):Int)=((ys.length-1-i:Nat):Int)-1:=by omega
  obtain⟨o,z1,z2,z3⟩:=id st';exact⟨u,rfl,Zns (s:={s with heap:=h'}) z1 z2 z3 (by decide) ⟨x,H,I1,ru,⟨rfl,hx⟩,by rw[e2];exact st',fun b hb=>(hf b hb).1⟩⟩
 done:=by
  intro X hP hw hK hc i pins s σ H E I hf st hg;subst hP hw hK;obtain⟨hq,le⟩:=hg;obtain⟨f0,f1,f2,f3,f4,f5⟩:=hf it (by simp);have st:s.heap.IsRevIter it a ((ys.length:Int)-1-(i:Nat)):=st;rw[show(ys.length:Int)-1-(i:Nat)= -1 by omega] at st
  exact wpAny_pyNext_rev_end (I.ok.hd hc) st fun h' eb=>⟨rfl,I.turned (t':=s.toks) (fun b o hb z=>eb b o hb z) f0 f1 f3 f4 f5⟩
 self:=fun _ _ _ _ _ st h=>wpAny_pyIter_revIter st h
section
variable {X:Cx}
def ZtH(K:PySem.W.Frag)(te:TE):TI:=fun σ H R=>te σ H fun x H1=>∃a ys,x=.ref a/\SqL K H1 a ys/\R (Itv K a ys) H1
theorem ZpM{K:PySem.W.Frag}{tg e:PySem.Expr}{te:TE}{p pos:Pos}(eK:X.K=K)(hg:Gl X "reversed")(hm:X.mg "reversed"=none)(ha:PE X e te)
  (s1:starEach [e] X.env=(false,eval e X.env)::starEach [] X.env:=by rfl):PI X tg (.Call (.Name "reversed" p) [e] [] pos) (ZtH K te):=by
 subst eK;intro pins s σ H R I h;refine wpAny_Call_Name_kw (Zi9 I hg hm ZlM (PyProof.Rows.callWith_type1 ?_ s1 rfl));rw[s1];show wpAny _ _ (spliced ((false,eval e X.env)::[])) _ _ s;refine Calls.spliced_cons (thn (ha pins s σ H _ I h) fun u s' ⟨x,H1,I1,r1,a,ys,ex,hq,q⟩=>Calls.spliced_nil ?_);subst ex;cases r1;obtain⟨us,r,pl,hz⟩:=I1.list hq;have hlen:=r.length;refine call_reversed_list pl.isList ?_
 have st:Heap.IsRevIter (s'.heap.push (revObj a ((us.toArray.size:Int)-1))) s'.heap.objs.size a ((us.toArray.size:Int)-1):=⟨_,Heap.get?_push_size _ rfl,rfl,rfl⟩
 refine wpAny_pyIter_revIter (s:={s' with heap:=s'.heap.push (revObj a ((us.toArray.size:Int)-1))}) st ?_;refine⟨s'.heap.objs.size,[s'.heap.objs.size],_,_,_,rfl,I1.kept (t':=s'.toks) fun b o z=>Heap.get?_push_of_some _ z,ZpL a _ ys, ?_,fun b hb=> ?_,q⟩
 ·have e:((ys.length:Int)-1-((0:Nat):Int))=(us.toArray.size:Int)-1:=by rw[List.size_toArray,<-hlen];omega
  show Heap.IsRevIter _ _ _ _;rw[e];exact st
 ·have e:b=s'.heap.objs.size:=by simpa using hb
  subst e;exact I1.fpOk (Nat.le_refl _) (I1.hok.fresh (Nat.le_refl _))
end
end L3
namespace L3
open PySem PySem.Spec PyProof.Rows L2 PySem.W PySem.Calls
section
variable {X:Cx} {K:PySem.W.Frag}
theorem ZmV(eK:X.K=K):OpR X (compareOp .In) (rIn K false):=by
 subst eK;exact ZaK
theorem Yq(eK:X.K=K):IxR X (ZrO K):=by
 subst eK;exact Zu
end
section
variable {P:Program} {w:World} (l b:Addr) (xs ys:Array Value) (n m:Nat) (d1 d2:Option Addr) (s1 s2:Array (Option Value)) (e c:Nat->Bool)
abbrev Zoo(xs ys:Array Value)(e c:Nat->Bool)(i:Nat):Bool:=Zfj e c (decide (ys.size<xs.size)) ((List.range (min xs.size ys.size)).drop i)
theorem Zt1:MeetsIn P w (Builtin.«tuple.__gt__» ⟨[.ref l,.ref b],[]⟩) (fun A R s=>s.heap.get? l=some (ZlP d1 xs n s1)/\s.heap.get? b=some (ZlP d2 ys m s2)/\
  (∀j (h1:j<xs.size) (h2:j<ys.size),EqP P w A.in1 s xs[j] ys[j] (e j))/\(∀j (h1:j<xs.size) (h2:j<ys.size),e j=false->RcP P w A.in1 s .Gt xs[j] ys[j] (c j))/\R (.ok (.ret (.bool (Zoo xs ys e c 0)))) s):=
 .of_wp fun A R s h=>by
  obtain⟨hq,gs,dr,tk,oss⟩:=s;obtain⟨u1,u2,ue,uc,q⟩:=h;have sub:=AutoSeq1.sub_tuple_tuple;have zl:(xs.toList.zip ys.toList).length=min xs.size ys.size:=by simp
  wp_walk using AutoSeq1.wpAny_loadPart' u1,AutoSeq1.wpAny_loadPart' u2,wpAny_forIn_list _ (fun rest a s'=>a.1=none/\s'=⟨hq,gs,dr,tk,oss⟩/\∃i,rest=(xs.toList.zip ys.toList).drop i/\
   R (.ok (.ret (.bool (Zoo xs ys e c i)))) ⟨hq,gs,dr,tk,oss⟩) _
  case turn=>
   rintro⟨y,x⟩ rest a s' ⟨ha,rfl,i,zr,zq⟩;have lt:i<(xs.toList.zip ys.toList).length:=Nat.lt_of_not_le fun z=>by rw[List.drop_of_length_le z] at zr;cases zr
   have lm:i<min xs.size ys.size:=zl▸lt;have l1:i<xs.size:=by omega
   have l2:i<ys.size:=by omega
   rw[List.drop_eq_getElem_cons lt] at zr
   injection zr with zyx zrest
   obtain rfl:y=xs[i]:=by simpa using congrArg Prod.fst zyx
   obtain rfl:x=ys[i]:=by simpa using congrArg Prod.snd zyx
   have zd:(List.range (min xs.size ys.size)).drop i=i::(List.range (min xs.size ys.size)).drop (i+1):=by simp[List.drop_eq_getElem_cons,lm]
   unfold Zoo at zq
   rw[zd] at zq
   unfold Zfj at zq
   refine wpAny_bind (ue i l1 l2 _ _ ?_);cases ei:e i with
   |true=>
    rw[ei,if_pos rfl] at zq
    wp_walk
    exact⟨rfl,rfl,i+1,zrest,zq⟩
   |false=>
    rw[ei,if_neg (by simp)] at zq
    have rc:=uc i l1 l2 ei;unfold RcP at rc
    generalize richCompare CmpOp.Gt xs[i] ys[i]=m at rc⊢
    wp_walk
    first|refine wpAny_bind (rc _ _ ?_)|refine rc _ _ ?_
    wp_walk
    exact⟨_,rfl,zq⟩
  case fin=>
   rintro⟨a1,a2⟩ s' ⟨ha,rfl,i,zr,zq⟩;simp only at ha
   subst ha;have ge:min xs.size ys.size<=i:=Nat.le_of_not_lt fun z=>by rw[List.drop_eq_getElem_cons (zl▸z:i<(xs.toList.zip ys.toList).length)] at zr;cases zr
   unfold Zoo at zq
   rw[List.drop_of_length_le (by simpa using ge)] at zq
   wp_walk
   exact⟨_,rfl,by simpa [Builtin.Tuple.tupleCompareSizes,Zfj] using zq⟩
  case h=>exact⟨rfl,rfl,0,rfl,q⟩
end
section
variable {P:Program} {w:World} {A:Around} {s:Shared} {l b:Addr} {xs ys:Array Value} {e c:Nat->Bool}
theorem Zsh(hl:s.heap.IsTuple l xs)(hb:s.heap.IsTuple b ys)(hu:A.units<cLine)(he:∀j (h1:j<xs.size) (h2:j<ys.size),EqP P w A.in1 s xs[j] ys[j] (e j))(hc:∀j (h1:j<xs.size) (h2:j<ys.size),e j=false->RcP P w A.in1 s .Gt xs[j] ys[j] (c j)):RcP P w A s .Gt (.ref l) (.ref b) (Zoo xs ys e c 0):=by
 obtain⟨⟨c1,d1,t1,s1⟩,o1,k1,n,e1⟩:=id hl;obtain⟨⟨c2,d2,t2,s2⟩,o2,k2,m,e2⟩:=id hb;simp only at k1 e1 k2 e2
 subst k1 e1 k2 e2;exact fun E Q q=>wpAny_richCompare_same_room hl.typeIs hb.typeIs F.slot_tuple_gt (call_meetsIn F.slot_tuple_gt hl.typeIs F.entry_tuple_gt (F.args_tuple_gt_2 _ _) (Zt1 l b xs ys n m d1 d2 s1 s2 e c) ⟨o1,o2,he,hc,ZaL q⟩) hu
end
abbrev ZaI:=Int×Str
def Zju:ZaI->ZaI->Bool:=ZmS Zcp XD
theorem Zc2:STO Zju:=Ziy Zd3 XN
section
variable {X:Cx} {pins:List (Addr×Obj)} {σ:L2.St} {H:Hp} {s:Shared} {A:Around}
def ZcC(K:PySem.W.Frag)(H:Hp)(x:ZaI)(a:V):Prop:=∃p,a=.ref p/\SqT K H p [.int x.1,.str x.2]
theorem ZpN(I:L2.Inv X pins σ H s){x:ZaI}{p:Addr}(h:SqT X.K H p [.int x.1,.str x.2]):∃t t',s.heap.IsTuple p #[.int x.1 t,.str x.2 t']:=by
 obtain⟨its,r,T,_⟩:=I.tuple h;cases r with
 |cons a r=>
  cases r with
  |cons b r=>
   cases r;obtain⟨t,rfl⟩:=a;obtain⟨t',rfl⟩:=b;exact⟨t,t',T⟩
theorem Zt2(I:L2.Inv X pins σ H s){x y:ZaI}{a b:V}{u v:Value}(ra:ZcC X.K H x a)(rb:ZcC X.K H y b)(ru:Ye a u)(rv:Ye b v)(hu:A.units+10<cLine):RcP X.prog X.w A s .Gt u v (Zju y x):=by
 obtain⟨p,rfl,hp⟩:=ra;obtain⟨p',rfl,hp'⟩:=rb;cases ru;cases rv;obtain⟨t,t2,T1⟩:=ZpN I hp;obtain⟨t',t2',T2⟩:=ZpN I hp';have go:=Zsh (P:=X.prog) (w:=X.w) (A:=A) (e:=fun j=>if j=0 then(x.1==y.1) else(x.2==y.2)) (c:=fun j=>if j=0 then Zcp y.1 x.1 else XD y.2 x.2) T1 T2 (by omega) (fun j h1 h2=> ?_) (fun j h1 h2 z=> ?_)
 ·have e:Zoo #[Value.int x.1 t,Value.str x.2 t2] #[Value.int y.1 t',Value.str y.2 t2'] (fun j=>if j=0 then(x.1==y.1) else(x.2==y.2)) (fun j=>if j=0 then Zcp y.1 x.1 else XD y.2 x.2) 0=Zju y x:=by
   show(if(x.1==y.1)=true then(if(x.2==y.2)=true then false else XD y.2 x.2) else Zcp y.1 x.1)=if y.1=x.1 then XD y.2 x.2 else Zcp y.1 x.1
   by_cases z:x.1=y.1
   ·rw[if_pos (by rw[z];exact beq_self_eq_true _),if_pos z.symm]
    by_cases z2:x.2=y.2
    ·rw[if_pos (by rw[z2];exact beq_self_eq_true _),z2,XN.irr]
    ·rw[if_neg (by rw[beq_false_of_ne z2];simp)]
   ·rw[if_neg (by rw[beq_false_of_ne z];simp),if_neg (Ne.symm z)]
  rw[e] at go
  exact go
 ·match j,h1,h2 with
  |0,_,_=>exact fun E Q q=>wpAny_eqBool_int q
  |1,_,_=>exact fun E Q q=>Zih (show Ye (.str x.2) (.str x.2 t2) from⟨t2,rfl⟩) (show Ye (.str y.2) (.str y.2 t2') from⟨t2',rfl⟩) rfl rfl X.prog X.w E Q q
 ·match j,h1,h2 with
  |0,_,_=>exact fun E Q q=>PyProof.Rows.gt_int q
  |1,_,_=>exact fun E Q q=>PySem.P.gt_str q
end
section
variable {prog:Program} {w:World} {B:Around} {R:Result->Shared->Prop} {it S:Addr} {c:Nat} {s:Shared}
abbrev Ze4(it S:Addr):Code:=.builtin "max.loop" ⟨[.ref it,.none,.ref S],[]⟩
theorem ZpO:toString "max"++toString ".loop"="max.loop":=rfl
theorem ZiC{P:PySem.Fin->Shared->Prop}(hP:∀f s',P f s'->match f with| .done x=>R (.ok x) s'| .again c'=>c'.quiet=true/\codeAny (model prog w) B c' R s')
  (h:wpAny (model prog w) B.in1 (Builtin.«max.loop» ⟨[.ref it,.none,.ref S],[]⟩) P (fun e s'=>R (.error e) s') s):codeAny (model prog w) B (Ze4 it S) R s:=
 codeAny_builtin F.entry_max_loop (by
  rw[Around.under_plainId (A:=B) F.plain_max_loop ⟨[Value.ref it,.none,.ref S],[]⟩];exact wpAny_mono h (fun f s' z=>hP f s' z) fun _ _ z=>z)
theorem Zr0{Kp:Heap->Prop}{ub uk:Value}(hS:s.heap.get? S=some (seqObj "list" #[ub,uk] c))(hn:∀(Q:Option Value->Shared->Prop) (E:Value->Shared->Prop),(∀h' tk,Kp h'->Q none {s with heap:=h',toks:=tk})->wpAny (model prog w) B.in1 (pyNext (.ref it)) Q E s)
  (kp:∀h',Kp h'->h'.get? S=some (seqObj "list" #[ub,uk] c))(q:∀h' tk,Kp h'->R (.ok (.ret ub)) {s with heap:=h'.update S (Obj.mapSeq fun _=> #[]),toks:=tk}):codeAny (model prog w) B (Ze4 it S) R s:=by
 refine ZiC (P:=fun f s'=>match f with| .done x=>R (.ok x) s'| .again _=>False) (fun f s' z=>by cases f with|done x=>exact z|again _=>exact z.elim) ?_;refine wpAny_bind (m:=seqItems? (.ref S)) (wpAny_seqItems hS rfl (wpAny_bind (m:=tryCatch (pyNext (.ref it)) _) (wpAny_tryCatch (hn _ _ fun h' tk k=> ?_))));exact wpAny_bind (m:=updateSeq S fun _=> #[]) (wpAny_updateSeq (kp h' k) rfl (wpAny_bind (wpAny_letGo (wpAny_pure (q h' tk k)))))
theorem ZpP{Kv:Value->Heap->Prop}{ub uk:Value}(hS:s.heap.get? S=some (seqObj "list" #[ub,uk] c))(hn:∀(Q:Option Value->Shared->Prop) (E:Value->Shared->Prop),(∀v h' tk,Kv v h'->Q (some v) {s with heap:=h',toks:=tk})->wpAny (model prog w) B.in1 (pyNext (.ref it)) Q E s)
  (q:∀v h' tk,Kv v h'->∃k,RcP prog w B.in1 {s with heap:=h',toks:=tk} .Gt v uk k/\h'.get? S=some (seqObj "list" #[ub,uk] c)/\
   (k=true->codeAny (model prog w) B (Ze4 it S) R {s with heap:=h'.update S (Obj.mapSeq fun _=> #[v,v]),toks:=tk})/\(k=false->codeAny (model prog w) B (Ze4 it S) R {s with heap:=h',toks:=tk})):
  codeAny (model prog w) B (Ze4 it S) R s:=by
 refine ZiC (P:=fun f s'=>f=.again (Ze4 it S)/\codeAny (model prog w) B (Ze4 it S) R s') (fun f s' z=>by rw[z.1];exact⟨plainId_quiet F.plain_max_loop _,z.2⟩) ?_
 refine wpAny_bind (m:=seqItems? (.ref S)) (wpAny_seqItems hS rfl (wpAny_bind (m:=tryCatch (pyNext (.ref it)) _) (wpAny_tryCatch (hn _ _ fun v h' tk k=> ?_))));obtain⟨b,rc,gS,yes,no⟩:=q v h' tk k;refine wpAny_bind (m:=pure v) (wpAny_pure ?_);refine wpAny_bind (m:=tryCatch (holding [v,v] (richCompare .Gt v uk>>=_)) _) (wpAny_tryCatch (wpAny_holding (wpAny_bind (rc _ _ (wpAny_bind (wpAny_holding (wpAny_truthy_bool (wpAny_bind (wpAny_letGo (wpAny_pure ?_))))))))))
 cases b with
 |true=>exact wpAny_ite_split (fun _=>wpAny_bind (wpAny_updateSeq gS rfl (wpAny_bind (wpAny_letGo (wpAny_pure ⟨rfl,yes rfl⟩))))) (fun z=>absurd rfl z)
 |false=>exact wpAny_ite_split (fun z=>nomatch z) (fun _=>wpAny_bind (wpAny_letGo (wpAny_pure ⟨rfl,no rfl⟩)))
theorem Zop{Kv:Value->Heap->Prop}(hS:s.heap.get? S=some (seqObj "list" #[] c))(hn:∀(Q:Option Value->Shared->Prop) (E:Value->Shared->Prop),(∀v h' tk,Kv v h'->Q (some v) {s with heap:=h',toks:=tk})->wpAny (model prog w) B.in1 (pyNext (.ref it)) Q E s)
  (q:∀v h' tk,Kv v h'->h'.get? S=some (seqObj "list" #[] c)/\codeAny (model prog w) B (Ze4 it S) R {s with heap:=h'.update S (Obj.mapSeq fun _=> #[v,v]),toks:=tk}):
  codeAny (model prog w) B (Ze4 it S) R s:=by
 refine ZiC (P:=fun f s'=>f=.again (Ze4 it S)/\codeAny (model prog w) B (Ze4 it S) R s') (fun f s' z=>by rw[z.1];exact⟨plainId_quiet F.plain_max_loop _,z.2⟩) ?_
 refine wpAny_bind (m:=seqItems? (.ref S)) (wpAny_seqItems hS rfl (wpAny_bind (m:=tryCatch (pyNext (.ref it)) _) (wpAny_tryCatch (hn _ _ fun v h' tk k=> ?_))));obtain⟨gS,yes⟩:=q v h' tk k;refine wpAny_bind (m:=pure v) (wpAny_pure ?_);exact wpAny_bind (m:=updateSeq S fun _=> #[v,v]) (wpAny_updateSeq gS rfl (wpAny_pure ⟨rfl,yes⟩))
end
section
variable {X:Cx} {pins:List (Addr×Obj)} {σ:L2.St} {H:Hp} {s:Shared}
theorem ZiD{K:PySem.W.Frag}:∀{ys:List ZaI} {us:List V},Paired (ZcC K H) ys us->∀(j:Nat) (x:V),us[j]? =some x->∃y,ys[j]? =some y/\ZcC K H y x
 |_,_,.nil,j,x,h=>by simp at h
 |_,_,.cons (a:=y) (b:=v) r t,0,x,h=>by
  have h:v=x:=by simpa using h
  exact⟨y,rfl,h▸r⟩
 |_,_,.cons _ t,j+1,x,h=>by
  obtain⟨y,e,z⟩:=ZiD t j x (by simpa using h);exact⟨y,by simpa using e,z⟩
theorem Zoq{E:Value->Shared->Prop}{l it S:Addr}{us:List V}{ys:List ZaI}{R:VK}(hh:X.A.handled=none)(hu:X.A.units+20<cLine)(lI:ZhA X it)(lS:ZhA X S)(nIS:S≠it)(nl:l≠it)(nI:∀p∈pins,p.1≠it)(nS:∀p∈pins,p.1≠S)
  (hq:SqL X.K H l us)(rp:Paired (ZcC X.K H) ys us)(q:∀x y,y∈ys->ZcC X.K H y x->(∀z∈ys,Zju y z=false)->R x H):
  ∀(r:List V) (j:Nat) (s:Shared) (b:V) (yb:ZaI) (ub:Value) (c:Nat) (oI:Obj),us.drop j=r->j<=us.length->L2.Inv X ((it,oI)::(S,seqObj "list" #[ub,ub] c)::pins) σ H s->s.heap.IsListIter it l j->Ye b ub->ZcC X.K H yb b->yb∈ys->(∀z∈ys.take j,Zju yb z=false)->
   codeAny (model X.prog X.w) X.A (Ze4 it S) (Zt0 X pins σ R E) s:=by
 have two:∀(o:Obj) (p:Addr×Obj),p∈(S,o)::pins->p.1≠it:=fun o p hp=>by
  obtain rfl|m:=List.mem_cons.mp hp
  ·exact nIS
  ·exact nI p m
 have one:∀(o:Obj) (p:Addr×Obj),p∈(it,o)::pins->p.1≠S:=fun o p hp=>by
  obtain rfl|m:=List.mem_cons.mp hp
  ·exact fun z=>nIS z.symm
  ·exact nS p m
 intro r
 induction r with
 |nil=>
  intro j s b yb ub c oI hj hjl I hit rb sb mem best;obtain⟨vs,rx,pl,_⟩:=I.list hq;have ej:us.length=j:=Nat.le_antisymm (List.drop_eq_nil_iff.mp hj) hjl;have hl:vs.toArray.size=j:=by rw[List.size_toArray,<-rx.length,ej]
  have pI:=I.pin (it,oI) (List.mem_append_right _ (.head _));have pS:=I.pin (S,seqObj "list" #[ub,ub] c) (List.mem_append_right _ (.tail _ (.head _)));have J0:L2.Inv X ((S,seqObj "list" #[ub,ub] c)::pins) σ H s:=I.pins_of fun p hp=>I.pin p (List.mem_append_right _ (.tail _ hp));have J1:∀h' tk',(∀b o,b∉[it]->s.heap.get? b=some o->h'.get? b=some o)->L2.Inv X ((S,seqObj "list" #[ub,ub] c)::pins) σ H {s with heap:=h',toks:=tk'}:=fun h' tk' kp=>J0.turned (it:=it) (t':=tk') (fun b u n e=>kp b u (by simpa using n) e) pI.2.1 pI.2.2.1 (.inr lI.new) lI.cells fun p hp=>(List.mem_append.mp hp).elim (lI.pn p) (two _ p)
  refine Zr0 (Kp:=fun h'=>∀b o,b∉[it]->s.heap.get? b=some o->h'.get? b=some o) pS.1 (fun Q E q=>(Walks.list (prog:=X.prog) (w:=X.w) (A:=X.A.in1) hh it l nl vs.toArray).done s Q E ⟨by rw[hl];exact hit,pl.isList⟩ q) (fun h' kp=>kp S _ (by simpa using nIS) pS.1) fun h' tk kp=> ?_
  have J2:=ZeU (J1 h' tk kp) lS nS YK (get?_update_seq (kp S _ (by simpa using nIS) pS.1) fun _=> #[]) Jm;rw[List.take_of_length_le (by rw[Paired.length rp,ej];exact Nat.le_refl _)] at best
  exact⟨b,H,J2.pins_of fun p hp=>J2.pin p (List.mem_append_right _ (.tail _ hp)),rb,q b yb mem sb best⟩
 |cons x r ih=>
  intro j s b yb ub c oI hj hjl I hit rb sb mem best;have hjx:us[j]? =some x:=by
   have e:=congrArg List.head? hj;rw[List.head?_drop] at e
   exact e
  have hjn:us.drop (j+1)=r:=by
   rw[<-List.tail_drop,hj]
   rfl
  have hlx:j+1<=us.length:=(List.getElem?_eq_some_iff.mp hjx).1;obtain⟨yx,ey,sx⟩:=ZiD rp j x hjx;have tk:ys.take (j+1)=ys.take j++[yx]:=by rw[List.take_add_one,ey];rfl
  have pS:=I.pin (S,seqObj "list" #[ub,ub] c) (List.mem_append_right _ (.tail _ (.head _)));refine ZpP pS.1 (ZeV hh nl lI (two _) hq hjx I hit) fun v h' tk' ⟨rv,mv⟩=> ?_;obtain⟨o,J2,hi2⟩:=mv tk';have pS2:=J2.pin (S,seqObj "list" #[ub,ub] c) (List.mem_append_right _ (.tail _ (.head _)));have pI2:=J2.pin (it,o) (List.mem_append_right _ (.head _));refine⟨_,Zt2 J2 sx sb rv rb (show X.A.units+1+10<cLine by omega),pS2.1,fun e=> ?_,fun e=>ih (j+1) _ b yb ub c o hjn hlx J2 (hi2 _ pI2.1) rb sb mem fun z hz=> ?_⟩
  ·have J4:=Zb8 (ZeU (Zb8 J2) lS (one o) YK (get?_update_seq pS2.1 fun _=> #[v,v]) Jm);refine ih (j+1) _ x yx v _ o hjn hlx J4 (hi2 _ (J4.pin (it,o) (List.mem_append_right _ (.head _))).1) rv sx (List.mem_of_getElem? ey) fun z hz=> ?_;rw[tk] at hz
   rcases List.mem_append.mp hz with old|new
   ·cases lz:Zju yx z with
    |false=>rfl
    |true=>exact absurd (Zc2.tr _ _ _ e lz) (by rw[best z old];exact Bool.false_ne_true)
   ·have:z=yx:=by simpa using new
    rw[this];exact Zc2.irr _
  ·rw[tk] at hz
   rcases List.mem_append.mp hz with old|new
   ·exact best z old
   ·have:z=yx:=by simpa using new
    rw[this];exact e
theorem Zk8(hc:X.calm=true)(hu:X.A.units+30<cLine):Zb6 X (.builtin "max") (fun xs H Q=>∃(l:Addr) (x:V) (us:List V) (ys:List ZaI),xs=[.ref l]/\SqL X.K H l (x::us)/\Paired (ZcC X.K H) ys (x::us)/\
  ∀v y,y∈ys->ZcC X.K H y v->(∀z∈ys,Zju y z=false)->Q v H):=by
 intro pins s σ H xs vals Q I r h;obtain⟨l,x,us,ys,rfl,hq,rp,q⟩:=h;obtain⟨u,rfl,rx0⟩:=Zcn r;cases rx0;have hh:=I.ok.hd hc;obtain⟨vs,rx,pl,_⟩:=I.list hq;have nl:l≠s.heap.objs.size:=Nat.ne_of_lt (let ⟨_,e,_⟩:=pl.isList;Heap.lt_size e)
 refine call_function_tree (Q:=EP X pins σ Q) PySem.F.kind_max PySem.F.plain_max PySem.F.entry_max (PySem.F.args_max1 _) ?_;have bp:Builtin.Builtins.bindParams "max" ["key","default"] 0 ⟨[],[]⟩=pure [none,none]:=rfl;refine wpAny_bind (m:=Builtin.Builtins.bindParams "max" ["key","default"] 0 ⟨[],[]⟩) (wpAny_of_eq bp (wpAny_bind (wpAny_pure (wpAny_bind (wpAny_pyIter_list pl.isList (wpAny_bind (wpAny_newList ?_ (Nat.zero_le _))))))))
 rw[ZpO];generalize ho:({cls:=.type "list_iterator",data:=.fields #[.ref l,.int 0 0]}:Obj)=oI;have sz1:(s.heap.push oI).objs.size=s.heap.objs.size+1:=size_push' ..;rw[sz1];have gI:((s.heap.push oI).push (seqObj "list" #[] 0)).get? s.heap.objs.size=some oI:=Heap.get?_push_of_some _ (Heap.get?_push_size _ (by rw[<-ho];rfl))
 have gS:((s.heap.push oI).push (seqObj "list" #[] 0)).get? (s.heap.objs.size+1)=some (seqObj "list" #[] 0):=by rw[<-sz1];exact Heap.get?_push_size _ rfl
 have lI:ZhA X s.heap.objs.size:=ZhV I (Nat.le_refl _);have lS:ZhA X (s.heap.objs.size+1):=ZhV I (Nat.le_succ _);have fresh:∀a,s.heap.objs.size<=a->H a=none/\a≠X.env.locals/\a∉X.fs:=fun a ha=>⟨I.hok.fresh ha,fun z=>absurd (z▸ha) (Nat.not_le.mpr I.lt),I.nofs ha⟩
 have old:∀p∈pins,p.1<s.heap.objs.size:=fun p hp=>Heap.lt_size (I.pin p (List.mem_append_right _ hp)).1;have nI:∀p∈pins,p.1≠s.heap.objs.size:=fun p hp=>Nat.ne_of_lt (old p hp);have nS:∀p∈pins,p.1≠s.heap.objs.size+1:=fun p hp=>Nat.ne_of_lt (Nat.lt_succ_of_lt (old p hp));have I0:L2.Inv X pins σ H {s with heap:=(s.heap.push oI).push (seqObj "list" #[] 0)}:=I.kept (t':=s.toks) fun b u e=>Heap.get?_push_of_some _ (Heap.get?_push_of_some _ e)
 have I1:L2.Inv X ((s.heap.objs.size,oI)::(s.heap.objs.size+1,seqObj "list" #[] 0)::pins) σ H {s with heap:=(s.heap.push oI).push (seqObj "list" #[] 0)}:=I0.pins_of fun p hp=>by
  obtain rfl|m:=List.mem_cons.mp hp
  ·exact⟨gI,(fresh _ (Nat.le_refl _)).1,(fresh _ (Nat.le_refl _)).2.1,(fresh _ (Nat.le_refl _)).2.2,fun v z=>by rw[<-ho] at z;cases z⟩
  ·obtain rfl|m:=List.mem_cons.mp m
   ·exact⟨gS,(fresh _ (Nat.le_succ _)).1,(fresh _ (Nat.le_succ _)).2.1,(fresh _ (Nat.le_succ _)).2.2,Jm⟩
   ·exact I0.pin p (List.mem_append_right _ m)
 have nIS:s.heap.objs.size+1≠s.heap.objs.size:=Nat.succ_ne_self _;have hit0:((s.heap.push oI).push (seqObj "list" #[] 0)).IsListIter s.heap.objs.size l 0:=⟨oI,gI,by rw[<-ho],by rw[<-ho];rfl⟩
 refine wpAny_pure (And.intro (plainId_quiet PySem.F.plain_max_loop _) ?_);generalize hs1:({s with heap:=(s.heap.push oI).push (seqObj "list" #[] 0)}:Shared)=s1 at I1
 have hit1:s1.heap.IsListIter s.heap.objs.size l 0:=by rw[<-hs1];exact hit0
 generalize s.heap.objs.size=it at*
 have two:∀p∈(it+1,seqObj "list" #[] 0)::pins,p.1≠it:=fun p hp=>by
  obtain rfl|m:=List.mem_cons.mp hp
  ·exact nIS
  ·exact nI p m
 have pS:=I1.pin (it+1,seqObj "list" #[] 0) (List.mem_append_right _ (.tail _ (.head _)));refine Zop pS.1 (ZeV hh nl lI two hq (j:=0) (x:=x) rfl I1 hit1) fun v h' tk' ⟨rv,mv⟩=> ?_;obtain⟨o,J2,hi2⟩:=mv tk';have pS2:=J2.pin (it+1,seqObj "list" #[] 0) (List.mem_append_right _ (.tail _ (.head _)));obtain⟨yx,ey,sx⟩:=ZiD rp 0 x rfl;have J4:=Zb8 (ZeU (Zb8 J2) lS (fun p hp=>by
  obtain rfl|m:=List.mem_cons.mp hp
  ·exact fun z=>nIS z.symm
  ·exact nS p m) YK (get?_update_seq pS2.1 fun _=> #[v,v]) Jm)
 refine⟨pS2.1,Zoq hh (by omega) lI lS nIS nl nI nS hq rp q us 1 _ x yx v _ o rfl (Nat.succ_le_succ (Nat.zero_le _)) J4 (hi2 _ (J4.pin (it,o) (List.mem_append_right _ (.head _))).1) rv sx (List.mem_of_getElem? ey) fun z hz=> ?_⟩;cases ys with
 |nil=>cases ey
 |cons y0 ys=>
  obtain rfl:y0=yx:=by simpa using ey
  have:z=y0:=by simpa using hz
  rw[this];exact Zc2.irr _
theorem Zk9:∀{ss:List Str} {vs:List Value},Yl (ss.map V.str) vs->StrsAre vs ss
 |[],_,.nil=> .nil
 |x::ss,_,.cons ⟨t,e⟩ r=>by
  subst e;exact .cons x t (Zk9 r)
theorem JV:Zb6 X (.builtin "sorted") (fun xs H Q=>∃(l:Addr) (ss:List Str),xs=[.ref l]/\SqL X.K H l (ss.map V.str)/\ss.length<64/\∀zs,zs.Perm ss->sortedS zs=true->∀D,H D=none->Q (.ref D) (upd H D (.lst (zs.map V.str)))):=by
 intro pins s σ H xs vals Q I r h;obtain⟨l,ss,rfl,hq,h64,q⟩:=h;obtain⟨u,rfl,rx0⟩:=Zcn r;cases rx0;obtain⟨vs,rx,pl,_⟩:=I.list hq;have lv:vs.length=ss.length:=by rw[<-rx.length,List.length_map]
 have hz:vs.length<=sizeLine:=by rw[sizeLine_eq];omega
 refine call_function_entry kind_sorted plain_sorted entry_sorted (args_sorted1 (.ref l)) ?_;unfold Builtin.«sorted»;refine wpAny_bind (m:=checkCount "sorted" 1 1 _) (wpAny_pure (wpAny_bind (collect_list pl.isList (wpAny_bind (wpAny_newList ?_ hz)) hz)));have sz1:((s.heap.push (seqObj "list" #[] 0)).update s.heap.objs.size (Obj.mapSeq (· ++vs.toArray))).objs.size=s.heap.objs.size+1:=by rw[Heap.size_update,size_push']
 generalize hh1:(s.heap.push (seqObj "list" #[] 0)).update s.heap.objs.size (Obj.mapSeq (· ++vs.toArray))=h1 at sz1
 have k1:∀b u,s.heap.get? b=some u->h1.get? b=some u:=fun b u e=>by
  have hlt:=Heap.lt_size e;rw[<-hh1];exact YK b u (Nat.ne_of_lt hlt) (Heap.get?_push_of_some _ e)
 have I1:L2.Inv X pins σ H {s with heap:=h1}:=I.kept (t':=s.toks) k1;refine wpAny_bind (wpAny_holding (ZkK (s:={s with heap:=h1.push (seqObj "list" vs.toArray 0)}) (Heap.get?_push_size (o:=seqObj "list" vs.toArray 0) h1 rfl) (Zk9 rx) (by omega) fun out ss' o1 o2 o3=>wpAny_pure ⟨_,rfl, ?_⟩));obtain⟨e,he⟩:=sortedHeap_at (h:=h1.push (seqObj "list" vs.toArray 0)) (out:=out) (Heap.get?_push_size (o:=seqObj "list" vs.toArray 0) h1 rfl)
 have hz2:(ss'.map V.str).length<=sizeLine:=by rw[List.length_map,o2.length_eq,sizeLine_eq];omega
 refine⟨.ref h1.objs.size,_,I1.laid (a:=h1.objs.size) (o:=.lst (ss'.map V.str)) (t':=s.toks) (fun b o e1=> ?_) (Nat.le_refl _) ⟨hz2,out.toList,e,ZfW o1,he⟩,rfl,q ss' o2 o3 _ I1.fresh⟩;have hb:b<h1.objs.size:=Heap.lt_size e1;rw[sortedHeap_old (Nat.ne_of_lt hb) (by rw[size_push'];exact Nat.lt_succ_of_lt hb)]
 exact Heap.get?_push_of_some _ e1
end
end L3
namespace L3
open PySem PySem.Spec PyProof.Rows L2
section
variable {X:Cx} {K:PySem.W.Frag}
theorem ZnG(eK:X.K=K):SlR X (ZsI K):=by
 subst eK;exact ZkB
theorem ZpQ(eK:X.K=K):OpR X (binaryOp .Add) (Zrk K):=by
 subst eK;exact ZqC
end
end L3
namespace L3
open PySem PySem.Spec PyProof.Rows L2 PySem.W PySem.Calls
section
variable {X:Cx} {pins:List (Addr×Obj)} {σ:L2.St} {H:Hp} {s:Shared} {A:Around}
def ZhB(K:PySem.W.Frag)(H:Hp)(x:Lf)(a:V):Prop:=∃p,a=.ref p/\SqT K H p [.str x.1,.int x.2]
theorem Zt3(I:L2.Inv X pins σ H s){x y:Lf}{a b:V}{u v:Value}(ra:ZhB X.K H x a)(rb:ZhB X.K H y b)(ru:Ye a u)(rv:Ye b v)(hu:A.units+10<cLine):RcP X.prog X.w A s .Lt u v (ZcB x y):=by
 obtain⟨p,rfl,hp⟩:=ra;obtain⟨p',rfl,hp'⟩:=rb;cases ru;cases rv;exact Zro I hp hp' (by omega)
end
section
variable {prog:Program} {w:World} {B:Around} {R:Result->Shared->Prop} {it S:Addr} {c:Nat} {s:Shared}
abbrev Zfb(it S:Addr):Code:=.builtin "min.loop" ⟨[.ref it,.none,.ref S],[]⟩
theorem Zor{Kv:Value->Heap->Prop}{ub uk:Value}(hS:s.heap.get? S=some (seqObj "list" #[ub,uk] c))(hn:∀(Q:Option Value->Shared->Prop) (E:Value->Shared->Prop),(∀v h' tk,Kv v h'->Q (some v) {s with heap:=h',toks:=tk})->wpAny (model prog w) B.in1 (pyNext (.ref it)) Q E s)
  (q:∀v h' tk,Kv v h'->∃k,RcP prog w B.in1 {s with heap:=h',toks:=tk} .Lt v uk k/\h'.get? S=some (seqObj "list" #[ub,uk] c)/\
   (k=true->codeAny (model prog w) B (Zfb it S) R {s with heap:=h'.update S (Obj.mapSeq fun _=> #[v,v]),toks:=tk})/\(k=false->codeAny (model prog w) B (Zfb it S) R {s with heap:=h',toks:=tk})):
  codeAny (model prog w) B (Zfb it S) R s:=by
 refine ZiB (P:=fun f s'=>f=.again (Zfb it S)/\codeAny (model prog w) B (Zfb it S) R s') (fun f s' z=>by rw[z.1];exact⟨plainId_quiet F.plain_min_loop _,z.2⟩) ?_
 refine wpAny_bind (m:=seqItems? (.ref S)) (wpAny_seqItems hS rfl (wpAny_bind (m:=tryCatch (pyNext (.ref it)) _) (wpAny_tryCatch (hn _ _ fun v h' tk k=> ?_))));obtain⟨b,rc,gS,yes,no⟩:=q v h' tk k;refine wpAny_bind (m:=pure v) (wpAny_pure ?_);refine wpAny_bind (m:=tryCatch (holding [v,v] (richCompare .Lt v uk>>=_)) _) (wpAny_tryCatch (wpAny_holding (wpAny_bind (rc _ _ (wpAny_bind (wpAny_holding (wpAny_truthy_bool (wpAny_bind (wpAny_letGo (wpAny_pure ?_))))))))))
 cases b with
 |true=>exact wpAny_ite_split (fun _=>wpAny_bind (wpAny_updateSeq gS rfl (wpAny_bind (wpAny_letGo (wpAny_pure ⟨rfl,yes rfl⟩))))) (fun z=>absurd rfl z)
 |false=>exact wpAny_ite_split (fun z=>nomatch z) (fun _=>wpAny_bind (wpAny_letGo (wpAny_pure ⟨rfl,no rfl⟩)))
theorem ZmW{Kv:Value->Heap->Prop}(hS:s.heap.get? S=some (seqObj "list" #[] c))(hn:∀(Q:Option Value->Shared->Prop) (E:Value->Shared->Prop),(∀v h' tk,Kv v h'->Q (some v) {s with heap:=h',toks:=tk})->wpAny (model prog w) B.in1 (pyNext (.ref it)) Q E s)
  (q:∀v h' tk,Kv v h'->h'.get? S=some (seqObj "list" #[] c)/\codeAny (model prog w) B (Zfb it S) R {s with heap:=h'.update S (Obj.mapSeq fun _=> #[v,v]),toks:=tk}):
  codeAny (model prog w) B (Zfb it S) R s:=by
 refine ZiB (P:=fun f s'=>f=.again (Zfb it S)/\codeAny (model prog w) B (Zfb it S) R s') (fun f s' z=>by rw[z.1];exact⟨plainId_quiet F.plain_min_loop _,z.2⟩) ?_
 refine wpAny_bind (m:=seqItems? (.ref S)) (wpAny_seqItems hS rfl (wpAny_bind (m:=tryCatch (pyNext (.ref it)) _) (wpAny_tryCatch (hn _ _ fun v h' tk k=> ?_))));obtain⟨gS,yes⟩:=q v h' tk k;refine wpAny_bind (m:=pure v) (wpAny_pure ?_);exact wpAny_bind (m:=updateSeq S fun _=> #[v,v]) (wpAny_updateSeq gS rfl (wpAny_pure ⟨rfl,yes⟩))
end
section
variable {X:Cx} {pins:List (Addr×Obj)} {σ:L2.St} {H:Hp} {s:Shared}
theorem ZmX{K:PySem.W.Frag}:∀{ys:List Lf} {us:List V},Paired (ZhB K H) ys us->∀(j:Nat) (x:V),us[j]? =some x->∃y,ys[j]? =some y/\ZhB K H y x
 |_,_,.nil,j,x,h=>by simp at h
 |_,_,.cons (a:=y) (b:=v) r t,0,x,h=>by
  have h:v=x:=by simpa using h
  exact⟨y,rfl,h▸r⟩
 |_,_,.cons _ t,j+1,x,h=>by
  obtain⟨y,e,z⟩:=ZmX t j x (by simpa using h);exact⟨y,by simpa using e,z⟩
theorem Zos{E:Value->Shared->Prop}{l it S:Addr}{us:List V}{ys:List Lf}{R:VK}(hh:X.A.handled=none)(hu:X.A.units+20<cLine)(lI:ZhA X it)(lS:ZhA X S)(nIS:S≠it)(nl:l≠it)(nI:∀p∈pins,p.1≠it)(nS:∀p∈pins,p.1≠S)
  (hq:SqL X.K H l us)(rp:Paired (ZhB X.K H) ys us)(q:∀x y,y∈ys->ZhB X.K H y x->(∀z∈ys,ZcB z y=false)->R x H):
  ∀(r:List V) (j:Nat) (s:Shared) (b:V) (yb:Lf) (ub:Value) (c:Nat) (oI:Obj),us.drop j=r->j<=us.length->L2.Inv X ((it,oI)::(S,seqObj "list" #[ub,ub] c)::pins) σ H s->s.heap.IsListIter it l j->Ye b ub->ZhB X.K H yb b->yb∈ys->(∀z∈ys.take j,ZcB z yb=false)->
   codeAny (model X.prog X.w) X.A (Zfb it S) (Zt0 X pins σ R E) s:=by
 have two:∀(o:Obj) (p:Addr×Obj),p∈(S,o)::pins->p.1≠it:=fun o p hp=>by
  obtain rfl|m:=List.mem_cons.mp hp
  ·exact nIS
  ·exact nI p m
 have one:∀(o:Obj) (p:Addr×Obj),p∈(it,o)::pins->p.1≠S:=fun o p hp=>by
  obtain rfl|m:=List.mem_cons.mp hp
  ·exact fun z=>nIS z.symm
  ·exact nS p m
 intro r
 induction r with
 |nil=>
  intro j s b yb ub c oI hj hjl I hit rb sb mem best;obtain⟨vs,rx,pl,_⟩:=I.list hq;have ej:us.length=j:=Nat.le_antisymm (List.drop_eq_nil_iff.mp hj) hjl;have hl:vs.toArray.size=j:=by rw[List.size_toArray,<-rx.length,ej]
  have pI:=I.pin (it,oI) (List.mem_append_right _ (.head _));have pS:=I.pin (S,seqObj "list" #[ub,ub] c) (List.mem_append_right _ (.tail _ (.head _)));have J0:L2.Inv X ((S,seqObj "list" #[ub,ub] c)::pins) σ H s:=I.pins_of fun p hp=>I.pin p (List.mem_append_right _ (.tail _ hp));have J1:∀h' tk',(∀b o,b∉[it]->s.heap.get? b=some o->h'.get? b=some o)->L2.Inv X ((S,seqObj "list" #[ub,ub] c)::pins) σ H {s with heap:=h',toks:=tk'}:=fun h' tk' kp=>J0.turned (it:=it) (t':=tk') (fun b u n e=>kp b u (by simpa using n) e) pI.2.1 pI.2.2.1 (.inr lI.new) lI.cells fun p hp=>(List.mem_append.mp hp).elim (lI.pn p) (two _ p)
  refine ZqX (Kp:=fun h'=>∀b o,b∉[it]->s.heap.get? b=some o->h'.get? b=some o) pS.1 (fun Q E q=>(Walks.list (prog:=X.prog) (w:=X.w) (A:=X.A.in1) hh it l nl vs.toArray).done s Q E ⟨by rw[hl];exact hit,pl.isList⟩ q) (fun h' kp=>kp S _ (by simpa using nIS) pS.1) fun h' tk kp=> ?_
  have J2:=ZeU (J1 h' tk kp) lS nS YK (get?_update_seq (kp S _ (by simpa using nIS) pS.1) fun _=> #[]) Jm;rw[List.take_of_length_le (by rw[Paired.length rp,ej];exact Nat.le_refl _)] at best
  exact⟨b,H,J2.pins_of fun p hp=>J2.pin p (List.mem_append_right _ (.tail _ hp)),rb,q b yb mem sb best⟩
 |cons x r ih=>
  intro j s b yb ub c oI hj hjl I hit rb sb mem best;have hjx:us[j]? =some x:=by
   have e:=congrArg List.head? hj;rw[List.head?_drop] at e
   exact e
  have hjn:us.drop (j+1)=r:=by
   rw[<-List.tail_drop,hj]
   rfl
  have hlx:j+1<=us.length:=(List.getElem?_eq_some_iff.mp hjx).1;obtain⟨yx,ey,sx⟩:=ZmX rp j x hjx;have tk:ys.take (j+1)=ys.take j++[yx]:=by rw[List.take_add_one,ey];rfl
  have pS:=I.pin (S,seqObj "list" #[ub,ub] c) (List.mem_append_right _ (.tail _ (.head _)));refine Zor pS.1 (ZeV hh nl lI (two _) hq hjx I hit) fun v h' tk' ⟨rv,mv⟩=> ?_;obtain⟨o,J2,hi2⟩:=mv tk';have pS2:=J2.pin (S,seqObj "list" #[ub,ub] c) (List.mem_append_right _ (.tail _ (.head _)));have pI2:=J2.pin (it,o) (List.mem_append_right _ (.head _));refine⟨_,Zt3 J2 sx sb rv rb (show X.A.units+1+10<cLine by omega),pS2.1,fun e=> ?_,fun e=>ih (j+1) _ b yb ub c o hjn hlx J2 (hi2 _ pI2.1) rb sb mem fun z hz=> ?_⟩
  ·have J4:=Zb8 (ZeU (Zb8 J2) lS (one o) YK (get?_update_seq pS2.1 fun _=> #[v,v]) Jm);refine ih (j+1) _ x yx v _ o hjn hlx J4 (hi2 _ (J4.pin (it,o) (List.mem_append_right _ (.head _))).1) rv sx (List.mem_of_getElem? ey) fun z hz=> ?_;rw[tk] at hz
   rcases List.mem_append.mp hz with old|new
   ·cases lz:ZcB z yx with
    |false=>rfl
    |true=>exact absurd (Zc1.tr _ _ _ lz e) (by rw[best z old];exact Bool.false_ne_true)
   ·have:z=yx:=by simpa using new
    rw[this];exact Zc1.irr _
  ·rw[tk] at hz
   rcases List.mem_append.mp hz with old|new
   ·exact best z old
   ·have:z=yx:=by simpa using new
    rw[this];exact e
theorem Zot(hc:X.calm=true)(hu:X.A.units+30<cLine):Zb6 X (.builtin "min") (fun xs H Q=>∃(l:Addr) (x:V) (us:List V) (ys:List Lf),xs=[.ref l]/\SqL X.K H l (x::us)/\Paired (ZhB X.K H) ys (x::us)/\
  ∀v y,y∈ys->ZhB X.K H y v->(∀z∈ys,ZcB z y=false)->Q v H):=by
 intro pins s σ H xs vals Q I r h;obtain⟨l,x,us,ys,rfl,hq,rp,q⟩:=h;obtain⟨u,rfl,rx0⟩:=Zcn r;cases rx0;have hh:=I.ok.hd hc;obtain⟨vs,rx,pl,_⟩:=I.list hq;have nl:l≠s.heap.objs.size:=Nat.ne_of_lt (let ⟨_,e,_⟩:=pl.isList;Heap.lt_size e)
 refine call_function_tree (Q:=EP X pins σ Q) PySem.F.kind_min PySem.F.plain_min PySem.F.entry_min (PySem.F.args_min1 _) ?_;have bp:Builtin.Builtins.bindParams "min" ["key","default"] 0 ⟨[],[]⟩=pure [none,none]:=rfl;refine wpAny_bind (m:=Builtin.Builtins.bindParams "min" ["key","default"] 0 ⟨[],[]⟩) (wpAny_of_eq bp (wpAny_bind (wpAny_pure (wpAny_bind (wpAny_pyIter_list pl.isList (wpAny_bind (wpAny_newList ?_ (Nat.zero_le _))))))))
 rw[ZpI];generalize ho:({cls:=.type "list_iterator",data:=.fields #[.ref l,.int 0 0]}:Obj)=oI;have sz1:(s.heap.push oI).objs.size=s.heap.objs.size+1:=size_push' ..;rw[sz1];have gI:((s.heap.push oI).push (seqObj "list" #[] 0)).get? s.heap.objs.size=some oI:=Heap.get?_push_of_some _ (Heap.get?_push_size _ (by rw[<-ho];rfl))
 have gS:((s.heap.push oI).push (seqObj "list" #[] 0)).get? (s.heap.objs.size+1)=some (seqObj "list" #[] 0):=by rw[<-sz1];exact Heap.get?_push_size _ rfl
 have lI:ZhA X s.heap.objs.size:=ZhV I (Nat.le_refl _);have lS:ZhA X (s.heap.objs.size+1):=ZhV I (Nat.le_succ _);have fresh:∀a,s.heap.objs.size<=a->H a=none/\a≠X.env.locals/\a∉X.fs:=fun a ha=>⟨I.hok.fresh ha,fun z=>absurd (z▸ha) (Nat.not_le.mpr I.lt),I.nofs ha⟩
 have old:∀p∈pins,p.1<s.heap.objs.size:=fun p hp=>Heap.lt_size (I.pin p (List.mem_append_right _ hp)).1;have nI:∀p∈pins,p.1≠s.heap.objs.size:=fun p hp=>Nat.ne_of_lt (old p hp);have nS:∀p∈pins,p.1≠s.heap.objs.size+1:=fun p hp=>Nat.ne_of_lt (Nat.lt_succ_of_lt (old p hp));have I0:L2.Inv X pins σ H {s with heap:=(s.heap.push oI).push (seqObj "list" #[] 0)}:=I.kept (t':=s.toks) fun b u e=>Heap.get?_push_of_some _ (Heap.get?_push_of_some _ e)
 have I1:L2.Inv X ((s.heap.objs.size,oI)::(s.heap.objs.size+1,seqObj "list" #[] 0)::pins) σ H {s with heap:=(s.heap.push oI).push (seqObj "list" #[] 0)}:=I0.pins_of fun p hp=>by
  obtain rfl|m:=List.mem_cons.mp hp
  ·exact⟨gI,(fresh _ (Nat.le_refl _)).1,(fresh _ (Nat.le_refl _)).2.1,(fresh _ (Nat.le_refl _)).2.2,fun v z=>by rw[<-ho] at z;cases z⟩
  ·obtain rfl|m:=List.mem_cons.mp m
   ·exact⟨gS,(fresh _ (Nat.le_succ _)).1,(fresh _ (Nat.le_succ _)).2.1,(fresh _ (Nat.le_succ _)).2.2,Jm⟩
   ·exact I0.pin p (List.mem_append_right _ m)
 have nIS:s.heap.objs.size+1≠s.heap.objs.size:=Nat.succ_ne_self _;have hit0:((s.heap.push oI).push (seqObj "list" #[] 0)).IsListIter s.heap.objs.size l 0:=⟨oI,gI,by rw[<-ho],by rw[<-ho];rfl⟩
 refine wpAny_pure (And.intro (plainId_quiet PySem.F.plain_min_loop _) ?_);generalize hs1:({s with heap:=(s.heap.push oI).push (seqObj "list" #[] 0)}:Shared)=s1 at I1
 have hit1:s1.heap.IsListIter s.heap.objs.size l 0:=by rw[<-hs1];exact hit0
 generalize s.heap.objs.size=it at*
 have two:∀p∈(it+1,seqObj "list" #[] 0)::pins,p.1≠it:=fun p hp=>by
  obtain rfl|m:=List.mem_cons.mp hp
  ·exact nIS
  ·exact nI p m
 have pS:=I1.pin (it+1,seqObj "list" #[] 0) (List.mem_append_right _ (.tail _ (.head _)));refine ZmW pS.1 (ZeV hh nl lI two hq (j:=0) (x:=x) rfl I1 hit1) fun v h' tk' ⟨rv,mv⟩=> ?_;obtain⟨o,J2,hi2⟩:=mv tk';have pS2:=J2.pin (it+1,seqObj "list" #[] 0) (List.mem_append_right _ (.tail _ (.head _)));obtain⟨yx,ey,sx⟩:=ZmX rp 0 x rfl;have J4:=Zb8 (ZeU (Zb8 J2) lS (fun p hp=>by
  obtain rfl|m:=List.mem_cons.mp hp
  ·exact fun z=>nIS z.symm
  ·exact nS p m) YK (get?_update_seq pS2.1 fun _=> #[v,v]) Jm)
 refine⟨pS2.1,Zos hh (by omega) lI lS nIS nl nI nS hq rp q us 1 _ x yx v _ o rfl (Nat.succ_le_succ (Nat.zero_le _)) J4 (hi2 _ (J4.pin (it,o) (List.mem_append_right _ (.head _))).1) rv sx (List.mem_of_getElem? ey) fun z hz=> ?_⟩;cases ys with
 |nil=>cases ey
 |cons y0 ys=>
  obtain rfl:y0=yx:=by simpa using ey
  have:z=y0:=by simpa using hz
  rw[this];exact Zc1.irr _
end
end L3
namespace L3
open PySem PySem.Spec PyProof.Rows L2
section
variable {X:Cx} {K:PySem.W.Frag}
end
end L3
namespace L3
open PySem PySem.Spec PyProof.Rows L2
section
variable {X:Cx} {pins:List (Addr×Obj)} {σ:L2.St} {H:Hp} {s:Shared} {h':Heap}
end
section
variable {X:Cx} {pins:List (Addr×Obj)} {σ:L2.St} {H:Hp} {s:Shared}
end
end L3
namespace L3
open PySem PySem.Spec PyProof.Rows L2 PySem.W PySem.Calls
structure ZlY (X:Cx) {α:Type} (lt:α->α->Bool) (R:Hp->α->V->Prop) (d:α):Prop where
 sto:STO lt
 kind:∀{A:Around} {pins:List (Addr×Obj)} {σ:L2.St} {H:Hp} {s:Shared} {kk:List α} {kx:List V} {ks:List Value},L2.Inv X pins σ H s->Paired (R H) kk kx->Yl kx ks->2<=ks.length->A.units+5<cLine->
  wpAny (model X.prog X.w) A (keyKind' (List.toArray ks)) (fun κ s'=>s'=s/\ZkO X.prog X.w A κ ks ks.length (fun i j=>lt (kk.getD i d) (kk.getD j d)) s) (fun _ _=>False) s
theorem ZiE{α:Type}{R:α->V->Prop}{d:α}:∀{kk:List α} {kx:List V} {ks:List Value} (_:Paired R kk kx) (_:Yl kx ks) (i:Nat),i<ks.length->∃x,R (kk.getD i d) x/\Ye x (ks.getD i Value.none)
 |_,_,_,.nil,.nil,i,h=>absurd h (Nat.not_lt_zero _)
 |_,_,_,.cons r _,.cons v _,0,_=>⟨_,r,v⟩
 |_,_,_,.cons _ t,.cons _ vt,i+1,h=>by
  obtain⟨x,a,b⟩:=ZiE t vt i (by simpa using h);exact⟨x,a,b⟩
section
variable {X:Cx} {pins:List (Addr×Obj)} {σ:L2.St} {H:Hp} {s:Shared} {α:Type} {lt:α->α->Bool} {R:Hp->α->V->Prop} {d:α}
theorem ZkT(S:ZlY X lt R d)(hr:X.A.units+30<cLine):Zb6 X (.builtin "sorted") (fun xs H Q=>∃(l:Addr) (us:List V) (kk:List α),xs=[.ref l]/\SqL X.K H l us/\us.length<64/\Paired (fun y x=>R H y x) kk us/\
  ∀zs:List (V×α),zs.Perm (us.zip kk)->zs.Pairwise (fun a b=>lt b.2 a.2=false)->∀D,H D=none->Q (.ref D) (upd H D (.lst (zs.map (·.1))))):=by
 intro pins s σ H xs vals Q I r h;obtain⟨l,us,kk,rfl,hq,h64,rp,q⟩:=h;obtain⟨u,rfl,rx⟩:=Zcn r;cases rx;obtain⟨vs,rx,pl,_⟩:=I.list hq;have hn:vs.length<64:=by rw[<-rx.length];exact h64
 have hz:vs.length<=sizeLine:=by rw[sizeLine_eq];omega
 have lkk:kk.length=us.length:=Paired.length rp;refine call_function_entry kind_sorted plain_sorted entry_sorted (args_sorted1 (.ref l)) ?_;unfold Builtin.«sorted»;refine wpAny_bind (m:=checkCount "sorted" 1 1 _) (wpAny_pure (wpAny_bind (collect_list pl.isList (wpAny_bind (wpAny_newList ?_ hz)) hz)));have sz1:((s.heap.push (seqObj "list" #[] 0)).update s.heap.objs.size (Obj.mapSeq (· ++vs.toArray))).objs.size=s.heap.objs.size+1:=by rw[Heap.size_update,size_push']
 generalize hh1:(s.heap.push (seqObj "list" #[] 0)).update s.heap.objs.size (Obj.mapSeq (· ++vs.toArray))=h1 at sz1
 have k1:∀b u,s.heap.get? b=some u->h1.get? b=some u:=fun b u e=>by
  have hlt:=Heap.lt_size e;rw[<-hh1];exact YK b u (Nat.ne_of_lt hlt) (Heap.get?_push_of_some _ e)
 generalize hD:h1.objs.size=D at sz1
 have oD:(h1.push (seqObj "list" vs.toArray 0)).get? D=some (seqObj "list" vs.toArray 0):=by rw[<-hD];exact Heap.get?_push_size _ rfl
 have k2:∀b u,s.heap.get? b=some u->(Zb0 (h1.push (seqObj "list" vs.toArray 0)) D vs).get? b=some u:=fun b u e=>
  ZlX b u (Nat.ne_of_lt (Nat.lt_of_lt_of_le (Heap.lt_size e) (by omega))) (Heap.get?_push_of_some _ (k1 b u e))
 have I2:L2.Inv X pins σ H {s with heap:=Zb0 (h1.push (seqObj "list" vs.toArray 0)) D vs}:=I.kept (t':=s.toks) k2;refine wpAny_bind (wpAny_holding (wpAny_call_entry slot_list_sort ⟨_,oD,rfl⟩ entry_list_sort ?body (args_list_sort _)));refine ZiA (ans:=fun i j=>lt (kk.getD i d) (kk.getD j d)) oD hn (S.sto.ord _) (fun h2=> ?_) fun p pl2 so=>⟨_,rfl,wpAny_pure ⟨_,rfl, ?_⟩⟩
 ·exact S.kind I2 rp rx h2 (show X.A.units+1+1+5<cLine by omega)
 ·have lout:(p.toList.map fun i=>vs.getD i Value.none).length=vs.length:=by rw[List.length_map,Array.length_toList,pl2.size]
  have rv:=ZnD rx pl2;obtain⟨e,he⟩:=sortedHeap_at (h:=h1.push (seqObj "list" vs.toArray 0)) (out:=List.toArray (p.toList.map fun i=>vs.getD i Value.none)) oD;have I3:L2.Inv X pins σ H {s with heap:=sortedHeap (h1.push (seqObj "list" vs.toArray 0)) D vs (List.toArray (p.toList.map fun i=>vs.getD i Value.none))}:=I.kept (t':=s.toks) fun b u e=>YK b u (Nat.ne_of_lt (Nat.lt_of_lt_of_le (Heap.lt_size e) (by omega))) (k2 b u e)
  have fD:H D=none:=I.hok.fresh (by omega);have J:=Zfh (n:=D) (q:=.lst (p.toList.map fun i=>us.getD i .non)) I I3 fD (by
   cases z:s.heap.get? D with
   |none=>rfl
   |some o=>exact absurd (Heap.lt_size z) (Nat.not_lt.mpr (by omega))) ⟨by rw[rv.length,lout];exact hz,_,_,rv,he⟩
  refine⟨.ref D,_,J,rfl, ?_⟩;have fin:=q (p.toList.map fun i=>(us.getD i .non,kk.getD i d)) (ZnE lkk.symm (by rw[rx.length];exact pl2)) (ZnF so pl2) D fD
  rw[List.map_map] at fin
  exact fin
end
section
variable {X:Cx} {pins:List (Addr×Obj)} {σ:L2.St} {H:Hp} {s:Shared} {α:Type} {lt:α->α->Bool} {R:Hp->α->V->Prop} {d:α} {k:Nat} {g:Addr} {fd:FuncData} {p:Str} {sp:Sp}
end
end L3
namespace L3
open PySem PySem.Spec PyProof.Rows L2
end L3
namespace L3
open PySem PySem.Spec PyProof.Rows L2
theorem ZkU{X:Cx}{K:PySem.W.Frag}{e:PySem.Expr}{f:Str}{pos:Pos}{ta:TE}(eK:X.K=K)(he:PE X e ta)(hb:attributeBase e f X.env (eval e X.env)=eval e X.env):PE X (.Attribute e f pos) (ZrM K ta f):=by
 subst eK;exact Yi he hb
end L3
namespace L3
open PySem PySem.Spec PyProof.Rows L2 PySem.W PySem.Calls
theorem ZnH{X:Cx}{pins:List (Addr×Obj)}{σ:L2.St}{H:Hp}{s:Shared}(I:L2.Inv X pins σ H s):∀{kk:List Lf} {kx:List V} {ks:List Value} (_:Paired (ZhB X.K H) kk kx) (_:Yl kx ks),∃fs,KatTups s.heap ks fs/\fs.length=ks.length/\∀v∈fs,∃x t,v=Value.str x t
 |_,_,_,.nil,.nil=>⟨[],.nil,rfl,fun v hv=>nomatch hv⟩
 |_,_,_,.cons (a:=y) r t,.cons v vt=>by
  obtain⟨fs,a,b,c⟩:=ZnH I t vt;obtain⟨p,rfl,hp⟩:=r;obtain⟨tk,u,o,e1,e2,n,e3⟩:=ZfZ I hp;cases v;refine⟨.str y.1 tk::fs,.cons e1 e2 e3 rfl a,by rw[List.length_cons,List.length_cons,b],fun w hw=> ?_⟩;cases hw with
  |head=>exact⟨_,_,rfl⟩
  |tail _ hw=>exact c w hw
theorem Zr1{X:Cx}:ZlY X ZcB (ZhB X.K) (Str.empty,0) where
 sto:=Zc1
 kind:=by
  intro A pins σ H s kk kx ks I rp rk h2 hu;obtain⟨fs,t1,t2,t3⟩:=ZnH I rp rk;refine kat_kind (T:=.type "str") t1 (by omega) (fun v hv=> ?_) rfl ⟨rfl,fun i j hi hj C hC=> ?_⟩
  ·obtain⟨n,t,rfl⟩:=t3 v hv;exact Looks.of_pure rfl
  ·obtain⟨x,r1,r2⟩:=ZiE (d:=(Str.empty,0)) rp rk i hi;obtain⟨y,r3,r4⟩:=ZiE (d:=(Str.empty,0)) rp rk j hj;obtain⟨p,rfl,hp⟩:=r1;obtain⟨q,rfl,hq⟩:=r3;cases z1:ks.getD i Value.none with
   |ref p'=>
    rw[z1] at r2
    cases r2;cases z2:ks.getD j Value.none with
    |ref q'=>
     rw[z2] at r4
     cases r4;exact Zsc I hp hq hC
    |_=>rw[z2] at r4;cases r4
   |_=>rw[z1] at r2;cases r2
end L3
namespace L3
open PySem PySem.Spec PyProof.Rows L2 PySem.W PySem.Calls
section
variable {X:Cx} {pins:List (Addr×Obj)} {σ:L2.St} {H:Hp} {s:Shared} {A:Around}
def Zr2(tl:TE):TE:=fun σ H Q=>tl σ H fun x H1=>∃a kvs,x=.ref a/\H1 a=some (.dK kvs)/\Q .non (upd H1 a (.dK []))
theorem Zou{o:PySem.Expr}{to:TE}{apos cpos:Pos}(ho:PE X o to)
  (hbase:attributeBase o "clear" X.env (eval o X.env)=eval o X.env:=by rfl)(hline:(apos.endLine==cpos.line)=true:=by rfl):PE X (.Call (.Attribute o "clear" apos) [] [] cpos) (Zr2 to):=by
 intro pins s σ H Q I h;refine wpAny_Call_method0_late hbase hline (thn (ho pins s σ H _ I h) fun v s1 ⟨x,H1,I1,r1,a,kvs,e,ha,q1⟩=> ?_);subst e;cases r1;obtain⟨h1,h2⟩:=ZkE (T:="dict") (x:=.ref a) I1 rfl (.inr (.inr (.inl ⟨rfl,.inl ⟨kvs,ha⟩⟩)));refine⟨"dict","dict.clear",F.plainAttrs_dict,F.slot_dict_clear,F.type_dict_clear,h1,h2,Calls.callWith_builtin rfl (PySem.evalArgs_none ?_)⟩;exact ZqI I1 ha fun s' I2=>⟨.non,_,I2,rfl,q1⟩
theorem ZgE{K:PySem.W.Frag}:∀{xs:List V},(∀x∈xs,Xy x=true)->ZfX K H (xs.map Dt.v) xs
 |[],_=> .nil
 |x::xs,h=> .cons (.flat (h x (List.mem_cons_self ..))) (ZgE fun y hy=>h y (List.mem_cons_of_mem _ hy))
theorem ZtI{xs:List V}{j:Nat}(h:j<xs.length):(xs.map Dt.v).getD j (.v .non)=.v xs[j]:=by
 rw[List.getD_eq_getElem?_getD,List.getElem?_map,List.getElem?_eq_getElem h]
 rfl
theorem ZpR(I:L2.Inv X pins σ H s){a b:Addr}{xs:List V}(q1:SqT X.K H a xs)(q2:SqT X.K H b xs)(f:∀x∈xs,Xy x=true)(hu:A.units<cLine):SeqAt.EqAt A s (.ref a) (.ref b) true:=by
 intro P w E Q q
 by_cases hab:a=b
 ·subst hab;exact SeqAt.EqAt.same _ P w E Q q
 ·obtain⟨us,v1,p1,_⟩:=I.tuple q1;obtain⟨vs,v2,p2,_⟩:=I.tuple q2;have e1:=v1.length;have e2:=v2.length;refine EqP.refs hab (P:=P) (w:=w) ?_ E Q q;have rc:=(Zrn (P:=P) (w:=w) (A:=A) (e:=fun _=>true) (show s.heap.IsTuple a us.toArray from p1) (show s.heap.IsTuple b vs.toArray from p2) hu (fun j h1 h2=> ?_)).1
  ·have ee:Zas us.toArray vs.toArray (fun _=>true) 0=true:=by
    unfold Zas;rw[List.size_toArray,List.size_toArray,<-e1,<-e2,beq_self_eq_true,Bool.and_true];exact List.all_eq_true.mpr fun _ _=>rfl
   rw[ee] at rc
   exact rc
  ·have l1:j<us.length:=by simpa using h1
   have l2:j<vs.length:=by simpa using h2
   obtain⟨x,a1,b1⟩:=ZeT (ZgE (K:=X.K) (H:=H) f) v1 j l1;obtain⟨y,a2,b2⟩:=ZeT (ZgE (K:=X.K) (H:=H) f) v2 j l2;rw[ZtI (by omega)] at a1 a2
   cases a1 with
   |flat fx=>
    cases a2 with
    |flat fy=>
     intro E2 Q2 q;have q':=Zih b1 b2 fx fy P w E2 Q2 (A:=A.in1) (s:=s) (by rw[Jt fx];exact q)
     simpa using q'
def ZpS(K:PySem.W.Frag)(H:Hp)(kb:List (Key×V))(kv:Key×V):Prop:=∃(p q:Addr) (xs:List V),kv.2=.ref p/\YM kb kv.1=some (.ref q)/\SqT K H p xs/\SqT K H q xs/\∀x∈xs,Xy x=true
theorem ZlZ(I:L2.Inv X pins σ H s){kb:List (Key×V)}{vb:List (Key×Value)}(rb:KV kb vb)(hu:A.units<cLine){ka:List (Key×V)}{va:List (Key×Value)}(ra:KV ka va)(fa:∀kv∈ka,ZpS X.K H kb kv):PySem.W.KeqHits A s vb va true:=by
 induction ra with
 |nil=>exact .nil
 | @cons p q ps qs h t ih=>
  obtain⟨k,v⟩:=p;obtain⟨k',u⟩:=q;obtain⟨e1,e2⟩:=h;have e1:k=k':=e1;subst e1;have e2:Ye v u:=e2;have fr:=ih fun kv hm=>fa kv (List.mem_cons_of_mem _ hm);obtain⟨pa,pb,xs,z1,z2,z3,z4,z5⟩:=fa (k,v) (List.mem_cons_self ..);have z1:v=.ref pa:=z1;subst z1;cases e2;have rv:=KV.val rb k;rw[z2] at rv
  cases hw:valueAt vb k with
  |none=>rw[hw] at rv;exact rv.elim
  |some u'=>
   rw[hw] at rv
   cases rv;exact .hit (e:=true) hw (ZpR I z3 z4 z5 hu) fr
def Zt4(K:PySem.W.Frag)(neg:Bool):R2:=fun x y H Q=>∃(a b:Addr) (ka kb:List (Key×V)),x=.ref a/\y=.ref b/\Rd H a (.dK ka)/\Rd H b (.dK kb)/\ka.length=kb.length/\(∀kv∈ka,ZpS K H kb kv)/\Q (.bl (!neg)) H
theorem Zsi(hu:X.A.units+30<cLine):OpR X (compareOp .Eq) (Zt4 X.K false):=by
 intro pins s σ H x y v u Q I rx ry h;obtain⟨a,b,ka,kb,rfl,rfl,h1,h2,el,sm,q⟩:=h;cases rx;cases ry;obtain⟨_,z1,va,r1,dd1⟩:=ZbY I.hok h1;obtain⟨_,z2,vb,r2,dd2⟩:=ZbY I.hok h2;have l1:ka.length=va.length:=Paired.length r1;have l2:kb.length=vb.length:=Paired.length r2;refine PySem.W.keq_eq z1 z2 dd1 dd2 (by omega) (fun _=>ZlZ I r2 (by show X.A.units+1<cLine;omega) r1 sm) ?_
 rw[<-l1,<-l2,el,beq_self_eq_true,Bool.true_and];exact⟨.bl _,H,I,rfl,q⟩
theorem Zsj(hu:X.A.units+30<cLine):OpR X (compareOp .NotEq) (Zt4 X.K true):=by
 intro pins s σ H x y v u Q I rx ry h;obtain⟨a,b,ka,kb,rfl,rfl,h1,h2,el,sm,q⟩:=h;cases rx;cases ry;obtain⟨_,z1,va,r1,dd1⟩:=ZbY I.hok h1;obtain⟨_,z2,vb,r2,dd2⟩:=ZbY I.hok h2;have l1:ka.length=va.length:=Paired.length r1;have l2:kb.length=vb.length:=Paired.length r2;refine PySem.W.keq_ne z1 z2 dd1 dd2 (by omega) (fun _=>ZlZ I r2 (by show X.A.units+1<cLine;omega) r1 sm) ?_
 rw[<-l1,<-l2,el,beq_self_eq_true,Bool.true_and];exact⟨.bl _,H,I,rfl,q⟩
end
end L3
namespace K30
open PySem PySem.Spec PyProof.Rows L2 L3 M1 M2 M3
set_option maxHeartbeats 5000000
def top(i:Nat):Stmt:=PySem.Challenge.pw_disposehall_k30_one_run.main.body.getD i (.Pass ⟨0,0,0,0⟩)
abbrev ZkV:Stmt:=top 14
abbrev ZkW:Stmt:=top 15
abbrev ZkX:Stmt:=top 16
abbrev ZgF:Stmt:=top 17
abbrev ZgG:Stmt:=top 19
abbrev Zfk:Stmt:=top 20
abbrev ZgH:Stmt:=top 21
abbrev Zbn:Stmt:=top 22
abbrev ZiF:Stmt:=top 24
abbrev ZiG:Stmt:=top 25
abbrev ZgI:Stmt:=top 26
abbrev ZiH:Stmt:=top 27
abbrev Zei:Stmt:=top 28
abbrev ZgJ:Stmt:=top 29
abbrev Zfl:Stmt:=top 30
abbrev Zfm:Stmt:=top 31
abbrev Zdw:Stmt:=top 32
abbrev Zfn:Stmt:=top 33
abbrev ZgK:Stmt:=top 36
abbrev Zc3:Stmt:=top 37
abbrev ZcD:Stmt:=top 39
abbrev Zej:Stmt:=top 40
abbrev ZcE:Stmt:=top 41
abbrev Zbo:Stmt:=top 42
abbrev ZcF:Stmt:=top 43
abbrev Zfo:Stmt:=top 44
abbrev ZgL:Stmt:=top 45
abbrev ZcG:Stmt:=top 46
abbrev Zek:Stmt:=top 47
abbrev Zbp:Stmt:=top 48
abbrev Zbq:Stmt:=top 49
abbrev Zdx:Stmt:=top 50
abbrev ZcH:Stmt:=top 51
abbrev Zfp:Stmt:=top 52
abbrev Zel:Stmt:=top 53
abbrev Zfq:Stmt:=top 54
abbrev Zdy:Stmt:=top 55
abbrev Zdz:Stmt:=top 56
abbrev ZdA:Stmt:=top 57
abbrev ZgM:Stmt:=top 58
abbrev Zbr:Stmt:=top 60
abbrev Zg1:Stmt:=top 61
abbrev Zem:Stmt:=Xl (top 9) 0
abbrev Zc4:Stmt:=Xl (top 9) 2
abbrev ZdB:Stmt:=Xl (top 10) 0
abbrev Zen:Stmt:=Xl (top 10) 1
abbrev Zc5:Stmt:=Xl (top 10) 3
abbrev Zcq:Stmt:=Xl (top 11) 0
abbrev Zb1:Stmt:=Xl (top 11) 1
abbrev Zeo:Stmt:=Xl (top 12) 0
abbrev ZcI:Stmt:=Xl (top 13) 0
abbrev ZdC:Stmt:=Xl (top 35) 0
abbrev ZdD:Stmt:=Xl (top 35) 1
abbrev Zab:Stmt:=Xl (top 35) 2
abbrev ZaN:Stmt:=Xl (top 35) 3
abbrev Zac:Stmt:=Xl (top 35) 4
abbrev Zav:Stmt:=Xl (top 35) 5
abbrev Zep:Stmt:=Xl (top 35) 6
abbrev Zc6:Stmt:=Xl (top 35) 7
abbrev Zbs:Stmt:=Xl (top 35) 8
abbrev ZdE:Stmt:=Xl (top 35) 9
abbrev ZdF:Stmt:=Xl (top 35) 10
structure Txt (K:PySem.W.Frag) (mg:Str->Option Value) (Zj:Addr) (Zg:Addr) (Zh:Addr) (Zb:Addr) (Zo:Addr):Prop where
 z_abs:mg "abs"=none
 z_any:mg "any"=none
 z_bool:mg "bool"=none
 z_dict:mg "dict"=none
 z_int:mg "int"=none
 z_isinstance:mg "isinstance"=none
 z_len:mg "len"=none
 z_list:mg "list"=none
 z_max:mg "max"=none
 z_min:mg "min"=none
 z_range:mg "range"=none
 z_reversed:mg "reversed"=none
 z_sorted:mg "sorted"=none
 z_str:mg "str"=none
 z_tuple:mg "tuple"=none
 kib:PySem.W.kitOne K (.type "int") (.type "bool")=some false
 kii:PySem.W.kitOne K (.type "int") (.type "int")=some true
 kll:PySem.W.kitOne K (.type "list") (.type "list")=some true
 ktt:PySem.W.kitOne K (.type "tuple") (.type "tuple")=some true
 kss:PySem.W.kitOne K (.type "str") (.type "str")=some true
 cl_Never:Cls K Zj
 ty_Never:TyC K Zj
 cl_After:Cls K Zg
 n_After_kind:YS K Zg "kind"
 n_After_days:YS K Zg "days"
 ty_After:TyC K Zg
 cl_Later:Cls K Zh
 n_Later_one:YS K Zh "one"
 n_Later_other:YS K Zh "other"
 ty_Later:TyC K Zh
 cl_Earlier:Cls K Zb
 n_Earlier_one:YS K Zb "one"
 n_Earlier_other:YS K Zb "other"
 ty_Earlier:TyC K Zb
 cl_House:Cls K Zo
 n_House_book:YS K Zo "book"
 n_House_told:YS K Zo "told"
 n_House_own:YS K Zo "own"
 n_House_holdings:YS K Zo "holdings"
 n_House_run_days:YS K Zo "run_days"
 n_House_taken:YS K Zo "taken"
 n_House_words:YS K Zo "words"
 ty_House:TyC K Zo
 ne_Never_After:Zj≠Zg
 ne_Never_Later:Zj≠Zh
 ne_Never_Earlier:Zj≠Zb
 Z03:Zj≠Zo
 ne_After_Later:Zg≠Zh
 ne_After_Earlier:Zg≠Zb
 Z04:Zg≠Zo
 ne_Later_Earlier:Zh≠Zb
 Z05:Zh≠Zo
 X4:Zb≠Zo
theorem YZ:100000<=sizeLine:=by rw[sizeLine_eq];decide
theorem sl{n:Nat}(h:n<=100000:=by decide):n<=sizeLine:=Nat.le_trans h YZ
theorem Zk{H:Hp}{p:Addr}{o:HO}(h:H p=none):Zy H (upd H p o):=fun b u e=>by rw[Zm (Zf e h)];exact e
theorem Zr3(x:Str)(c:Nat):(x++⟨#[c]⟩:Str).length=x.length+1:=strLen_append x ⟨#[c]⟩
theorem Zg2{α:Type}{xs:List α}{i:Int}(h0: -(xs.length:Int)<=i)(h1:i<xs.length):∃v,atI xs i=some v:=by
 unfold atI ixN
 by_cases h:0<=i
 ·rw[if_pos h,if_pos h1];exact⟨_,List.getElem?_eq_getElem (by omega)⟩
 ·rw[if_neg h,if_pos h0];exact⟨_,List.getElem?_eq_getElem (by omega)⟩
theorem ZiI{ns:List Int}{i:Int}(h0: -(ns.length:Int)<=i)(h1:i<ns.length):∃c,c∈ns/\atI (ns.map V.int) i=some (.int c):=by
 obtain⟨v,e⟩:=Zg2 (xs:=ns.map V.int) (i:=i) (by rw[List.length_map];exact h0) (by rw[List.length_map];exact h1)
 obtain⟨j,_,hj,_⟩:=ZeQ e;rw[List.getElem?_map] at hj
 cases q:ns[j]? with
 |none=>rw[q] at hj;cases hj
 |some c=>
  rw[q] at hj
  cases hj;exact⟨c,List.mem_of_getElem? q,e⟩
theorem Zov{Q:VK}{a b:V}{H:Hp}(q:Q a H)(e:a=b):Q b H:=e▸q
theorem Zb9{c A B:Prop} [Decidable c](hc:c)(h:A):if decide c=true then A else B:=by
 rw[decide_eq_true hc];exact XX h
theorem Zr4(k:Nat):((10:Int)^k)=((10^k:Nat):Int):=by simp
theorem ZpT{k:Int}(h0:0<=k)(h1:k<=1000):ZsD 10 k:=⟨h0,by omega,by decide⟩
theorem pow_pos(k:Nat):(0:Int)<10^k:=by rw[Zr4];exact Int.natCast_pos.mpr (Nat.pow_pos (by decide))
theorem ixT{K:PySem.W.Frag}{i:Nat}{j:Int}{σ:L2.St}{H:Hp}{Q:VK}{a:Addr}{xs:List V}{v:V}(e:σ[i]? =some (some (.ref a)))(h:SqT K H a xs)(m:atI xs j=some v)(k:Q v H):tOp (ZrO K) (Zo5 i) (tC (.int j)) σ H Q:=⟨_,e,a,_,_,_,rfl,rfl,h,m,k⟩
theorem vI{C:Int->Int->Prop}{g:Int->Int->V}{i:Nat}{σ:L2.St}{H:Hp}{Q:VK}{a k:Int}(e:σ[i]? =some (some (.int a)))(c:C a k)(q:Q (g a k) H):tOp (rI C g) (Zo5 i) (tC (.int k)) σ H Q:=⟨_,e,a,k,rfl,rfl,c,q⟩
theorem vEq{i:Nat}{σ:L2.St}{H:Hp}{k:Bool->Hp->Prop}{x v:V}(e:σ[i]? =some (some x))(f:Zqu x v=true)(q:k (decide (x=v)) H):Zri (tOp rEq (Zo5 i) (tC v)) σ H k:=⟨_,e,f,_,rfl,q⟩
def Nm(z:Str):Prop:=1<=z.length/\z.length<=12/\∀c∈cs z,97<=c/\c<=122
def Zd4(n k at_:Int)(j:Nat):Nat:=97+((n/((j:Int)+3)+(j:Int)*(j:Int)+k*(if(j:Int)=at_ then 1 else 0))%26).toNat
def Zeq(n k:Int)(j:Nat):Nat:=97+(((j:Int)+k)%12+n/432%14).toNat
def Zg3(n k:Int):List Nat:=
 if n/144%3=1 then(List.range 12).map (Zeq n k)
 else if n/144%3=0 then(List.range (1+k%12).toNat).map (Zd4 n k 12)
 else(List.range (1+n%12).toNat).map (Zd4 n k (n/12%(1+n%12)))
def ZbD(n k:Int):Str:=⟨(Zg3 n k).toArray⟩
theorem Zg4(n k:Int):cs (ZbD n k)=Zg3 n k:=rfl
def Ji:Sp:=fun vs H Q _=>∃n k:Int,vs=[.int n,.int k]/\∀H',Zy H H'->Q (.str (ZbD n k)) H'
theorem Zt5(n k a:Int)(j:Nat):97<=Zd4 n k a j/\Zd4 n k a j<=122:=by
 unfold Zd4;have h0:=Int.emod_nonneg (n/((j:Int)+3)+(j:Int)*(j:Int)+k*(if(j:Int)=a then 1 else 0)) (show(26:Int)≠0 by decide);have h1:=Int.emod_lt_of_pos (n/((j:Int)+3)+(j:Int)*(j:Int)+k*(if(j:Int)=a then 1 else 0)) (show(0:Int)<26 by decide);omega
theorem Zt6(n k:Int)(j:Nat):97<=Zeq n k j/\Zeq n k j<=122:=by
 unfold Zeq;have h0:=Int.emod_nonneg ((j:Int)+k) (show(12:Int)≠0 by decide);have h1:=Int.emod_lt_of_pos ((j:Int)+k) (show(0:Int)<12 by decide);have h2:=Int.emod_nonneg (n/432) (show(14:Int)≠0 by decide);have h3:=Int.emod_lt_of_pos (n/432) (show(0:Int)<14 by decide);omega
theorem Zm0(n k:Int):Nm (ZbD n k):=by
 have a0:=Int.emod_nonneg n (show(12:Int)≠0 by decide);have a1:=Int.emod_lt_of_pos n (show(0:Int)<12 by decide);have b0:=Int.emod_nonneg k (show(12:Int)≠0 by decide);have b1:=Int.emod_lt_of_pos k (show(0:Int)<12 by decide);have key:∀l:List Nat,cs (ZbD n k)=l->1<=l.length->l.length<=12->(∀c∈l,97<=c/\c<=122)->Nm (ZbD n k):=fun l e h1 h2 h3=>⟨by rw[ZmL,e];exact h1,by rw[ZmL,e];exact h2,by rw[e];exact h3⟩
 refine key (Zg3 n k) (Zg4 n k) ?_ ?_ ?_<;>unfold Zg3<;>split
 ·rw[List.length_map,List.length_range];decide
 ·split
  ·rw[List.length_map,List.length_range];omega
  ·rw[List.length_map,List.length_range];omega
 ·rw[List.length_map,List.length_range];decide
 ·split
  ·rw[List.length_map,List.length_range];omega
  ·rw[List.length_map,List.length_range];omega
 ·intro c hc;obtain⟨j,_,rfl⟩:=List.mem_map.mp hc;exact Zt6 n k j
 ·split<;>(intro c hc;obtain⟨j,_,rfl⟩:=List.mem_map.mp hc;exact Zt5 ..)
theorem Zow{n k k':Int}(h0:0<=k)(h1:k<12)(h0':0<=k')(h1':k'<12)(h:ZbD n k=ZbD n k'):k=k':=by
 have h:Zg3 n k=Zg3 n k':=by rw[<-Zg4,<-Zg4,h]
 unfold Zg3 at h
 by_cases w1:n/144%3=1
 ·rw[if_pos w1,if_pos w1] at h
  have h:Zeq n k 0=Zeq n k' 0:=congrArg (fun l=>l.headD 0) h;unfold Zeq at h
  have h2:=Int.emod_nonneg (n/432) (show(14:Int)≠0 by decide);have e1:((0:Nat):Int)+k=k:=by omega
  have e2:((0:Nat):Int)+k'=k':=by omega
  rw[e1,e2,Int.emod_eq_of_lt h0 h1,Int.emod_eq_of_lt h0' h1'] at h
  omega
 ·rw[if_neg w1,if_neg w1] at h
  by_cases w0:n/144%3=0
  ·rw[if_pos w0,if_pos w0] at h
   have h:=congrArg List.length h;rw[List.length_map,List.length_map,List.length_range,List.length_range,Int.emod_eq_of_lt h0 h1,Int.emod_eq_of_lt h0' h1'] at h
   omega
  ·rw[if_neg w0,if_neg w0] at h
   have a0:=Int.emod_nonneg n (show(12:Int)≠0 by decide);have pos:(0:Int)<1+n%12:=by omega
   have t0:=Int.emod_nonneg (n/12) (Int.ne_of_gt pos);have t1:=Int.emod_lt_of_pos (n/12) pos;obtain⟨a,ea⟩:∃a:Nat,n/12%(1+n%12)=(a:Int):=⟨(n/12%(1+n%12)).toNat,by omega⟩
   rw[ea] at h t0 t1
   have lt:a<(1+n%12).toNat:=by omega
   have h:((List.range (1+n%12).toNat).map (Zd4 n k a))[a]? =((List.range (1+n%12).toNat).map (Zd4 n k' a))[a]? :=by rw[h]
   rw[List.getElem?_map,List.getElem?_map,List.getElem?_range lt] at h
   have h:Zd4 n k a a=Zd4 n k' a a:=Option.some.inj h;unfold Zd4 at h
   rw[if_pos rfl] at h
   generalize n/((a:Int)+3)+(a:Int)*(a:Int)=b at h
   have x0:=Int.emod_nonneg (b+k*1) (show(26:Int)≠0 by decide);have y0:=Int.emod_nonneg (b+k'*1) (show(26:Int)≠0 by decide);omega
inductive Tr where
 |never|after (k:Str) (d:Int)|later (x y:Tr)|earlier (x y:Tr)
def Tr.deep:Tr->Nat
 | .never=>0
 | .after _ _=>0
 | .later x y=>max x.deep y.deep+1
 | .earlier x y=>max x.deep y.deep+1
def Tr.cnt:Tr->Nat
 | .never=>1
 | .after _ _=>1
 | .later x y=>x.cnt+y.cnt
 | .earlier x y=>x.cnt+y.cnt
def Tr.lvs:Tr->List (Str×Int)
 | .never=>[]
 | .after k d=>[(k,d)]
 | .later x y=>x.lvs++y.lvs
 | .earlier x y=>x.lvs++y.lvs
def ZpU:Option Int->Option Int->Option Int
 |some a,some b=>some (if b>a then b else a)
 |_,_=>none
def Zm1:Option Int->Option Int->Option Int
 |none,o=>o
 |some a,none=>some a
 |some a,some b=>some (if b<a then b else a)
def Tr.due(l:Tb):Tr->Option Int
 | .never=>none
 | .after k d=>(lk l k).map (· +d)
 | .later x y=>ZpU (x.due l) (y.due l)
 | .earlier x y=>Zm1 (x.due l) (y.due l)
def oV:Option Int->V
 |some i=> .int i
 |none=> .non
def fA(k:Str)(d:Int):List (Str×V):=ZP "days" (.int d) (ZP "kind" (.str k) [])
def fP(p q:Addr):List (Str×V):=ZP "other" (.ref q) (ZP "one" (.ref p) [])
def Xh(cn ca cl ce:Addr)(H:Hp):Tr->Addr->Prop
 | .never,a=>∃dx,H a=some (.ins cn dx [])
 | .after k d,a=>∃dx,H a=some (.ins ca dx (fA k d))
 | .later x y,a=>∃dx p q,H a=some (.ins cl dx (fP p q))/\Xh cn ca cl ce H x p/\Xh cn ca cl ce H y q
 | .earlier x y,a=>∃dx p q,H a=some (.ins ce dx (fP p q))/\Xh cn ca cl ce H x p/\Xh cn ca cl ce H y q
def Zhl(cn ca cl ce:Addr):Tr->Addr
 | .never=>cn
 | .after _ _=>ca
 | .later _ _=>cl
 | .earlier _ _=>ce
def ZhC(H:Hp)(p:Addr)(ls:List (Str×Int)):Prop:=∃ys,H p=some (.lst ys)/\Paired (fun(kd:Str×Int) y=>∃q,y=V.ref q/\H q=some (.tup [.str kd.1,.int kd.2])) ls ys
def ZcJ(C:Addr):Sp:=fun vs H Q _=>∃(x dx:Addr) (k:Str) (d:Int),vs=[.ref x,.str k,.int d]/\H x=some (.ins C dx [])/\Q .non (upd H x (.ins C dx (fA k d)))
def Zaw(C:Addr):Sp:=fun vs H Q _=>∃(x dx p q:Addr),vs=[.ref x,.ref p,.ref q]/\H x=some (.ins C dx [])/\Q .non (upd H x (.ins C dx (fP p q)))
def ZiJ(cn ca cl ce:Addr):Sp:=fun vs H Q _=>vs=[]/\∀a H',Zy H H'->H a=none->Xh cn ca cl ce H' .never a->Q (.ref a) H'
def ZiK(cn ca cl ce:Addr):Sp:=fun vs H Q _=>∃(k:Str) (d:Int),vs=[.str k,.int d]/\∀a H',Zy H H'->H a=none->Xh cn ca cl ce H' (.after k d) a->Q (.ref a) H'
def ZiL(cn ca cl ce:Addr):Sp:=fun vs H Q _=>∃(p q:Addr) (x y:Tr),vs=[.ref p,.ref q]/\Xh cn ca cl ce H x p/\Xh cn ca cl ce H y q/\∀a H',Zy H H'->H a=none->Xh cn ca cl ce H' (.later x y) a->Q (.ref a) H'
def Zfr(cn ca cl ce:Addr):Sp:=fun vs H Q _=>∃(p q:Addr) (x y:Tr),vs=[.ref p,.ref q]/\Xh cn ca cl ce H x p/\Xh cn ca cl ce H y q/\∀a H',Zy H H'->H a=none->Xh cn ca cl ce H' (.earlier x y) a->Q (.ref a) H'
def ZcK(cn ca cl ce:Addr)(n:Nat)(C:Addr):Sp:=fun vs H Q _=>∃(a b:Addr) (t:Tr) (l:Tb),vs=[.ref a,.ref b]/\Xh cn ca cl ce H t a/\t.deep<n/\Zhl cn ca cl ce t=C/\Rd H b (.dK (kk l))/\∀H',Zy H H'->Q (oV (t.due l)) H'
def Zaj(cn ca cl ce:Addr)(n:Nat)(C:Addr):Sp:=fun vs H Q _=>∃(a:Addr) (t:Tr),vs=[.ref a]/\Xh cn ca cl ce H t a/\t.deep<n/\t.cnt<=100/\Zhl cn ca cl ce t=C/\∀p H',Zy H H'->H p=none->ZhC H' p t.lvs->Q (.ref p) H'
theorem Zg5{cn ca cl ce C:Addr}:∀vs H Q E,¬ZcK cn ca cl ce 0 C vs H Q E:=fun _ _ _ _ ⟨_,_,t,_,_,_,z,_⟩=>Nat.not_lt_zero t.deep z
theorem Zcr{cn ca cl ce C:Addr}:∀vs H Q E,¬Zaj cn ca cl ce 0 C vs H Q E:=fun _ _ _ _ ⟨_,t,_,_,z,_⟩=>Nat.not_lt_zero t.deep z
def Tr.good:Tr->Prop
 | .never=>True
 | .after k d=>Nm k/\0<=d/\d<10^40
 | .later x y=>x.good/\y.good
 | .earlier x y=>x.good/\y.good
def Jf(H:Hp):Tr->Addr->Prop
 | .never,a=>H a=some (.tup [.str (Str.ofString "never")])
 | .after k d,a=>H a=some (.tup [.str (Str.ofString "after"),.str k,.int d])
 | .later x y,a=>∃p q,H a=some (.tup [.str (Str.ofString "later"),.ref p,.ref q])/\Jf H x p/\Jf H y q
 | .earlier x y,a=>∃p q,H a=some (.tup [.str (Str.ofString "earlier"),.ref p,.ref q])/\Jf H x p/\Jf H y q
def Zba(cn ca cl ce:Addr)(n:Nat):Sp:=fun vs H Q _=>∃(a:Addr) (t:Tr),vs=[.ref a]/\Jf H t a/\t.deep<n/\∀p H',Zy H H'->Xh cn ca cl ce H' t p->Q (.ref p) H'
def Zc7(n:Nat):Sp:=fun vs H Q _=>∃(a b:Addr) (t:Tr) (l:Tb),vs=[.ref a,.ref b]/\Jf H t a/\t.deep<n/\Rd H b (.dK (kk l))/\∀H',Zy H H'->Q (oV (t.due l)) H'
theorem Zjv{cn ca cl ce:Addr}:∀vs H Q E,¬Zba cn ca cl ce 0 vs H Q E:=fun _ _ _ _ ⟨_,t,_,_,z,_⟩=>Nat.not_lt_zero t.deep z
theorem ZkY:∀vs H Q E,¬Zc7 0 vs H Q E:=fun _ _ _ _ ⟨_,_,t,_,_,_,z,_⟩=>Nat.not_lt_zero t.deep z
def ZaO:Sp:=fun vs H Q _=>∃c:Int,vs=[.int c]/\∀(d:Int) H',0<=d->d<10^40->Zy H H'->Q (.int d) H'
def Zc8:Sp:=fun vs H Q _=>∃(a:Addr) (ns:List Int) (b:Int) (mo:Nat),vs=[.ref a,.int b,.int (mo:Int)]/\H a=some (.lst (ns.map V.int))/\ns.length<=1000/\1<=mo/\mo<=15/\∀p (t:Tr) H',Zy H H'->Jf H' t p->t.cnt<=mo->t.good->Q (.ref p) H'
structure Sr where
 nm:Str
 el:Option Str
 tm:Option Tr
def oS:Option Str->V
 |some z=> .str z
 |none=> .non
structure Sr.good (r:Sr):Prop where
 nm:Nm r.nm
 el:∀e,r.el=some e->Nm e
 tm:∀t,r.tm=some t->t.good/\t.cnt<=9
 some:r.el=none->r.tm≠none
def Jx:List Str->List Sr->Prop
 |_,[]=>True
 |ns,r::rs=>r.good/\r.nm∉ns/\(∀e,r.el=some e->e∈ns)/\Jx (ns++[r.nm]) rs
def Zt7(cn ca cl ce:Addr)(H:Hp):Option Tr->V->Prop
 |some t,v=>∃a,v=.ref a/\Xh cn ca cl ce H t a
 |none,v=>v=.non
def Ze5(cn ca cl ce:Addr)(H:Hp)(d:Addr)(r:Sr):Prop:=∃v,H d=some (.tup [.str r.nm,oS r.el,v])/\Zt7 cn ca cl ce H r.tm v
def Zg6(cn ca cl ce:Addr)(H:Hp)(p:Addr)(rs:List Sr):Prop:=∃ds:List Addr,H p=some (.lst (ds.map V.ref))/\Paired (Ze5 cn ca cl ce H) ds rs
def Jg:List Sr->Option Str->List Str
 |[],_=>[]
 |r::rr,w=>if some r.nm=w then r.nm::Jg rr r.el else Jg rr w
def Zer:List Sr->Option Str->Option Sr
 |[],_=>none
 |r::rr,w=>if some r.nm=w then(if r.tm.isSome=true then some r else Zer rr r.el) else Zer rr w
def BkR:List Sr->Prop
 |[]=>True
 |r::rr=>r.good/\r.nm∉rr.map Sr.nm/\(∀e,r.el=some e->e∈rr.map Sr.nm)/\BkR rr
def Zfs(cn ca cl ce:Addr):Sp:=fun vs H Q _=>∃(p:Addr) (n:Str) (rs:List Sr),vs=[.ref p,.str n]/\Zg6 cn ca cl ce H p rs/\rs.length<=63/\∀L H',H L=none->Zy H H'->H' L=some (.lst ((Jg rs.reverse (some n)).map V.str))->Q (.ref L) H'
def JW(cn ca cl ce:Addr):Sp:=fun vs H Q _=>∃(p:Addr) (n:Str) (rs:List Sr) (r:Sr),vs=[.ref p,.str n]/\Zg6 cn ca cl ce H p rs/\rs.length<=63/\Zer rs.reverse (some n)=some r/\∀d H',Zy H H'->Ze5 cn ca cl ce H' d r->Q (.ref d) H'
def Zes(cn ca cl ce:Addr):Sp:=fun vs H Q _=>∃(p:Addr) (n:Str) (rs:List Sr) (r:Sr),vs=[.ref p,.str n]/\Zg6 cn ca cl ce H p rs/\rs.length<=63/\Zer rs.reverse (some n)=some r/\∀H',Zy H H'->Q (.str r.nm) H'
def ZdG(cn ca cl ce:Addr):Sp:=fun vs H Q _=>∃(p:Addr) (n:Str) (rs:List Sr) (r:Sr) (t:Tr),vs=[.ref p,.str n]/\Zg6 cn ca cl ce H p rs/\rs.length<=63/\Zer rs.reverse (some n)=some r/\r.tm=some t/\∀a H',Zy H H'->Xh cn ca cl ce H' t a->Q (.ref a) H'
inductive Rw where
 |put (r s:Str) (d:Int)|move (r s:Str) (d:Int)|deed (r k:Str) (d:Int)|lift (h:Str) (d:Int)|hold (h:Str) (rec:Bool) (n:Str) (d:Int)
def Rw.day:Rw->Int
 | .put _ _ d=>d
 | .move _ _ d=>d
 | .deed _ _ d=>d
 | .lift _ d=>d
 | .hold _ _ _ d=>d
def Rw.word:Rw->Str
 | .put _ _ _=>"put"
 | .move _ _ _=>"move"
 | .deed _ _ _=>"deed"
 | .lift _ _=>"lift"
 | .hold _ _ _ _=>"hold"
def Rw.one:Rw->Str
 | .put r _ _=>r
 | .move r _ _=>r
 | .deed r _ _=>r
 | .lift h _=>h
 | .hold h _ _ _=>h
def onW(rec:Bool):Str:=if rec=true then "record" else "series"
def Rw.vs:Rw->List V
 | .put r s d=>[.str "put",.str r,.str s,.int d]
 | .move r s d=>[.str "move",.str r,.str s,.int d]
 | .deed r k d=>[.str "deed",.str r,.str k,.int d]
 | .lift h d=>[.str "lift",.str h,.int d]
 | .hold h rec n d=>[.str "hold",.str h,.str (onW rec),.str n,.int d]
def Zd5(H:Hp)(a:Addr)(w:Rw):Prop:=H a=some (.tup w.vs)
def Ys(H:Hp)(p:Addr)(ws:List Rw):Prop:=∃ds:List Addr,H p=some (.lst (ds.map V.ref))/\Paired (Zd5 H) ds ws
def ZL(ws:List Rw)(day:Int):List Rw:=ws.filter fun w=>decide (w.day<=day)
def Zbb(r:Str):Rw->Bool
 | .put x _ _=>decide (x=r)
 |_=>false
def YL(ws:List Rw)(r:Str):Bool:=ws.any (Zbb r)
def ZaP(r:Str):Rw->Option ZaI
 | .put x s d=>if x=r then some (d,s) else none
 | .move x s d=>if x=r then some (d,s) else none
 |_=>none
def Ym(ws:List Rw)(r:Str):List ZaI:=ws.filterMap (ZaP r)
def Top(ys:List ZaI)(y:ZaI):Prop:=y∈ys/\∀z∈ys,Zju y z=false
theorem Top.one{ys:List ZaI}{y z:ZaI}(h:Top ys y)(k:Top ys z):y=z:=by
 rcases Zc2.tri y z with a|a|a
 ·rw[h.2 z k.1] at a;cases a
 ·exact a
 ·rw[k.2 y h.1] at a;cases a
def Xa(r:Str)(l:Tb):Rw->Tb
 | .put x _ d=>if x=r then Zhy l "put" (max d ((lk l "put").getD d)) else l
 | .deed x k d=>if x=r then Zhy l k (max d ((lk l k).getD d)) else l
 |_=>l
def Yc(ws:List Rw)(r:Str):Tb:=ws.foldl (Xa r) []
def Zad:Rw->Option Str
 | .lift h _=>some h
 |_=>none
def Xi(ws:List Rw):List Str:=ws.filterMap Zad
def Jp(ls:List Str):Rw->Bool
 | .hold h _ _ _=>decide (h∉ls)
 |_=>false
def Yy(ws:List Rw):List Rw:=ws.filter (Jp (Xi ws))
def ZaQ(r:Str)(line:List Str):Rw->Bool
 | .hold _ true n _=>decide (n=r)
 | .hold _ false n _=>decide (n∈line)
 |_=>false
def Yw(ws:List Rw)(r:Str)(line:List Str):List Str:=((Yy ws).filter (ZaQ r line)).map Rw.one
def JD(due:Option Int)(many:Nat)(day:Int):Str:=match due with
 |none=>"kept"
 |some d=>if day<d then "kept" else if 0<many then "held" else "due"
def ZaR:Sp:=fun vs H Q _=>∃(p:Addr) (ws:List Rw) (day:Int),vs=[.ref p,.int day]/\Ys H p ws/\ws.length<=1000/\∀q H',H q=none->Zy H H'->Ys H' q (ZL ws day)->Q (.ref q) H'
def Zd6:Sp:=fun vs H Q _=>∃(p:Addr) (ws:List Rw) (r:Str),vs=[.ref p,.str r]/\Ys H p ws/\ws.length<=1000/\∀H',Zy H H'->Q (.bl (YL ws r)) H'
def ZbJ:Sp:=fun vs H Q _=>∃(p:Addr) (ws:List Rw) (r:Str) (y:ZaI),vs=[.ref p,.str r]/\Ys H p ws/\ws.length<=1000/\Top (Ym ws r) y/\∀H',Zy H H'->Q (.str y.2) H'
def ZdH:Sp:=fun vs H Q _=>∃(p:Addr) (ws:List Rw) (r:Str),vs=[.ref p,.str r]/\Ys H p ws/\ws.length<=1000/\∀q H',H q=none->Zy H H'->H' q=some (.dK (kk (Yc ws r)))->Q (.ref q) H'
def Zbc:Sp:=fun vs H Q _=>∃(p:Addr) (ws:List Rw),vs=[.ref p]/\Ys H p ws/\ws.length<=1000/\∀q H',H q=none->Zy H H'->Ys H' q (Yy ws)->Q (.ref q) H'
def ZcL:Sp:=fun vs H Q _=>∃(a o:Addr) (h n:Str) (rec:Bool) (d:Int) (r:Str) (line:List Str) (kvs:List (Key×V)),vs=[.ref a,.str r,.ref o]/\Zd5 H a (.hold h rec n d)/\H o=some (.dK kvs)/\(∀z,Zhv H o (.str z) (if z∈line then some (V.bl true) else none))/\∀H',Zy H H'->Q (.bl (ZaQ r line (.hold h rec n d))) H'
def Zet:Sp:=fun vs H Q _=>∃(p l:Addr) (ws:List Rw) (r:Str) (line:List Str),vs=[.ref p,.str r,.ref l]/\Ys H p ws/\ws.length<=1000/\H l=some (.lst (line.map V.str))/\line.length<=63/\(Yw ws r line).length<64/\
 ∀q zs H',H q=none->Zy H H'->zs.Perm (Yw ws r line)->sortedS zs=true->H' q=some (.lst (zs.map V.str))->Q (.ref q) H'
def Zeu:Sp:=fun vs H Q _=>∃(q:Addr) (zs:List Str) (due:Option Int) (day:Int),vs=[oV due,.ref q,.int day]/\H q=some (.lst (zs.map V.str))/\∀H',Zy H H'->Q (.str (JD due zs.length day)) H'
structure Jd where
 word:Str
 ser:Option Str
 own:Option Str
 due:Option Int
 holds:List Str
def ZhW:Jd:=⟨"absent",none,none,none,[]⟩
def Zt8(H:Hp)(a:Addr)(j:Jd):Prop:=∃L,H a=some (.tup [.str j.word,oS j.ser,oS j.own,oV j.due,.ref L])/\H L=some (.lst (j.holds.map V.str))
structure IsJ (rs:List Sr) (ws:List Rw) (rec:Str) (day:Int) (j:Jd):Prop where
 no:YL (ZL ws day) rec=false->j=ZhW
 yes:YL (ZL ws day) rec=true->∃(y:ZaI) (r0:Sr) (t:Tr),Top (Ym (ZL ws day) rec) y/\Zer rs.reverse (some y.2)=some r0/\r0.tm=some t/\j.ser=some y.2/\j.own=some r0.nm/\j.due=t.due (Yc (ZL ws day) rec)/\
  j.holds.Perm (Yw (ZL ws day) rec (Jg rs.reverse (some y.2)))/\sortedS j.holds=true/\j.word=JD j.due j.holds.length day
def JH:Rw->Bool
 | .hold _ _ _ _=>true
 |_=>false
structure ZdI (rs:List Sr) (ws:List Rw):Prop where
 len:ws.length<=1000
 held:(ws.filter JH).length<64
 ser:∀r,∀y∈Ym ws r,y.2∈rs.map Sr.nm
def ZeW(cn ca cl ce:Addr):Sp:=fun vs H Q _=>∃(p q:Addr) (rs:List Sr) (ws:List Rw) (rec:Str) (day:Int),vs=[.ref p,.ref q,.str rec,.int day]/\Zg6 cn ca cl ce H p rs/\Jx [] rs/\rs.length<=63/\Ys H q ws/\ZdI rs ws/\
 ∀a j H',H a=none->Zy H H'->Zt8 H' a j->(∀L,H' a=some (.tup [.str j.word,oS j.ser,oS j.own,oV j.due,.ref L])->H L=none)->IsJ rs ws rec day j->Q (.ref a) H'
def ZdJ:Sp:=fun vs H Q _=>∃i:Int,vs=[.int i]/\∀H',Zy H H'->Q (.bl true) H'
def Zt9(H:Hp):Option Tr->V->Prop
 |some t,v=>∃a,v=.ref a/\Jf H t a
 |none,v=>v=.non
def ZiM(H:Hp)(d:Addr)(r:Sr):Prop:=∃v,H d=some (.tup [.str r.nm,oS r.el,v])/\Zt9 H r.tm v
def LBk(H:Hp)(p:Addr)(rs:List Sr):Prop:=∃ds:List Addr,H p=some (.lst (ds.map V.ref))/\Paired (ZiM H) ds rs
def Zax(K:PySem.W.Frag):Sp:=fun vs H Q _=>∃(a:Addr) (ns:List Int) (k:Nat),vs=[.ref a,.int (k:Int)]/\SqL K H a (ns.map V.int)/\∀H',Zy H H'->Q (.int (ns[k]?.getD 0)) H'
def Zc9(K:PySem.W.Frag):Sp:=fun vs H Q _=>∃(a:Addr) (ns:List Int) (b:Int),vs=[.ref a,.int b]/\SqL K H a (ns.map V.int)/\∀p rs H',H p=none->Zy H H'->LBk H' p rs->Jx [] rs->1<=rs.length->rs.length<=8->Q (.ref p) H'
def ZdK(cn ca cl ce:Addr):Sp:=fun vs H Q _=>∃(p:Addr) (rs:List Sr),vs=[.ref p]/\LBk H p rs/\rs.length<=8/\(∀r∈rs,r.good)/\∀q H',H q=none->Zy H H'->Zg6 cn ca cl ce H' q rs->Q (.ref q) H'
def ZaS:Sp:=fun vs H Q _=>∃n b:Int,vs=[.int n,.int b]/\∀(z:Str) H',Zy H H'->Q (.str z) H'
def ZaT:Sp:=fun vs H Q _=>∃c b:Int,vs=[.int c,.int b]/\∀(n:Int) H',0<=n->Zy H H'->Q (.int n) H'
def Zcs:Sp:=fun vs H Q _=>∃(p:Addr) (n:Str) (rs:List Sr),vs=[.ref p,.str n]/\LBk H p rs/\Jx [] rs/\rs.length<=8/\n∈rs.map Sr.nm/\∀L H',H L=none->Zy H H'->H' L=some (.lst ((Jg rs.reverse (some n)).map V.str))->Q (.ref L) H'
def ZbK:Sp:=fun vs H Q _=>∃(p:Addr) (n:Str) (rs:List Sr) (r:Sr),vs=[.ref p,.str n]/\LBk H p rs/\Jx [] rs/\rs.length<=8/\n∈rs.map Sr.nm/\Zer rs.reverse (some n)=some r/\∀d H',Zy H H'->ZiM H' d r->Q (.ref d) H'
def Zct:Sp:=fun vs H Q _=>∃(p:Addr) (ws:List Rw) (r:Str) (day:Int),vs=[.ref p,.str r,.int day]/\Ys H p ws/\ws.length<=1000/\∀q H',H q=none->Zy H H'->H' q=some (.dK (kk (Yc (ZL ws day) r)))->Q (.ref q) H'
def Zb2:Sp:=fun vs H Q _=>∃(p q:Addr) (rs:List Sr) (ws:List Rw) (rec:Str) (day:Int),vs=[.ref p,.ref q,.str rec,.int day]/\LBk H p rs/\Jx [] rs/\rs.length<=8/\Ys H q ws/\ZdI rs ws/\∀a j H',Zy H H'->Zt8 H' a j->IsJ rs ws rec day j->Q (.ref a) H'
def Za5(n:Nat):Sp:=fun vs H Q _=>∃(a:Addr) (t:Tr),vs=[.ref a]/\Jf H t a/\t.deep<n/\t.cnt<=100/\∀p H',Zy H H'->H p=none->ZhC H' p t.lvs->Q (.ref p) H'
theorem ZhD:∀vs H Q E,¬Za5 0 vs H Q E:=fun _ _ _ _ ⟨_,t,_,_,z,_⟩=>Nat.not_lt_zero t.deep z
def Xn(l:Tb)(D:Int)(kd:Lf):Bool:=decide ((lk l kd.1).map (· +kd.2)=some D)
def Zcu(l:Tb)(D:Int)(ls:List Lf):List Lf:=ls.filter (Xn l D)
structure Zm2 (rs:List Sr) (ws:List Rw) (rec:Str) (day:Int) (H:Hp) (v:V):Prop where
 no:YL (ZL ws day) rec=false->v=.non
 yes:YL (ZL ws day) rec=true->∃(y:ZaI) (r0:Sr) (t:Tr),Top (Ym (ZL ws day) rec) y/\Zer rs.reverse (some y.2)=some r0/\r0.tm=some t/\(t.due (Yc (ZL ws day) rec)=none->v=.non)/\
  ∀D,t.due (Yc (ZL ws day) rec)=some D->∃(a:Addr) (k:Str) (d n:Int),v=.ref a/\H a=some (.tup [.str k,.int d,.int n])/\lk (Yc (ZL ws day) rec) k=some d/\(k,n)∈Zcu (Yc (ZL ws day) rec) D t.lvs/\∀z∈Zcu (Yc (ZL ws day) rec) D t.lvs,ZcB z (k,n)=false
def ZgN(cn ca cl ce:Addr):Sp:=fun vs H Q _=>∃(p q:Addr) (rs:List Sr) (ws:List Rw) (rec:Str) (day:Int),vs=[.ref p,.ref q,.str rec,.int day]/\Zg6 cn ca cl ce H p rs/\Jx [] rs/\rs.length<=63/\Ys H q ws/\ZdI rs ws/\
 ∀v H',Zy H H'->Zm2 rs ws rec day H' v->Q v H'
def Zbd(r:Str):Rw->Bool
 | .put x _ _=>decide (x=r)
 | .move x _ _=>decide (x=r)
 | .deed x _ _=>decide (x=r)
 |_=>false
def YW(ws:List Rw)(r:Str):List Rw:=ws.filter (Zbd r)
def fH(b t o h r k w:Addr):List (Str×V):=ZP "words" (.ref w) (ZP "taken" (.ref k) (ZP "run_days" (.ref r) (ZP "holdings" (.ref h) (ZP "own" (.ref o) (ZP "told" (.ref t) (ZP "book" (.ref b) []))))))
def Za1:Rw->Bool
 | .hold _ _ _ _=>true
 | .lift _ _=>true
 |_=>false
structure ZpV (H:Hp) (os:List (Str×Addr)) (ws:List Rw):Prop where
 one:(os.map (·.1)).Nodup
 mem:∀r,r∈os.map (·.1)↔YW ws r≠[]
 at_:∀x∈os,Ys H x.2 (YW ws x.1)
abbrev Gn:=Str×Int×Int
def okv(os:List (Str×Addr)):List (Key×V):=os.map fun x=>(Sum.inr x.1,V.ref x.2)
def Zg7(H:Hp)(g:Gn)(x:Key×V):Prop:=∃p,x=(Sum.inr g.1,.ref p)/\H p=some (.tup [.int g.2.1,.int g.2.2])
def wkv(wd:List (Str×Str)):List (Key×V):=wd.map fun x=>(Sum.inr x.1,V.str x.2)
structure Hs where
 rs:List Sr
 ws:List Rw
 runs:List Int
 gs:List Gn
 wd:List (Str×Str)
inductive ZV (cn ca cl ce C:Addr) (H:Hp) (a:Addr) (s:Hs) (F:List Addr):Prop
 |mk (dx b t o h r k w:Addr) (os:List (Str×Addr)) (kvs:List (Key×V)) (_:H a=some (.ins C dx (fH b t o h r k w))) (_:Zg6 cn ca cl ce H b s.rs) (_:Ys H t s.ws) (_:H o=some (.dK (okv os))) (_:ZpV H os s.ws) (_:Ys H h (s.ws.filter Za1)) (_:H r=some (.lst (s.runs.map V.int))) (_:H k=some (.dK kvs)) (_:Paired (Zg7 H) s.gs kvs) (_:H w=some (.dK (wkv s.wd))) (_:F=t::o::h::r::k::w::os.map (·.2)) (_:F.Nodup) (_:b∉F):ZV cn ca cl ce C H a s F
def ZcM(C:Addr):Sp:=fun vs H Q _=>∃(x dx p:Addr) (ds:List V),vs=[.ref x,.ref p]/\H x=some (.ins C dx [])/\H p=some (.lst ds)/\
 ∀b t o h r k w H',[b,t,o,h,r,k,w].Nodup->(∀c∈[b,t,o,h,r,k,w],H c=none)->(∀c u,c≠x->H c=some u->H' c=some u)->H' x=some (.ins C dx (fH b t o h r k w))->
  H' b=some (.lst ds)->H' t=some (.lst [])->H' o=some (.dK [])->H' h=some (.lst [])->H' r=some (.lst [])->H' k=some (.dK [])->H' w=some (.dK [])->Q .non H'
def ZhX(cn ca cl ce:Addr)(n:Nat)(C:Addr):Sp:=fun vs H Q _=>∃(a:Addr) (s:Hs) (F:List Addr),vs=[.ref a]/\0<n/\ZV cn ca cl ce C H a s F/\∀L H',H L=none->Zy H H'->Ys H' L s.ws->Q (.ref L) H'
def ZhY(cn ca cl ce:Addr)(n:Nat)(C:Addr):Sp:=fun vs H Q _=>∃(a:Addr) (s:Hs) (F:List Addr),vs=[.ref a]/\0<n/\ZV cn ca cl ce C H a s F/\∀L kvs H',H L=none->Zy H H'->H' L=some (.dK kvs)->Paired (Zg7 H') s.gs kvs->Q (.ref L) H'
theorem Zox{cn ca cl ce C:Addr}:∀vs H Q E,¬ZhX cn ca cl ce 0 C vs H Q E:=fun _ _ _ _ ⟨_,_,_,_,z,_⟩=>Nat.lt_irrefl 0 z
theorem Zoy{cn ca cl ce C:Addr}:∀vs H Q E,¬ZhY cn ca cl ce 0 C vs H Q E:=fun _ _ _ _ ⟨_,_,_,_,z,_⟩=>Nat.lt_irrefl 0 z
def ZiN(F:List Addr)(H H':Hp):Prop:=∀b u,b∉F->H b=some u->H' b=some u
def Jj(h:Str):Rw->Bool
 | .hold x _ _ _=>decide (x=h)
 |_=>false
def Zft:Sp:=fun vs H Q _=>∃(p:Addr) (ws:List Rw) (h:Str),vs=[.ref p,.str h]/\Ys H p ws/\ws.length<=1000/\∀H',Zy H H'->Q (.bl (ws.any (Jj h))) H'
def Zay:Rw->List Str
 | .put _ s _=>[s]
 | .move _ s _=>[s]
 | .hold _ false n _=>[n]
 |_=>[]
def Zbt:Sp:=fun vs H Q _=>∃(a:Addr) (w:Rw),vs=[.ref a]/\Zd5 H a w/\∀L H',H L=none->Zy H H'->H' L=some (.lst ((Zay w).map V.str))->Q (.ref L) H'
def Zka(a b:Rw):Prop:=(b.word=Str.ofString "put"\/b.word=Str.ofString "hold")/\a.word=b.word/\a.one=b.one
structure Xq (rs:List Sr) (i:Nat) (ns:List Str) (ws:List Rw):Prop where
 len:ws.length<=100+i
 held:(ws.filter JH).length<=i
 named:∀w∈ws,∀n∈Zay w,n∈rs.map Sr.nm
 one:ws.Pairwise fun a b=>¬Zka a b
 nl:ns.length<=i
 few:∀w∈ws,Za1 w=false->w.one∈ns
def ZcN:Sp:=fun vs H Q _=>∃(c b far:Int) (p:Addr) (rs:List Sr),vs=[.int c,.int b,.int far,.ref p]/\LBk H p rs/\1<=rs.length/\rs.length<=8/\∀(w:Rw) d H',Zy H H'->Zd5 H' d w->(∀n∈Zay w,n∈rs.map Sr.nm)->Q (.ref d) H'
def Zca:Sp:=fun vs H Q _=>∃(a:Addr) (ns:List Int) (b far:Int) (p:Addr) (rs:List Sr),vs=[.ref a,.int b,.int far,.ref p]/\H a=some (.lst (ns.map V.int))/\ns.length<=63/\LBk H p rs/\1<=rs.length/\rs.length<=8/\∀(ws:List Rw) (xs:List Str) q H',H q=none->Zy H H'->Ys H' q ws->Xq rs ns.length xs ws->Q (.ref q) H'
section
variable {P:Program} {w:World} {K:PySem.W.Frag} {mg:Str->Option Value} {base:Heap} {Zj:Addr} {Zg:Addr} {Zh:Addr} {Zb:Addr} {Zo:Addr}
theorem kd:¬(("kind":Str)="days"):=by decide+kernel
theorem oo:¬(("one":Str)="other"):=by decide+kernel
theorem ZkZ(k:Str)(d:Int):(fA k d).lookup ("kind":Str)=some (.str k):=by
 unfold fA;rw[Zv,if_neg kd,Zv,if_pos rfl]
theorem ZnI(k:Str)(d:Int):(fA k d).lookup ("days":Str)=some (.int d):=by
 unfold fA;rw[Zv,if_pos rfl]
theorem Zl0(p q:Addr):(fP p q).lookup ("one":Str)=some (.ref p):=by
 unfold fP;rw[Zv,if_neg oo,Zv,if_pos rfl]
theorem Zg8(p q:Addr):(fP p q).lookup ("other":Str)=some (.ref q):=by
 unfold fP;rw[Zv,if_pos rfl]
theorem Zta(k:Str)(d:Int){m:Str}(h1:¬m="days")(h2:¬m="kind"):(fA k d).lookup m=none:=by
 unfold fA;rw[Zv,if_neg h1,Zv,if_neg h2]
 rfl
theorem Zrp(p q:Addr){m:Str}(h1:¬m="other")(h2:¬m="one"):(fP p q).lookup m=none:=by
 unfold fP;rw[Zv,if_neg h1,Zv,if_neg h2]
 rfl
theorem Xh.same{cn ca cl ce:Addr}{H H':Hp}(s:Zy H H'):∀{t:Tr} {a:Addr},Xh cn ca cl ce H t a->Xh cn ca cl ce H' t a
 | .never,a,⟨dx,h⟩=>⟨dx,s _ _ h⟩
 | .after k d,a,⟨dx,h⟩=>⟨dx,s _ _ h⟩
 | .later x y,a,⟨dx,p,q,h,h1,h2⟩=>⟨dx,p,q,s _ _ h,h1.same s,h2.same s⟩
 | .earlier x y,a,⟨dx,p,q,h,h1,h2⟩=>⟨dx,p,q,s _ _ h,h1.same s,h2.same s⟩
theorem Tr.deep_cnt:∀t:Tr,t.deep<t.cnt
 | .never=>Nat.zero_lt_one
 | .after _ _=>Nat.zero_lt_one
 | .later x y=>by
  have h1:=x.deep_cnt;have h2:=y.deep_cnt;simp only [Tr.deep,Tr.cnt];omega
 | .earlier x y=>by
  have h1:=x.deep_cnt;have h2:=y.deep_cnt;simp only [Tr.deep,Tr.cnt];omega
theorem Tr.lvs_cnt:∀t:Tr,t.lvs.length<=t.cnt
 | .never=>Nat.zero_le _
 | .after _ _=>Nat.le_refl _
 | .later x y=>by
  have h1:=x.lvs_cnt;have h2:=y.lvs_cnt;simp only [Tr.lvs,Tr.cnt,List.length_append];omega
 | .earlier x y=>by
  have h1:=x.lvs_cnt;have h2:=y.lvs_cnt;simp only [Tr.lvs,Tr.cnt,List.length_append];omega
theorem Zd7{cn ca cl ce:Addr}{H:Hp}{a:Addr}:∀{t:Tr},Xh cn ca cl ce H t a->∃dx fs,H a=some (.ins (Zhl cn ca cl ce t) dx fs)/\∀m:Str,¬m="days"->¬m="kind"->¬m="other"->¬m="one"->fs.lookup m=none
 | .never,⟨dx,h⟩=>⟨dx,_,h,fun _ _ _ _ _=>rfl⟩
 | .after k d,⟨dx,h⟩=>⟨dx,_,h,fun _ h1 h2 _ _=>Zta k d h1 h2⟩
 | .later x y,⟨dx,p,q,h,_⟩=>⟨dx,_,h,fun _ _ _ h1 h2=>Zrp p q h1 h2⟩
 | .earlier x y,⟨dx,p,q,h,_⟩=>⟨dx,_,h,fun _ _ _ h1 h2=>Zrp p q h1 h2⟩
theorem Zfu{cn ca cl ce:Addr}:∀t:Tr,(Zhl cn ca cl ce t=cn\/Zhl cn ca cl ce t=ca\/Zhl cn ca cl ce t=cl\/Zhl cn ca cl ce t=ce)
 | .never=> .inl rfl
 | .after _ _=> .inr (.inl rfl)
 | .later _ _=> .inr (.inr (.inl rfl))
 | .earlier _ _=> .inr (.inr (.inr rfl))
theorem ZhZ{H H2:Hp}{b:Addr}{l:Tb}(s:Zy H H2)(h:Rd H b (.dK (kk l))):Rd H2 b (.dK (kk l)):=by
 rcases h with h|⟨o,h⟩
 ·exact .inl (s _ _ h)
 ·exact .inr ⟨o,s _ _ h⟩
theorem ZcO{H:Hp}{b:Addr}{l:Tb}(h:Rd H b (.dK (kk l)))(k:Str):Zhv H b (.str k) ((lk l k).map V.int):=by
 rw[<-ZqR];exact .inl ⟨_,Sum.inr k,h,rfl,rfl⟩
theorem ZdL{o:Option Int}:(o.map V.int).isSome=o.isSome:=by cases o<;>rfl
theorem Zjw:ZG ["self","kind","days"] ["self","kind","days"] (Zw ZdB):=⟨rfl,rfl,rfl,by decide+kernel,rfl,by decide+kernel,by decide+kernel⟩
theorem Zjx{f:Addr}{fd:FuncData}(F:Fun K "__init__" "After.__init__" ZdB f fd)(T:Txt K mg Zj Zg Zh Zb Zo){C:Addr}(cl:Cls K C)(n_kind:YS K C "kind")(n_days:YS K C "days"):Yn P w K mg base CX0 1 f fd ["self","kind","days"] (ZcJ C):=by
 refine F.ok Zjw (fun vs H Q E h=> ?_) (fun cdv A outer s H vs Q E hr h=> ?_)
 ·obtain⟨x,dx,k,d,rfl,_⟩:=h
  rfl
 ·obtain⟨x,dx,k,d,rfl,hx,q⟩:=h;refine⟨_,(Ze (ZbW (pv 0) (pv 1) rfl) (Zn (ZbW (pv 0) (pv 2) rfl))), ?_⟩;refine⟨_,rfl,_,rfl,x,C,dx,_,rfl,hx,cl,n_kind,(by show 0<1000;decide),_,rfl,_,rfl,x,C,dx,_,rfl,Zc,cl,n_days,(by show 1<1000;decide), ?_⟩
  rw[ZfN];exact q
theorem Zl1:ZG ["self","one","other"] ["self","one","other"] (Zw Zcq):=⟨rfl,rfl,rfl,by decide+kernel,rfl,by decide+kernel,by decide+kernel⟩
theorem Zg9{f:Addr}{fd:FuncData}(F:Fun K "__init__" "Pair.__init__" Zcq f fd)(T:Txt K mg Zj Zg Zh Zb Zo){C:Addr}(cl:Cls K C)(n_one:YS K C "one")(n_other:YS K C "other"):Yn P w K mg base CX0 1 f fd ["self","one","other"] (Zaw C):=by
 refine F.ok Zl1 (fun vs H Q E h=> ?_) (fun cdv A outer s H vs Q E hr h=> ?_)
 ·obtain⟨x,dx,p,q,rfl,_⟩:=h
  rfl
 ·obtain⟨x,dx,p,q,rfl,hx,k⟩:=h;refine⟨_,(Ze (ZbW (pv 0) (pv 1) rfl) (Zn (ZbW (pv 0) (pv 2) rfl))), ?_⟩;refine⟨_,rfl,_,rfl,x,C,dx,_,rfl,hx,cl,n_one,(by show 0<1000;decide),_,rfl,_,rfl,x,C,dx,_,rfl,Zc,cl,n_other,(by show 1<1000;decide), ?_⟩
  rw[ZfN];exact k
theorem Zbe{H:Hp}{x dx:Addr}{o:HO}(h1:H x=none)(h2:H dx=none):Zy H (upd (upd H dx (.own x)) x o):=fun b u e=>by
 rw[Zm (Zf e h1),Zm (Zf e h2)];exact e
theorem ZpW:ZG [] [] (Zw ZkV):=⟨rfl,rfl,rfl,by decide+kernel,rfl,by decide+kernel,by decide+kernel⟩
theorem ZpX{f:Addr}{fd:FuncData}(F:Fun K "never" "never" ZkV f fd)(T:Txt K mg Zj Zg Zh Zb Zo)(Zl2:Zs4 K mg "Never" Zj):Yn P w K mg base CX0 1 f fd [] (ZiJ Zj Zg Zh Zb):=by
 refine F.ok ZpW (fun vs H Q E h=> ?_) (fun cdv A outer s H vs Q E hr h=> ?_)
 ·obtain⟨rfl,_⟩:=h
  rfl
 ·obtain⟨rfl,q⟩:=h;refine⟨_,(Zn (Zx (ZqS Zl2 rfl))), ?_⟩;exact fun x dx h1 h2 _=>q x _ (Zbe h1 h2) h1 ⟨dx,Zc⟩
theorem ZpY:ZG ["kind","days"] ["kind","days"] (Zw ZkW):=⟨rfl,rfl,rfl,by decide+kernel,rfl,by decide+kernel,by decide+kernel⟩
theorem ZpZ{f:Addr}{fd:FuncData}(F:Fun K "after" "after" ZkW f fd)(T:Txt K mg Zj Zg Zh Zb Zo)(Zl3:ZkM P w K mg base CX0 1 "After" Zg ["self","kind","days"] (ZcJ Zg)):Yn P w K mg base CX0 3 f fd ["kind","days"] (ZiK Zj Zg Zh Zb):=by
 refine F.ok ZpY (fun vs H Q E h=> ?_) (fun cdv A outer s H vs Q E hr h=> ?_)
 ·obtain⟨k,d,rfl,_⟩:=h
  rfl
 ·obtain⟨k,d,rfl,q⟩:=h;refine⟨_,(Zn (Zx (ZkN Zl3 (hr.mono (by omega)) rfl ZJ (Za (pv 0) (Za (pv 1) Zi))))), ?_⟩;refine⟨_,rfl,_,rfl,fun x dx h1 h2 _=>⟨x,dx,k,d,rfl,Zc,rfl, ?_⟩⟩;rw[ZfN];exact q x _ (Zbe h1 h2) h1 ⟨dx,Zc⟩
theorem Zq0:ZG ["one","other"] ["one","other"] (Zw ZkX):=⟨rfl,rfl,rfl,by decide+kernel,rfl,by decide+kernel,by decide+kernel⟩
theorem Zq1{f:Addr}{fd:FuncData}(F:Fun K "later" "later" ZkX f fd)(T:Txt K mg Zj Zg Zh Zb Zo)(Zl4:ZkM P w K mg base CX0 1 "Later" Zh ["self","one","other"] (Zaw Zh)):Yn P w K mg base CX0 3 f fd ["one","other"] (ZiL Zj Zg Zh Zb):=by
 refine F.ok Zq0 (fun vs H Q E h=> ?_) (fun cdv A outer s H vs Q E hr h=> ?_)
 ·obtain⟨p,q,x,y,rfl,_⟩:=h
  rfl
 ·obtain⟨p,q,x,y,rfl,t1,t2,k⟩:=h;refine⟨_,(Zn (Zx (ZkN Zl4 (hr.mono (by omega)) rfl ZJ (Za (pv 0) (Za (pv 1) Zi))))), ?_⟩;refine⟨_,rfl,_,rfl,fun a dx h1 h2 _=>⟨a,dx,p,q,rfl,Zc,rfl, ?_⟩⟩;rw[ZfN];exact k a _ (Zbe h1 h2) h1 ⟨dx,p,q,Zc,t1.same (Zbe h1 h2),t2.same (Zbe h1 h2)⟩
theorem ZmY:ZG ["one","other"] ["one","other"] (Zw ZgF):=⟨rfl,rfl,rfl,by decide+kernel,rfl,by decide+kernel,by decide+kernel⟩
theorem ZmZ{f:Addr}{fd:FuncData}(F:Fun K "earlier" "earlier" ZgF f fd)(T:Txt K mg Zj Zg Zh Zb Zo)(ZgO:ZkM P w K mg base CX0 1 "Earlier" Zb ["self","one","other"] (Zaw Zb)):Yn P w K mg base CX0 3 f fd ["one","other"] (Zfr Zj Zg Zh Zb):=by
 refine F.ok ZmY (fun vs H Q E h=> ?_) (fun cdv A outer s H vs Q E hr h=> ?_)
 ·obtain⟨p,q,x,y,rfl,_⟩:=h
  rfl
 ·obtain⟨p,q,x,y,rfl,t1,t2,k⟩:=h;refine⟨_,(Zn (Zx (ZkN ZgO (hr.mono (by omega)) rfl ZJ (Za (pv 0) (Za (pv 1) Zi))))), ?_⟩;refine⟨_,rfl,_,rfl,fun a dx h1 h2 _=>⟨a,dx,p,q,rfl,Zc,rfl, ?_⟩⟩;rw[ZfN];exact k a _ (Zbe h1 h2) h1 ⟨dx,p,q,Zc,t1.same (Zbe h1 h2),t2.same (Zbe h1 h2)⟩
theorem ZnJ(m:Str)(h:m="due"\/m="leaves"\/m="shown"):¬m="days"/\¬m="kind"/\¬m="other"/\¬m="one":=by
 rcases h with rfl|rfl|rfl<;>decide+kernel
theorem Xh.keep{cn ca cl ce:Addr}{H H':Hp}(s:∀b C dx fs,H b=some (.ins C dx fs)->H' b=some (.ins C dx fs)):∀{t:Tr} {a:Addr},Xh cn ca cl ce H t a->Xh cn ca cl ce H' t a
 | .never,a,⟨dx,h⟩=>⟨dx,s _ _ _ _ h⟩
 | .after k d,a,⟨dx,h⟩=>⟨dx,s _ _ _ _ h⟩
 | .later x y,a,⟨dx,p,q,h,h1,h2⟩=>⟨dx,p,q,s _ _ _ _ h,h1.keep s,h2.keep s⟩
 | .earlier x y,a,⟨dx,p,q,h,h1,h2⟩=>⟨dx,p,q,s _ _ _ _ h,h1.keep s,h2.keep s⟩
theorem Yh{α β:Type}{R:α->β->Prop}:∀{as:List α} {bs:List β},Paired R as bs->∀(i:Nat) (a:α),as[i]? =some a->∃b,bs[i]? =some b/\R a b
 |_,_,.nil,i,a,h=>by simp at h
 |_,_,.cons (a:=x) r t,0,a,h=>by
  have h:x=a:=by simpa using h
  subst h;exact⟨_,rfl,r⟩
 |_,_,.cons r t,i+1,a,h=>by
  obtain⟨b,e,z⟩:=Yh t i a (by simpa using h);exact⟨b,by simpa using e,z⟩
theorem YX{ds:List Addr}{i:Nat}{y:V}(h:(ds.map V.ref)[i]? =some y):∃d,y=.ref d/\ds[i]? =some d:=by
 rw[List.getElem?_map] at h
 cases e:ds[i]? with
 |none=>rw[e] at h;cases h
 |some d=>rw[e] at h;exact⟨d,(Option.some.inj h).symm,rfl⟩
theorem Ztb{c A B:Prop} [Decidable c](hc:¬c)(h:A):if(!decide c)=true then A else B:=by
 rw[decide_eq_false hc];exact XX h
theorem ZdM:∀{ns:List Str} {rs:List Sr},Jx ns rs->∀r∈rs,r.good
 |_,[],_,r,h=>nomatch h
 |_,x::rs,⟨g,_,_,k⟩,r,h=>by
  obtain rfl|h:=List.mem_cons.mp h
  ·exact g
  ·exact ZdM k r h
theorem Zrq:∀{rs:List Sr} {ns:List Str} {i:Nat} {r:Sr},Jx ns rs->rs[i]? =some r->r.good/\r.nm∉ns++(rs.take i).map Sr.nm/\∀e,r.el=some e->e∈ns++(rs.take i).map Sr.nm
 |[],ns,i,r,_,h=>by simp at h
 |x::rs,ns,0,r,⟨g,n,e,_⟩,h=>by
  have h:x=r:=by simpa using h
  subst h;rw[List.take_zero,List.map_nil,List.append_nil];exact⟨g,n,e⟩
 |x::rs,ns,i+1,r,⟨_,_,_,k⟩,h=>by
  have more:=Zrq k (i:=i) (r:=r) (by simpa using h);rw[List.append_assoc] at more
  rw[List.take_succ_cons,List.map_cons];exact more
theorem Ze5.keep{cn ca cl ce:Addr}{H H':Hp}(s1:∀b xs,H b=some (.tup xs)->H' b=some (.tup xs))(s2:∀b C dx fs,H b=some (.ins C dx fs)->H' b=some (.ins C dx fs)){d:Addr}{r:Sr}:Ze5 cn ca cl ce H d r->Ze5 cn ca cl ce H' d r
 |⟨v,h,t⟩=>by
  refine⟨v,s1 _ _ h, ?_⟩
  revert t
  cases r.tm with
  |none=>exact fun t=>t
  |some x=>exact fun⟨a,e,t⟩=>⟨a,e,t.keep s2⟩
theorem Zd8{cn ca cl ce:Addr}{H H':Hp}(s1:∀b xs,H b=some (.tup xs)->H' b=some (.tup xs))(s2:∀b C dx fs,H b=some (.ins C dx fs)->H' b=some (.ins C dx fs)):∀{ds:List Addr} {rs:List Sr},Paired (Ze5 cn ca cl ce H) ds rs->Paired (Ze5 cn ca cl ce H') ds rs
 |_,_,.nil=> .nil
 |_,_,.cons h t=> .cons (h.keep s1 s2) (Zd8 s1 s2 t)
theorem ZgP{cn ca cl ce:Addr}{H H':Hp}(s:Zy H H'):∀{ds:List Addr} {rs:List Sr},Paired (Ze5 cn ca cl ce H) ds rs->Paired (Ze5 cn ca cl ce H') ds rs:=Zd8 (fun b xs h=>s b _ h) fun b C dx fs h=>s b _ h
theorem Zkb:∀rr:List Sr,Jg rr none=[]
 |[]=>rfl
 |r::rr=>by
  show(if some r.nm=none then _ else _)=_;rw[if_neg (fun z=>nomatch z)];exact Zkb rr
theorem ZiO:∀(rr:List Sr) (w:Option Str),(Jg rr w).length<=rr.length
 |[],_=>Nat.le_refl _
 |r::rr,w=>by
  show(if some r.nm=w then _ else _:List Str).length<=_;have h1:=ZiO rr r.el;have h2:=ZiO rr w
  split
  ·rw[List.length_cons,List.length_cons];omega
  ·rw[List.length_cons];omega
def ZhE(rs:List Sr)(n:Str):Bool:=rs.any fun r=>decide (r.nm=n)&&r.tm.isSome
theorem Zfv(P:Str->Bool):∀(rr:List Sr) (w:Option Str),BkR rr->(∀r∈rr,P r.nm=r.tm.isSome)->(∀n,w=some n->n∈rr.map Sr.nm)->w≠none->∃r∈rr,Zer rr w=some r/\r.tm.isSome=true/\((Jg rr w).filter P)[0]? =some r.nm
 |[],some n,_,_,h,_=>nomatch h n rfl
 |[],none,_,_,_,h=>absurd rfl h
 |r::rr,w,⟨g,nn,ne,b⟩,hP,h,hw=>by
  have hP2:∀x∈rr,P x.nm=x.tm.isSome:=fun x hx=>hP x (List.mem_cons_of_mem _ hx);have hr:=hP r (List.mem_cons_self ..);show∃x∈r::rr,(if some r.nm=w then(if r.tm.isSome=true then some r else Zer rr r.el) else Zer rr w)=some x/\_/\(List.filter P (if some r.nm=w then r.nm::Jg rr r.el else Jg rr w))[0]? =_
  by_cases e:some r.nm=w
  ·rw[if_pos e,if_pos e]
   by_cases t:r.tm.isSome=true
   ·rw[if_pos t,List.filter_cons_of_pos (by rw[hr];exact t)]
    exact⟨r,List.mem_cons_self ..,rfl,t,rfl⟩
   ·rw[if_neg t,List.filter_cons_of_neg (by rw[hr];exact t)]
    have el:r.el≠none:=fun z=>by
     have:=g.some z;cases q:r.tm with
     |none=>exact this q
     |some x=>rw[q] at t;exact t rfl
    obtain⟨x,hx,q⟩:=Zfv P rr r.el b hP2 ne el;exact⟨x,List.mem_cons_of_mem _ hx,q⟩
  ·rw[if_neg e,if_neg e];obtain⟨x,hx,q⟩:=Zfv P rr w b hP2 (fun n hn=>by
    rcases List.mem_cons.mp (h n hn) with z|z
    ·exact absurd (by rw[hn,z]) e
    ·exact z) hw
   exact⟨x,List.mem_cons_of_mem _ hx,q⟩
theorem Zq2:∀(rs acc:List Sr),BkR acc->Jx (acc.reverse.map Sr.nm) rs->BkR (rs.reverse++acc)
 |[],acc,h,_=>h
 |r::rs,acc,h,⟨g,n,e,k⟩=>by
  rw[List.reverse_cons,List.append_assoc];refine Zq2 rs (r::acc) ⟨g,fun z=>n ?_,fun x hx=> ?_,h⟩ (by rw[List.reverse_cons,List.map_append];exact k)
  ·rw[List.map_reverse,List.mem_reverse];exact z
  ·have:=e x hx;rw[List.map_reverse,List.mem_reverse] at this
   exact this
theorem ZeX{rs:List Sr}(h:Jx [] rs):BkR rs.reverse:=by
 have:=Zq2 rs [] trivial h
 rwa [List.append_nil] at this
theorem Zkc:∀{rr:List Sr},BkR rr->(rr.map Sr.nm).Nodup
 |[],_=>List.nodup_nil
 |r::rr,⟨_,n,_,b⟩=>by rw[List.map_cons];exact List.nodup_cons.mpr ⟨n,Zkc b⟩
theorem Zd9{rs:List Sr}(h:Jx [] rs):(rs.map Sr.nm).Nodup:=by
 have:=Zkc (ZeX h);rw[List.map_reverse] at this
 exact(List.reverse_perm _).nodup_iff.mp this
theorem Zi0:∀{rs:List Sr} {r s:Sr},(rs.map Sr.nm).Nodup->r∈rs->s∈rs->r.nm=s.nm->r=s
 |x::rs,r,s,nd,hr,hs,e=>by
  rw[List.map_cons] at nd
  obtain⟨off,rest⟩:=List.nodup_cons.mp nd;rcases List.mem_cons.mp hr with h1|h1<;>rcases List.mem_cons.mp hs with h2|h2
  ·rw[h1,h2]
  ·exact absurd (List.mem_map.mpr ⟨s,h2,by rw[<-e,h1]⟩) off
  ·exact absurd (List.mem_map.mpr ⟨r,h1,by rw[e,h2]⟩) off
  ·exact Zi0 rest h1 h2 e
theorem ZeY{rs:List Sr}(nd:(rs.map Sr.nm).Nodup){r:Sr}(hr:r∈rs):ZhE rs r.nm=r.tm.isSome:=by
 unfold ZhE
 apply Bool.eq_iff_iff.mpr
 rw[List.any_eq_true]
 constructor
 ·rintro⟨x,hx,e⟩;rw[Bool.and_eq_true] at e
  rw[<-Zi0 nd hx hr (of_decide_eq_true e.1)];exact e.2
 ·exact fun h=>⟨r,hr,by rw[h,decide_eq_true rfl];rfl⟩
theorem Zq3{α:Type}{xs:List α}{i:Nat}{x:α}(h:xs[xs.length-1-i]? =some x)(hi:i<xs.length):xs.reverse.drop i=x::xs.reverse.drop (i+1):=by
 have e:xs.reverse[i]? =some x:=by rw[List.getElem?_reverse hi];exact h
 obtain⟨lt,e⟩:=List.getElem?_eq_some_iff.mp e;rw[List.drop_eq_getElem_cons lt,e]
theorem Zi1(z:Str)(w:Option Str):Zqu (.str z) (oS w)=true:=by cases w<;>rfl
theorem Zkd{z:Str}{w:Option Str}:V.str z=oS w↔some z=w:=by
 cases w with
 |none=>exact⟨(fun h=>nomatch h),(fun h=>nomatch h)⟩
 |some y=>exact⟨fun h=>by injection h with h;rw[h],fun h=>by injection h with h;rw[h];rfl⟩
theorem Zcb:ZG ["book","name","line","wanted","series"] ["book","name"] (Zw ZgG):=⟨rfl,rfl,rfl,by decide+kernel,rfl,by decide+kernel,by decide+kernel⟩
theorem Zn0{f:Addr}{fd:FuncData}(F:Fun K "line_of" "line_of" ZgG f fd)(T:Txt K mg Zj Zg Zh Zb Zo):Yn P w K mg base CX0 1 f fd ["book","name"] (Zfs Zj Zg Zh Zb):=by
 refine F.ok Zcb (fun vs H Q E h=> ?_) (fun cdv A outer s H vs Q E hr h=> ?_)
 ·obtain⟨p,n,rs,rfl,_⟩:=h
  rfl
 ·obtain⟨p,n,rs,rfl,⟨ds,hp,pr⟩,lr,q⟩:=h;have l5:=YZ;have le:=Paired.length pr;refine⟨_,(Ze (Zz (i:=2) Zcb.nd rfl (Or.inl rfl) (ZX Zi)) (Ze (Zz (i:=3) Zcb.nd rfl (Or.inl rfl) (pv 1)) (Ze (Xw PassesOwn.never rfl (ZpM (K:=K) rfl (by rfl) T.z_reversed (pv 0)) (ZK (i:=4) Zcb.nd rfl (Or.inl rfl)) (Zn (ZS (Zq ZZ (Zr Zu (pv 4) Zd (fun _ _=>rfl)) (pv 3) (Zt _)) (Ze (YB (JG PySem.F.plainAttrs_list PySem.F.slot_list_append PySem.F.type_list_append Yk (pv 2) (Za (pv 3) Zi))) (Zn (Zz (i:=3) Zcb.nd rfl (Or.inl rfl) (Zr Zu (pv 4) Zd (fun _ _=>rfl))))) ZF))) (Zn (Zx (pv 2)))))), ?_⟩
  refine⟨Nat.zero_le _,fun L hL=> ?_⟩;have nLp:p≠L:=Zf hp hL;have s1:Zy H (upd H L (.lst [])):=Zk hL;refine⟨_,rfl,_,rfl,p,_,rfl,SqL.of (s1 _ _ hp),Zpo (J:=Itv K p (ds.map V.ref)) (n:=ds.length) (fun i σ H'=>∃(v4:Option V) (l:List Str) (w:Option Str),σ=[some (.ref p),some (.str n),some (.ref L),some (oS w),v4]/\H' L=some (.lst (l.map V.str))/\(∀b u,b≠L->H b=some u->H' b=some u)/\l++Jg (rs.reverse.drop i) w=Jg rs.reverse (some n)/\l.length<=i) ?_ ?_ ?_ ?_⟩
  ·exact⟨none,[],some n,rfl,Zc,fun b u nb e=>by rw[Zm nb];exact e,rfl,Nat.le_refl _⟩
  ·rintro i σ H1 hi ⟨v4,l,w,rfl,hl,fr,eq,ll⟩;exact⟨SqL.of (fr p _ nLp hp),by rw[List.length_map];exact hi⟩
  ·rintro σ H1 ⟨v4,l,w,rfl,hl,fr,eq,ll⟩;rw[List.drop_of_length_le (by rw[List.length_reverse];omega)] at eq
   have eq:l=Jg rs.reverse (some n):=by simpa [Jg] using eq
   refine⟨⟨SqL.of (fr p _ nLp hp),by rw[List.length_map]⟩, ?_⟩;exact⟨_,rfl,q L H1 hL (fun b u e=>fr b u (Zf e hL) e) (by rw[<-eq];exact hl)⟩
  ·rintro i x σ H2 H1 hi ⟨v4,l,w,rfl,hl,fr,eq,ll⟩ ⟨rfl,hx⟩;rw[List.length_map] at hx
   obtain⟨d,rfl,ed⟩:=YX hx;have s1:Zy H H1:=fun b u e=>fr b u (Zf e hL) e;obtain⟨r,er,⟨v,sd,st⟩⟩:=Yh (ZgP s1 pr) _ d ed;rw[le] at er
   rw[Zq3 er (by omega)] at eq
   have eq2:l++(if some r.nm=w then r.nm::Jg (rs.reverse.drop (i+1)) r.el else Jg (rs.reverse.drop (i+1)) w)=_:=eq;clear eq;refine(ixT rfl (SqT.of sd) rfl ⟨_,rfl,Zi1 _ _,_,rfl,Yp (fun e=> ?_) (fun e=> ?_)⟩)
   ·have e:=Zkd.mp (of_decide_eq_true e);rw[if_pos e] at eq2
    subst e;have l6:(l.map V.str).length<sizeLine:=by rw[List.length_map];omega
    refine⟨_,rfl,.inl ⟨rfl,_,SqL.of hl⟩,_,rfl,L,_,_,rfl,rfl,hl,l6, ?_⟩;have ndL:d≠L:=Yj sd hl (fun z=>nomatch z);refine(ixT rfl (SqT.of (by rw[Zm ndL];exact sd)) rfl ?_)
    exact⟨_,l++[r.nm],r.el,rfl,by rw[Zc,List.map_append];rfl,fun b u nb z=>by rw[Zm nb];exact fr b u nb z,by rw[List.append_assoc];exact eq2,by rw[List.length_append];exact Nat.add_le_add_right ll 1⟩
   ·have e:¬some r.nm=w:=fun z=>e (decide_eq_true (Zkd.mpr z));rw[if_neg e] at eq2
    exact⟨_,l,w,rfl,hl,fr,eq2,Nat.le_succ_of_le ll⟩
theorem JX:ZG ["book","name","wanted","series"] ["book","name"] (Zw Zbn):=⟨rfl,rfl,rfl,by decide+kernel,rfl,by decide+kernel,by decide+kernel⟩
theorem ZgQ{f:Addr}{fd:FuncData}(F:Fun K "owning_series" "owning_series" Zbn f fd)(T:Txt K mg Zj Zg Zh Zb Zo):Yn P w K mg base CX0 1 f fd ["book","name"] (JW Zj Zg Zh Zb):=by
 refine F.ok JX (fun vs H Q E h=> ?_) (fun cdv A outer s H vs Q E hr h=> ?_)
 ·obtain⟨p,n,rs,r0,rfl,_⟩:=h
  rfl
 ·obtain⟨p,n,rs,r0,rfl,⟨ds,hp,pr⟩,lr,ow,q⟩:=h;have le:=Paired.length pr;refine⟨_,(Ze (Zz (i:=2) JX.nd rfl (Or.inl rfl) (pv 1)) (Zn (Xw PassesOwn.never rfl (ZpM (K:=K) rfl (by rfl) T.z_reversed (pv 0)) (ZK (i:=3) JX.nd rfl (Or.inl rfl)) (Ze (ZS (PW.pt (Xb (Zq ZZ (Zr Zu (pv 3) Zd (fun _ _=>rfl)) (pv 2) (Zt _)) (YT (Zq ZhQ (Zr Zu (pv 3) Zd (fun _ _=>rfl)) Yz (Zt _))))) (Zn (Zx (pv 3))) ZF) (Zn (ZS (Zq ZZ (Zr Zu (pv 3) Zd (fun _ _=>rfl)) (pv 2) (Zt _)) (Zn (Zz (i:=2) JX.nd rfl (Or.inl rfl) (Zr Zu (pv 3) Zd (fun _ _=>rfl)))) ZF)))))), ?_⟩
  refine⟨_,rfl,_,rfl,p,_,rfl,SqL.of hp,Zpo (J:=Itv K p (ds.map V.ref)) (n:=ds.length) (fun i σ H'=>∃(v3:Option V) (w:Option Str),σ=[some (.ref p),some (.str n),some (oS w),v3]/\H'=H/\Zer (rs.reverse.drop i) w=some r0) ?_ ?_ ?_ ?_⟩
  ·exact⟨none,some n,rfl,rfl,ow⟩
  ·rintro i σ H1 hi ⟨v3,w,rfl,rfl,eq⟩;exact⟨SqL.of hp,by rw[List.length_map];exact hi⟩
  ·rintro σ H1 ⟨v3,w,rfl,rfl,eq⟩;rw[List.drop_of_length_le (by rw[List.length_reverse];omega)] at eq
   cases eq
  ·rintro i x σ H1 H2 hi ⟨v3,w,rfl,rfl,eq⟩ ⟨rfl,hx⟩;rw[List.length_map] at hx
   obtain⟨d,rfl,ed⟩:=YX hx;obtain⟨r,er,ser⟩:=Yh pr _ d ed;obtain⟨v,sd,st⟩:=id ser;rw[le] at er
   rw[Zq3 er (by omega)] at eq
   have eq:(if some r.nm=w then(if r.tm.isSome=true then some r else Zer (rs.reverse.drop (i+1)) r.el) else Zer (rs.reverse.drop (i+1)) w)=some r0:=eq;refine(ixT rfl (SqT.of sd) rfl ⟨_,rfl,Zi1 _ _,_,rfl,Yp (fun e=> ?_) (fun e=> ?_)⟩)
   ·have e':=Zkd.mp (of_decide_eq_true e);rw[if_pos e'] at eq
    cases ht:r.tm with
    |none=>
     rw[ht] at eq st
     obtain rfl:v=.non:=st;refine(ixT rfl (SqT.of sd) rfl ⟨rfl,_,rfl,ZsP rfl ?_⟩);exact(ixT rfl (SqT.of sd) rfl ⟨_,rfl,Zi1 _ _,_,rfl,Zb9 (Zkd.mpr e') (ixT rfl (SqT.of sd) rfl ⟨_,r.el,rfl,rfl,eq⟩)⟩)
    |some t=>
     rw[ht,if_pos (show(some t).isSome=true from rfl)] at eq
     rw[ht] at st
     obtain⟨a,rfl,tm⟩:=st;obtain rfl:r=r0:=Option.some.inj eq;exact(ixT rfl (SqT.of sd) rfl ⟨rfl,_,rfl,Ztb (fun z=>nomatch z) ⟨_,rfl,q d _ (Zy.refl _) ser⟩⟩)
   ·have e':¬some r.nm=w:=fun z=>e (decide_eq_true (Zkd.mpr z));rw[if_neg e'] at eq
    exact ZW (ixT rfl (SqT.of sd) rfl ⟨_,rfl,Zi1 _ _,_,rfl,Yu (fun z=>e' (Zkd.mp z)) ⟨_,w,rfl,rfl,eq⟩⟩)
theorem Zm3:ZG ["book","name"] ["book","name"] (Zw Zfk):=⟨rfl,rfl,rfl,by decide+kernel,rfl,by decide+kernel,by decide+kernel⟩
theorem Zm4{f:Addr}{fd:FuncData}(F:Fun K "owner_of" "owner_of" Zfk f fd)(T:Txt K mg Zj Zg Zh Zb Zo)(XQ:Cal P w K mg base CX0 1 "owning_series" ["book","name"] (JW Zj Zg Zh Zb)):Yn P w K mg base CX0 2 f fd ["book","name"] (Zes Zj Zg Zh Zb):=by
 refine F.ok Zm3 (fun vs H Q E h=> ?_) (fun cdv A outer s H vs Q E hr h=> ?_)
 ·obtain⟨p,n,rs,r,rfl,_⟩:=h
  rfl
 ·obtain⟨p,n,rs,r,rfl,bat,lr,ow,q⟩:=h;refine⟨_,(Zn (Zx (Zr Zu (ZQ XQ (hr.mono (by omega)) rfl ZJ (Za (pv 0) (Za (pv 1) Zi))) Zd (fun _ _=>rfl)))), ?_⟩;exact⟨_,rfl,_,rfl,p,n,rs,r,rfl,bat,lr,ow,fun d H1 s1 ⟨v,sd,st⟩=>⟨d,_,_,_,rfl,rfl,SqT.of sd,rfl,q H1 s1⟩⟩
theorem Zn1:ZG ["book","name"] ["book","name"] (Zw ZgH):=⟨rfl,rfl,rfl,by decide+kernel,rfl,by decide+kernel,by decide+kernel⟩
theorem Zn2{f:Addr}{fd:FuncData}(F:Fun K "term_of" "term_of" ZgH f fd)(T:Txt K mg Zj Zg Zh Zb Zo)(XQ:Cal P w K mg base CX0 1 "owning_series" ["book","name"] (JW Zj Zg Zh Zb)):Yn P w K mg base CX0 2 f fd ["book","name"] (ZdG Zj Zg Zh Zb):=by
 refine F.ok Zn1 (fun vs H Q E h=> ?_) (fun cdv A outer s H vs Q E hr h=> ?_)
 ·obtain⟨p,n,rs,r,t,rfl,_⟩:=h
  rfl
 ·obtain⟨p,n,rs,r,t,rfl,bat,lr,ow,ht,q⟩:=h;refine⟨_,(Zn (Zx (Zr Zu (ZQ XQ (hr.mono (by omega)) rfl ZJ (Za (pv 0) (Za (pv 1) Zi))) Zd (fun _ _=>rfl)))), ?_⟩;refine⟨_,rfl,_,rfl,p,n,rs,r,rfl,bat,lr,ow,fun d H1 s1 ⟨v,sd,st⟩=> ?_⟩;rw[ht] at st
  obtain⟨a,rfl,tm⟩:=st;exact⟨d,_,_,_,rfl,rfl,SqT.of sd,rfl,q a H1 s1 tm⟩
theorem ZR{H H':Hp}(s:Zy H H'):∀{ds:List Addr} {ws:List Rw},Paired (Zd5 H) ds ws->Paired (Zd5 H') ds ws
 |_,_,.nil=> .nil
 |_,_,.cons h t=> .cons (s _ _ h) (ZR s t)
theorem Zfw{H:Hp}(P:Rw->Bool):∀{ds:List Addr} {ws:List Rw},Paired (Zd5 H) ds ws->∃es:List Addr,((ds.zip ws).flatMap fun z=>if P z.2=true then[V.ref z.1] else[])=es.map V.ref/\Paired (Zd5 H) es (ws.filter P)
 |_,_,.nil=>⟨[],rfl,.nil⟩
 |_,_,.cons (a:=a) (b:=w) h t=>by
  obtain⟨es,e,c⟩:=Zfw P t;cases hp:P w with
  |true=>
   refine⟨a::es, ?_,by rw[List.filter_cons_of_pos hp];exact .cons h c⟩
   rw[List.zip_cons_cons,List.flatMap_cons,e,if_pos hp]
   rfl
  |false=>
   refine⟨es, ?_,by rw[List.filter_cons_of_neg (by rw[hp];exact Bool.false_ne_true)];exact c⟩
   rw[List.zip_cons_cons,List.flatMap_cons,e,if_neg (by rw[hp];exact Bool.false_ne_true)]
   rfl
theorem Zl5(w:Rw):atI w.vs (-1)=some (.int w.day):=by cases w<;>rfl
theorem Jq(w:Rw):atI w.vs 0=some (.str w.word):=by cases w<;>rfl
theorem ZdN(w:Rw):atI w.vs 1=some (.str w.one):=by cases w<;>rfl
theorem Zq4{ds:List Addr}{ws:List Rw}{j:Nat}{d:Addr}{w:Rw}(h1:ds[j]? =some d)(h2:ws[j]? =some w):(ds.zip ws)[j]? =some (d,w):=List.getElem?_zip_eq_some.mpr ⟨h1,h2⟩
theorem Zm5{P:Rw->Bool}{o:Option (Addr×Rw)}:((o.map fun z=>if P z.2=true then[V.ref z.1] else[]).getD []).length<=1:=by
 cases o with
 |none=>exact Nat.zero_le 1
 |some z=>
  show(if _ then[V.ref z.1] else[]).length<=1
  split
  ·exact Nat.le_refl 1
  ·exact Nat.zero_le 1
theorem Zn3:ZG ["rows","day"] ["rows","day"] (Zw ZgI):=⟨rfl,rfl,rfl,by decide+kernel,rfl,by decide+kernel,by decide+kernel⟩
theorem Zn4{f:Addr}{fd:FuncData}(F:Fun K "counted" "counted" ZgI f fd)(T:Txt K mg Zj Zg Zh Zb Zo):Yn P w K mg base CX0 1 f fd ["rows","day"] ZaR:=by
 refine F.ok Zn3 (fun vs H Q E h=> ?_) (fun cdv A outer s H vs Q E hr h=> ?_)
 ·obtain⟨p,ws,day,rfl,_⟩:=h
  rfl
 ·obtain⟨p,ws,day,rfl,⟨ds,hp,pr⟩,lw,q⟩:=h;have l5:=YZ;have le:=Paired.length pr;have lz:(ds.zip ws).length=ds.length:=by rw[List.length_zip];omega
  refine⟨_,(Zn (Zx (Jh ["row"] [("day",1)] rfl (Yg (pv 0)) (by rfl) (by exact⟨rfl,trivial⟩) (by rfl) (by exact⟨⟨rfl,rfl,rfl⟩,trivial⟩) (fun _ _ _ _=>(ZK (i:=0) (show(nmY ["row"] [("day",1)]).Nodup by decide+kernel) rfl (Or.inl rfl))) (fun _ _ _ _=>(JB (Zq ZlI (Zr (Yq (K:=K) rfl) (pv 0) (Znt Zky Zd) (fun _ _=>rfl)) (pv 1) (Zt _)))) (fun _ _ _ _=>(pv 0))))), ?_⟩;refine⟨_,rfl,p,rfl,⟨_,SqL.of hp⟩,Xm (ds.zip ws).length (fun j=>(((ds.zip ws)[j]?).map fun z=>if decide (z.2.day<=day)=true then[V.ref z.1] else[]).getD []) (by omega) (fun j=>Zm5 (P:=fun w=>decide (w.day<=day))) (fun j H2 s2 lt=>⟨_,_,SqL.of (s2 _ _ hp),List.getElem?_eq_getElem (by rw[List.length_map];omega)⟩) (fun H2 s2=>⟨_,SqL.of (s2 _ _ hp),by rw[List.length_map];omega⟩) (fun j y H2 H3 s2 lt yl RT RF rt rf=> ?_) fun D H2 hD s2 d2=> ?_⟩
  ·obtain⟨rfl,yl⟩:=yl;obtain⟨d,rfl,ed⟩:=YX (yl _ (SqL.of (s2 _ _ hp)));obtain⟨w,ew,row⟩:=Yh (ZR s2 pr) j d ed;have row:H3 d=some (.tup w.vs):=row;rw[Zq4 ed ew] at rt rf
   refine⟨⟨rfl,trivial⟩,_,rfl,_,rfl,d,_,_,.int w.day,rfl,rfl,SqT.of row,Zl5 w,_,rfl,_,_,rfl,rfl,_,rfl, ?_⟩;exact Yp (fun z=>⟨_,rfl,rt _ _ (if_pos z) (Zy.refl _)⟩) (fun z=>rf _ (if_neg z) (Zy.refl _))
  ·rw[Xo (fun z:Addr×Rw=>if decide (z.2.day<=day)=true then[V.ref z.1] else[]) (ds.zip ws)] at d2
   obtain⟨es,e,c⟩:=Zfw (fun w=>decide (w.day<=day)) (ZR s2 pr);rw[e] at d2
   exact q D H2 hD s2 ⟨es,d2,c⟩
theorem vne{a b:Str}(h:¬a=b):¬V.str a=V.str b:=fun z=>h (by injection z)
theorem Zrr:¬Str.ofString "put"=Str.ofString "move":=by decide+kernel
theorem ZnK:¬Str.ofString "put"=Str.ofString "deed":=by decide+kernel
theorem Zhm:¬Str.ofString "put"=Str.ofString "lift":=by decide+kernel
theorem Zga:¬Str.ofString "put"=Str.ofString "hold":=by decide+kernel
theorem Zrs:¬Str.ofString "move"=Str.ofString "put":=by decide+kernel
theorem Zq5:¬Str.ofString "move"=Str.ofString "deed":=by decide+kernel
theorem Zke:¬Str.ofString "move"=Str.ofString "lift":=by decide+kernel
theorem ZiP:¬Str.ofString "move"=Str.ofString "hold":=by decide+kernel
theorem Zrt:¬Str.ofString "deed"=Str.ofString "put":=by decide+kernel
theorem Zru:¬Str.ofString "deed"=Str.ofString "move":=by decide+kernel
theorem Zm6:¬Str.ofString "deed"=Str.ofString "lift":=by decide+kernel
theorem ZiQ:¬Str.ofString "deed"=Str.ofString "hold":=by decide+kernel
theorem Zrv:¬Str.ofString "lift"=Str.ofString "put":=by decide+kernel
theorem Ztc:¬Str.ofString "lift"=Str.ofString "move":=by decide+kernel
theorem Ztd:¬Str.ofString "lift"=Str.ofString "deed":=by decide+kernel
theorem Zm7:¬Str.ofString "lift"=Str.ofString "hold":=by decide+kernel
theorem Zrw:¬Str.ofString "hold"=Str.ofString "put":=by decide+kernel
theorem Zte:¬Str.ofString "hold"=Str.ofString "move":=by decide+kernel
theorem Ztf:¬Str.ofString "hold"=Str.ofString "deed":=by decide+kernel
theorem Zrx:¬Str.ofString "hold"=Str.ofString "lift":=by decide+kernel
theorem Zr5(w:Rw)(r:Str):(decide (V.str w.word=V.str "put")&&decide (V.str w.one=V.str r))=Zbb r w:=by
 cases w with
 |put x s d=>
  show(decide (V.str "put"=V.str "put")&&decide (V.str x=V.str r))=decide (x=r);rw[decide_eq_true rfl,Bool.true_and]
  by_cases h:x=r
  ·rw[h,decide_eq_true rfl,decide_eq_true rfl]
  ·rw[decide_eq_false h,decide_eq_false (vne h)]
 |move x s d=>exact(congrArg (fun b=>b&&_) (decide_eq_false (vne Zrs))).trans (Bool.false_and _)
 |deed x k d=>exact(congrArg (fun b=>b&&_) (decide_eq_false (vne Zrt))).trans (Bool.false_and _)
 |lift h d=>exact(congrArg (fun b=>b&&_) (decide_eq_false (vne Zrv))).trans (Bool.false_and _)
 |hold h c n d=>exact(congrArg (fun b=>b&&_) (decide_eq_false (vne Zrw))).trans (Bool.false_and _)
theorem Zoz:ZG ["rows","record"] ["rows","record"] (Zw ZiH):=⟨rfl,rfl,rfl,by decide+kernel,rfl,by decide+kernel,by decide+kernel⟩
theorem ZoA{f:Addr}{fd:FuncData}(F:Fun K "is_put" "is_put" ZiH f fd)(T:Txt K mg Zj Zg Zh Zb Zo):Yn P w K mg base CX0 1 f fd ["rows","record"] Zd6:=by
 refine F.ok Zoz (fun vs H Q E h=> ?_) (fun cdv A outer s H vs Q E hr h=> ?_)
 ·obtain⟨p,ws,r,rfl,_⟩:=h
  rfl
 ·obtain⟨p,ws,r,rfl,⟨ds,hp,pr⟩,lw,q⟩:=h;have l5:=YZ;have le:=Paired.length pr;refine⟨_,(Zn (Zx (ZM (Ziu rfl) (by rfl) T.z_any Zpp (Za (Jh ["row"] [("record",1)] rfl (Yg (pv 0)) (by rfl) (by exact⟨rfl,trivial⟩) (by rfl) (by exact⟨⟨rfl,rfl,rfl⟩,trivial⟩) (fun _ _ _ _=>(ZK (i:=0) (show(nmY ["row"] [("record",1)]).Nodup by decide+kernel) rfl (Or.inl rfl))) (fun _ _ _ _=>Zdu) (fun _ _ _ _=>(Zib (Jz ZZ (Zr (Yq (K:=K) rfl) (pv 0) Zd (fun _ _=>rfl)) ZD (Zt _)) (Zia (Jz ZZ (Zr (Yq (K:=K) rfl) (pv 0) Zd (fun _ _=>rfl)) (pv 1) (Zt _)))))) Zi)))), ?_⟩
  refine⟨_,rfl,p,rfl,⟨_,SqL.of hp⟩,Xm ds.length (fun j=>[((ws[j]?).map fun w=>V.bl (Zbb r w)).getD .non]) (by omega) (fun j=>Nat.le_refl 1) (fun j H4 s4 lt=>⟨_,_,SqL.of (s4 _ _ hp),List.getElem?_eq_getElem (by rw[List.length_map];exact lt)⟩) (fun H4 s4=>⟨_,SqL.of (s4 _ _ hp),by rw[List.length_map];exact Nat.le_refl _⟩) (fun j y H4 H5 s4 lt yl RT RF rt rf=> ?_) fun D4 H4 hD4 s4 d4=> ?_⟩
  ·obtain⟨rfl,yl⟩:=yl;obtain⟨d,rfl,ed⟩:=YX (yl _ (SqL.of (s4 _ _ hp)));obtain⟨w,ew,row⟩:=Yh (ZR s4 pr) j d ed;have row:H5 d=some (.tup w.vs):=row;have out:[((ws[j]?).map fun w=>V.bl (Zbb r w)).getD .non]=[V.bl (Zbb r w)]:=by rw[ew];rfl
   rw[out,<-Zr5] at rt
   refine⟨⟨rfl,trivial⟩, ?_⟩;unfold ZlL;refine XX (ixT rfl (SqT.of row) (Jq w) ⟨rfl,_,rfl,Yp (fun e=> ?_) (fun e=> ?_)⟩)
   ·refine(ixT rfl (SqT.of row) (ZdN w) ⟨_,rfl,rfl,rt _ _ ?_ (Zy.refl _)⟩);rw[e,Bool.true_and]
   ·refine rt _ _ ?_ (Zy.refl _);rw[Bool.eq_false_iff.mpr e,Bool.false_and]
  ·have e6:(List.range ds.length).flatMap (fun j=>[((ws[j]?).map fun w=>V.bl (Zbb r w)).getD .non])=(ws.map (Zbb r)).map V.bl:=by
    rw[Zah,le,ZgB ws (fun w=>V.bl (Zbb r w)) .non,List.map_map]
    rfl
   rw[e6] at d4
   refine⟨D4,ws.map (Zbb r),rfl,SqL.of d4, ?_⟩;rw[List.any_map];exact q H4 s4
theorem Zm8:ZG ["due","holds","day"] ["due","holds","day"] (Zw Zfn):=⟨rfl,rfl,rfl,by decide+kernel,rfl,by decide+kernel,by decide+kernel⟩
theorem Zm9{f:Addr}{fd:FuncData}(F:Fun K "word_for" "word_for" Zfn f fd)(T:Txt K mg Zj Zg Zh Zb Zo):Yn P w K mg base CX0 1 f fd ["due","holds","day"] Zeu:=by
 refine F.ok Zm8 (fun vs H Q E h=> ?_) (fun cdv A outer s H vs Q E hr h=> ?_)
 ·obtain⟨a,zs,due,day,rfl,_⟩:=h
  rfl
 ·obtain⟨a,zs,due,day,rfl,ha,q⟩:=h;have q:=q H (Zy.refl H);refine⟨_,(Ze (ZS (PW.pt (Zb5 (Zq ZbV (pv 0) Yz (Zt _)) (ZbS (Zq Zhh (pv 0) (pv 2) (Zt _))))) (Zn (Zx ZD)) ZF) (Ze (ZS (Zq Zhh (ZM Js (by rfl) T.z_len Zbm (Za (pv 1) Zi)) Zd (Zt _)) (Zn (Zx ZD)) ZF) (Zn (Zx ZD)))), ?_⟩;unfold JD at q
  cases due with
  |none=>exact⟨_,rfl,rfl,_,rfl,Zb9 rfl q⟩
  |some d=>
   refine⟨_,rfl,rfl,_,rfl,Yu (fun z=>nomatch z) ⟨_,rfl,_,rfl,_,_,rfl,rfl,_,rfl,Yp (fun e=> ?_) (fun e=> ?_)⟩⟩
   ·have e:day<d:=of_decide_eq_true e;have q:Q (.str (if day<d then Str.ofString "kept" else if 0<zs.length then Str.ofString "held" else Str.ofString "due")) H:=q;rw[if_pos e] at q
    exact q
   ·have e:¬day<d:=fun z=>e (decide_eq_true z);have q:Q (.str (if day<d then Str.ofString "kept" else if 0<zs.length then Str.ofString "held" else Str.ofString "due")) H:=q;rw[if_neg e] at q
    refine⟨_,rfl,_,_,rfl,.inl ⟨_,SqL.of ha,rfl⟩,_,_,rfl,rfl,_,rfl,Yp (fun e=> ?_) (fun e=> ?_)⟩
    ·have e:=of_decide_eq_true e;rw[List.length_map] at e
     rw[if_pos (by omega)] at q
     exact q
    ·have e:¬(0:Int)<((zs.map V.str).length:Nat):=fun z=>e (decide_eq_true z);rw[List.length_map] at e
     rw[if_neg (by omega)] at q
     exact q
theorem Xv{H H':Hp}{r:Addr}(s:Zy H H')(h:H' r=none):H r=none:=by
 cases z:H r with
 |none=>rfl
 |some u=>rw[s r u z] at h;cases h
def ZiR(H:Hp)(a:Addr)(ns:List Str):Prop:=∃kvs,H a=some (.dK kvs)/\kvs.length<=1000/\∀z:Str,YM kvs (Sum.inr z)=if z∈ns then some (V.bl true) else none
theorem ZiR.get{H:Hp}{a:Addr}{ns:List Str}(h:ZiR H a ns)(z:Str):Zhv H a (.str z) (if z∈ns then some (V.bl true) else none):=by
 obtain⟨kvs,e,_,v⟩:=h;exact .inl ⟨kvs,Sum.inr z,.inl e,rfl,(v z).symm⟩
theorem Zma{kvs:List (Key×V)}{ns:List Str}{y:Str}(h:∀z:Str,YM kvs (Sum.inr z)=if z∈ns then some (V.bl true) else none)(z:Str):YM (Jw kvs (Sum.inr y) (V.bl true)) (Sum.inr z)=if z∈ns++[y] then some (V.bl true) else none:=by
 rw[ZfS]
 by_cases e:z=y
 ·rw[if_pos (by rw[e]),if_pos (List.mem_append_right _ (by rw[e];exact List.mem_singleton_self _))]
 ·rw[if_neg (fun w=>e (by injection w)),h z]
  by_cases m:z∈ns
  ·rw[if_pos m,if_pos (List.mem_append_left _ m)]
  ·rw[if_neg m,if_neg fun w=>(List.mem_append.mp w).elim m fun k=>e (by simpa using k)]
theorem ZoB(w:Rw)(ls:List Str):(decide (V.str w.word=V.str "hold")&& !(if w.one∈ls then some (V.bl true) else none).isSome)=Jp ls w:=by
 cases w with
 |hold h c n d=>
  show(decide (V.str "hold"=V.str "hold")&& !(if h∈ls then some (V.bl true) else none).isSome)=decide (h∉ls);rw[decide_eq_true rfl,Bool.true_and]
  by_cases m:h∈ls
  ·rw[if_pos m,decide_eq_false (fun z=>z m)]
   rfl
  ·rw[if_neg m,decide_eq_true m]
   rfl
 |put x s d=>exact(congrArg (fun b=>b&&_) (decide_eq_false (vne Zga))).trans (Bool.false_and _)
 |move x s d=>exact(congrArg (fun b=>b&&_) (decide_eq_false (vne ZiP))).trans (Bool.false_and _)
 |deed x k d=>exact(congrArg (fun b=>b&&_) (decide_eq_false (vne ZiQ))).trans (Bool.false_and _)
 |lift h d=>exact(congrArg (fun b=>b&&_) (decide_eq_false (vne Zm7))).trans (Bool.false_and _)
theorem ZnL(w:Rw):(V.str w.word=V.str "lift"->Zad w=some w.one)/\(¬V.str w.word=V.str "lift"->Zad w=none):=by
 cases w with
 |lift h d=>exact⟨fun _=>rfl,fun z=>absurd rfl z⟩
 |put x s d=>exact⟨fun z=>absurd z (vne Zhm),fun _=>rfl⟩
 |move x s d=>exact⟨fun z=>absurd z (vne Zke),fun _=>rfl⟩
 |deed x k d=>exact⟨fun z=>absurd z (vne Zm6),fun _=>rfl⟩
 |hold h c n d=>exact⟨fun z=>absurd z (vne Zrx),fun _=>rfl⟩
theorem Zhn{ws:List Rw}{w:Rw}:Xi (ws++[w])=Xi ws++(match Zad w with|some h=>[h]|none=>[]):=by
 unfold Xi;rw[List.filterMap_append,List.filterMap_cons,List.filterMap_nil];cases Zad w<;>rfl
theorem Zry:¬Str.ofString "series"=Str.ofString "record":=by decide+kernel
theorem Zev:ZG ["rows","lifted","row"] ["rows"] (Zw Zfm):=⟨rfl,rfl,rfl,by decide+kernel,rfl,by decide+kernel,by decide+kernel⟩
theorem Zmb{f:Addr}{fd:FuncData}(F:Fun K "standing" "standing" Zfm f fd)(T:Txt K mg Zj Zg Zh Zb Zo):Yn P w K mg base CX0 1 f fd ["rows"] Zbc:=by
 refine F.ok Zev (fun vs H Q E h=> ?_) (fun cdv A outer s H vs Q E hr h=> ?_)
 ·obtain⟨p,ws,rfl,_⟩:=h
  rfl
 ·obtain⟨p,ws,rfl,⟨ds,hp,pr⟩,lw,q⟩:=h;have l5:=YZ;have hu:=ZaJ hr;have le:=Paired.length pr;have lz:(ds.zip ws).length=ds.length:=by rw[List.length_zip];omega
  refine⟨_,(Ze (Zz (i:=1) Zev.nd rfl (Or.inr rfl) Za4) (Ze (Xw PassesOwn.never rfl (Yg (pv 0)) (ZK (i:=2) Zev.nd rfl (Or.inl rfl)) (Zn (ZS (Zq ZZ (Zr Zu (pv 2) Zd (fun _ _=>rfl)) ZD (Zt _)) (Zn (ZbG hu (pv 1) (Zr Zu (pv 2) Zd (fun _ _=>rfl)) Zf9 rfl)) ZF))) (Zn (Zx (Jh ["row"] [("lifted",1)] rfl (Yg (pv 0)) (by rfl) (by exact⟨rfl,trivial⟩) (by rfl) (by exact⟨⟨rfl,rfl,rfl⟩,trivial⟩) (fun _ _ _ _=>(ZK (i:=0) (show(nmY ["row"] [("lifted",1)]).Nodup by decide+kernel) rfl (Or.inl rfl))) (fun _ _ _ _=>(JB (PW.pt (Xb (Zq ZZ (Zr (Yq (K:=K) rfl) (pv 0) Zd (fun _ _=>rfl)) ZD (Zt _)) (YT (Zdo (Zd1 hu (Zr (Yq (K:=K) rfl) (pv 0) Zd (fun _ _=>rfl)) (pv 1)))))))) (fun _ _ _ _=>(pv 0))))))), ?_⟩
  intro A hA;have nAp:p≠A:=Zf hp hA;refine⟨_,rfl,p,rfl,⟨_,SqL.of (Zk hA _ _ hp)⟩,YQ (xs:=ds.map V.ref) (fun i σ H'=>∃v2:Option V,σ=[some (.ref p),some (.ref A),v2]/\(∃kvs,H' A=some (.dK kvs)/\kvs.length<=i/\∀z:Str,YM kvs (Sum.inr z)=if z∈Xi (ws.take i) then some (V.bl true) else none)/\∀b u,b≠A->H b=some u->H' b=some u) ?_ ?_ ?_ ?_⟩
  ·exact⟨none,rfl,⟨[],Zc,Nat.le_refl _,fun z=>rfl⟩,fun b u nb e=>by rw[Zm nb];exact e⟩
  ·rintro i σ H1 _ ⟨v2,rfl,_,fr⟩;exact SqL.of (fr _ _ nAp hp)
  ·rintro i x σ H1 hx ⟨v2,rfl,⟨kvs,hk,lk,vk⟩,fr⟩;obtain⟨d,rfl,ed⟩:=YX hx;have s1:Zy H H1:=fun b u z=>fr b u (Zf z hA) z;obtain⟨w,ew,row⟩:=Yh (ZR s1 pr) i d ed;have row:H1 d=some (.tup w.vs):=row;have tk:ws.take (i+1)=ws.take i++[w]:=by rw[List.take_add_one,ew];rfl
   have hi:i<ws.length:=(List.getElem?_eq_some_iff.mp ew).1;rw[tk,Zhn];refine(ixT rfl (SqT.of row) (Jq w) ⟨rfl,_,rfl,Yp (fun e=> ?_) (fun e=> ?_)⟩)
   ·rw[(ZnL w).1 (of_decide_eq_true e)];refine⟨_,rfl,ixT rfl (SqT.of row) (ZdN w) ⟨A,_,rfl,.inl ⟨kvs,Sum.inr w.one,hk,rfl,by omega,rfl⟩, ?_⟩⟩;exact⟨_,rfl,⟨_,Zc,Nat.le_trans (Zb7 _ _ _) (by omega),Zma vk⟩,fun b u nb z=>by rw[Zm nb];exact fr b u nb z⟩
   ·rw[(ZnL w).2 (fun z=>e (decide_eq_true z)),List.append_nil];exact⟨_,rfl,⟨kvs,hk,Nat.le_succ_of_le lk,vk⟩,fr⟩
  ·rintro σ H1 ⟨v2,rfl,⟨kvs,hk,lk,vk⟩,fr⟩;rw[List.length_map,le,List.take_of_length_le (Nat.le_refl _)] at vk
   rw[List.length_map] at lk
   have s1:Zy H H1:=fun b u z=>fr b u (Zf z hA) z;have hp1:=s1 _ _ hp;have pr1:=ZR s1 pr;have ov:ZiR H1 A (Xi ws):=⟨kvs,hk,by omega,vk⟩
   refine⟨_,rfl,p,rfl,⟨_,SqL.of hp1⟩,Xm (ds.zip ws).length (fun j=>(((ds.zip ws)[j]?).map fun z=>if Jp (Xi ws) z.2=true then[V.ref z.1] else[]).getD []) (by omega) (fun j=>Zm5 (P:=Jp (Xi ws))) (fun j H2 s2 lt=>⟨_,_,SqL.of (s2 _ _ hp1),List.getElem?_eq_getElem (by rw[List.length_map];omega)⟩) (fun H2 s2=>⟨_,SqL.of (s2 _ _ hp1),by rw[List.length_map];omega⟩) (fun j y H2 H3 s2 lt yl RT RF rt rf=> ?_) fun D H2 hD s2 d2=> ?_⟩
   ·obtain⟨rfl,yl⟩:=yl;obtain⟨d,rfl,ed⟩:=YX (yl _ (SqL.of (s2 _ _ hp1)));obtain⟨w,ew,row⟩:=Yh (ZR s2 pr1) j d ed;have row:H3 d=some (.tup w.vs):=row;have ov3:ZiR H3 A (Xi ws):=⟨kvs,s2 _ _ hk,by omega,vk⟩
    rw[Zq4 ed ew] at rt rf
    have sa:=ZoB w (Xi ws);refine⟨⟨rfl,trivial⟩,ixT rfl (SqT.of row) (Jq w) ⟨rfl,_,rfl,Yp (fun e=> ?_) (fun e=> ?_)⟩⟩
    ·refine(ixT rfl (SqT.of row) (ZdN w) ⟨_,rfl,A,_,rfl,ov3.get w.one,_,rfl, ?_⟩);rw[e,Bool.true_and] at sa
     rw[sa];exact Yp (fun z=>⟨_,rfl,rt _ _ (if_pos z) (Zy.refl _)⟩) (fun z=>rf _ (if_neg z) (Zy.refl _))
    ·rw[Bool.eq_false_iff.mpr e,Bool.false_and] at sa
     exact ZW (rf _ (if_neg (by rw[<-sa];exact Bool.false_ne_true)) (Zy.refl _))
   ·rw[Xo (fun z:Addr×Rw=>if Jp (Xi ws) z.2=true then[V.ref z.1] else[]) (ds.zip ws)] at d2
    obtain⟨es,e,c⟩:=Zfw (Jp (Xi ws)) (ZR s2 pr1);rw[e] at d2
    exact q D H2 (Xv s1 hD) (s1.trans s2) ⟨es,d2,c⟩
theorem Zjy:ZG ["row","record","over"] ["row","record","over"] (Zw Zdw):=⟨rfl,rfl,rfl,by decide+kernel,rfl,by decide+kernel,by decide+kernel⟩
theorem Zjz{f:Addr}{fd:FuncData}(F:Fun K "is_laid_on" "is_laid_on" Zdw f fd)(T:Txt K mg Zj Zg Zh Zb Zo):Yn P w K mg base CX0 1 f fd ["row","record","over"] ZcL:=by
 refine F.ok Zjy (fun vs H Q E h=> ?_) (fun cdv A outer s H vs Q E hr h=> ?_)
 ·obtain⟨a,o,h,n,rec,d,r,line,kvs,rfl,_⟩:=h
  rfl
 ·obtain⟨a,o,h,n,rec,d,r,line,kvs,rfl,ha,ho,hg,q⟩:=h;have hu:=ZaJ hr;have ha:H a=some (.tup [.str "hold",.str h,.str (onW rec),.str n,.int d]):=ha;have q:=q H (Zy.refl H);refine⟨_,(Ze (ZS (Zq ZZ (Zr Zu (pv 0) Zd (fun _ _=>rfl)) ZD (Zt _)) (Zn (Zx (Jz ZZ (Zr Zu (pv 0) Zd (fun _ _=>rfl)) (pv 1) (Zt _)))) ZF) (Zn (Zx (ZrF (Zim hu (Zr Zu (pv 0) Zd (fun _ _=>rfl)) (pv 2)))))), ?_⟩;cases rec with
  |true=>
   refine(ixT rfl (SqT.of ha) rfl ⟨rfl,_,rfl,Zb9 rfl (ixT rfl (SqT.of ha) rfl ⟨_,rfl,rfl,Zov q ?_⟩)⟩);show V.bl (decide (n=r))=V.bl (decide (V.str n=V.str r))
   by_cases e:n=r
   ·rw[e,decide_eq_true rfl,decide_eq_true rfl]
   ·rw[decide_eq_false e,decide_eq_false (vne e)]
  |false=>
   refine(ixT rfl (SqT.of ha) rfl ⟨rfl,_,rfl,Yu (vne Zry) (ixT rfl (SqT.of ha) rfl ⟨_,rfl,o,_,rfl,hg n,Zov q ?_⟩)⟩);show V.bl (decide (n∈line))=V.bl (if n∈line then some (V.bl true) else none).isSome
   by_cases e:n∈line
   ·rw[if_pos e,decide_eq_true e];rfl
   ·rw[if_neg e,decide_eq_false e];rfl
theorem ZeZ(a b:Str):inV (.str a) [.str a,.str b]=true:=by
 show(eqV (.str a) (.str a)||_)=true;rw[Jt rfl,Bool.true_or]
theorem Zq6{a b:Str}(h:¬a=b):eqV (.str a) (.str b)=false:=beq_false_of_ne h
theorem Zda(a b:Str):inV (.str b) [.str a,.str b]=true:=by
 show(eqV (.str a) (.str b)||(eqV (.str b) (.str b)||false))=true;rw[Jt rfl,Bool.true_or,Bool.or_true]
theorem Jy{a b c:Str}(h1:¬a=c)(h2:¬b=c):inV (.str c) [.str a,.str b]=false:=by
 show(eqV (.str a) (.str c)||(eqV (.str b) (.str c)||false))=false;rw[Zq6 h1,Zq6 h2]
 rfl
theorem ZiS(r:Str):∀(ws:List Rw) (l:Tb),(ws.foldl (Xa r) l).length<=l.length+ws.length
 |[],l=>Nat.le_refl _
 |w::ws,l=>by
  have h:=ZiS r ws (Xa r l w);have k:(Xa r l w).length<=l.length+1:=by
   unfold Xa
   split
   ·split
    ·exact Ziw ..
    ·exact Nat.le_succ _
   ·split
    ·exact Ziw ..
    ·exact Nat.le_succ _
   ·exact Nat.le_succ _
  rw[List.length_cons,List.foldl_cons];omega
theorem Zq7(i j:Int):(if j>i then j else i)=max i j:=by split<;>omega
theorem ZdO:ZG ["rows","record","life","row","kind"] ["rows","record"] (Zw ZgJ):=⟨rfl,rfl,rfl,by decide+kernel,rfl,by decide+kernel,by decide+kernel⟩
theorem Zn5{f:Addr}{fd:FuncData}(F:Fun K "life_of" "life_of" ZgJ f fd)(T:Txt K mg Zj Zg Zh Zb Zo):Yn P w K mg base CX0 1 f fd ["rows","record"] ZdH:=by
 refine F.ok ZdO (fun vs H Q E h=> ?_) (fun cdv A outer s H vs Q E hr h=> ?_)
 ·obtain⟨p,ws,r,rfl,_⟩:=h
  rfl
 ·obtain⟨p,ws,r,rfl,⟨ds,hp,pr⟩,lw,q⟩:=h;have l5:=YZ;have hu:=ZaJ hr;have le:=Paired.length pr;refine⟨_,(Ze (Zz (i:=2) ZdO.nd rfl (Or.inl rfl) Za4) (Ze (Xw PassesOwn.never rfl (Yg (pv 0)) (ZK (i:=3) ZdO.nd rfl (Or.inl rfl)) (Zn (ZS (PW.pt (Xb (Zq ZaK (Zr Zu (pv 3) Zd (fun _ _=>rfl)) (Yr (Za ZD (Za ZD Zi))) rfl) (YT (Zq ZZ (Zr Zu (pv 3) Zd (fun _ _=>rfl)) (pv 1) (Zt _))))) (Ze (Zz (i:=4) ZdO.nd rfl (Or.inl rfl) (ZbU (Zq ZZ (Zr Zu (pv 3) Zd (fun _ _=>rfl)) ZD (Zt _)) ZD (Zr Zu (pv 3) Zd (fun _ _=>rfl)))) (Zn (ZbG hu (pv 2) (pv 4) (ZM (Zgv rfl) (by rfl) T.z_max Zip (Za (Zr Zu (pv 3) Zd (fun _ _=>rfl)) (Za (Zin hu (pv 2) (pv 4) (Zr Zu (pv 3) Zd (fun _ _=>rfl)) ⟨rfl,rfl,rfl,rfl⟩) Zi))) rfl))) ZF))) (Zn (Zx (pv 2))))), ?_⟩
  intro L hL;have nLp:p≠L:=Zf hp hL;refine⟨_,rfl,p,rfl,⟨_,SqL.of (Zk hL _ _ hp)⟩,YQ (xs:=ds.map V.ref) (fun i σ H'=>∃v3 v4:Option V,σ=[some (.ref p),some (.str r),some (.ref L),v3,v4]/\H' L=some (.dK (kk (Yc (ws.take i) r)))/\∀b u,b≠L->H b=some u->H' b=some u) ?_ ?_ ?_ ?_⟩
  ·exact⟨none,none,rfl,Zc,fun b u nb e=>by rw[Zm nb];exact e⟩
  ·rintro i σ H1 _ ⟨v3,v4,rfl,_,fr⟩;exact SqL.of (fr _ _ nLp hp)
  ·rintro i x σ H1 hx ⟨v3,v4,rfl,hl,fr⟩;obtain⟨d,rfl,ed⟩:=YX hx;have s1:Zy H H1:=fun b u z=>fr b u (Zf z hL) z;obtain⟨w,ew,row⟩:=Yh (ZR s1 pr) i d ed;have row:H1 d=some (.tup w.vs):=row;have hi:i<ws.length:=(List.getElem?_eq_some_iff.mp ew).1;have tk:Yc (ws.take (i+1)) r=Xa r (Yc (ws.take i) r) w:=by
    unfold Yc;rw[List.take_add_one,ew,List.foldl_append]
    rfl
   have len:=ZiS r (ws.take i) [];have l0:(Yc (ws.take i) r).length<=1000:=by
    have:=List.length_take_le i ws;rw[List.length_nil] at len
    exact Nat.le_trans len (by omega)
   rw[tk];generalize Yc (ws.take i) r=l at hl l0
   have lk1:(kk l).length<sizeLine:=by rw[Zk2];omega
   refine(ixT rfl (SqT.of row) (Jq w) ⟨show 2<=sizeLine from sl,fun t ht=>⟨t,_,rfl,.inr (SqT.of Zc),rfl,rfl,_,rfl, ?_⟩⟩);have s2:=Zk (o:=.tup [.str "put",.str "deed"]) ht;have hl2:=s2 _ _ hl;have row2:=s2 _ _ row;have fr2:∀b u,b≠L->H b=some u->upd H1 t (.tup [.str "put",.str "deed"]) b=some u:=fun b u nb e=>s2 _ _ (fr b u nb e);generalize upd H1 t (.tup [.str "put",.str "deed"])=H2 at hl2 row2 fr2
   have keep:∀{v:Option V},∃v3 v4:Option V,[some (V.ref p),some (.str r),some (.ref L),some (.ref d),v]=[some (.ref p),some (.str r),some (.ref L),v3,v4]/\H2 L=some (.dK (kk l))/\∀b u,b≠L->H b=some u->H2 b=some u:=fun{v}=>⟨_,_,rfl,hl2,fr2⟩
   have done:∀(kind:Str) (dd:Int) {v:Option V},∃v3 v4:Option V,[some (V.ref p),some (.str r),some (.ref L),some (.ref d),v]=[some (.ref p),some (.str r),some (.ref L),v3,v4]/\upd H2 L (.dK (Jw (kk l) (Sum.inr kind) (.int (if(lk l kind).getD dd>dd then(lk l kind).getD dd else dd)))) L=some (.dK (kk (Zhy l kind (max dd ((lk l kind).getD dd)))))/\∀b u,b≠L->H b=some u->upd H2 L (.dK (Jw (kk l) (Sum.inr kind) (.int (if(lk l kind).getD dd>dd then(lk l kind).getD dd else dd)))) b=some u:=fun kind dd {v}=>⟨_,_,rfl,by rw[Zc,Zpv,Zq7],fun b u nb e=>by rw[Zm nb];exact fr2 b u nb e⟩
   have ej:∀(kind:Str) (dd:Int),((lk l kind).map V.int).getD (V.int dd)=V.int ((lk l kind).getD dd):=fun kind dd=>by cases lk l kind<;>rfl
   have rd2:Rd H2 L (.dK (kk l)):=.inl hl2;cases w with
   |put x s dd=>
    have row2:H2 d=some (.tup [.str "put",.str x,.str s,.int dd]):=row2;show if inV (.str "put") [.str "put",.str "deed"]=true then _ else _;rw[ZeZ];refine XX (ixT rfl (SqT.of row2) rfl ⟨_,rfl,rfl,_,rfl,Yp (fun e=> ?_) (fun e=> ?_)⟩)
    ·have e:V.str x=V.str r:=of_decide_eq_true e;have e:x=r:=by injection e
     rw[show Xa r l (.put x s dd)=Zhy l "put" (max dd ((lk l "put").getD dd)) from if_pos e];exact(ixT rfl (SqT.of row2) rfl ⟨rfl,_,rfl,Zb9 rfl (ixT rfl (SqT.of row2) rfl ⟨_,rfl,L,rfl,.inl ⟨_,rd2⟩,_,rfl,ixT rfl (SqT.of row2) rfl ⟨_,ZcO rd2 "put",dd,(lk l "put").getD dd,by rw[ej],_,rfl,_,rfl,L,_,rfl,Zgz.k (k:=Sum.inr "put") hl2 lk1,done "put" dd⟩⟩)⟩)
    ·have e:¬x=r:=fun z=>e (decide_eq_true (by rw[z]));rw[show Xa r l (.put x s dd)=l from if_neg e];exact keep
   |deed x k dd=>
    have row2:H2 d=some (.tup [.str "deed",.str x,.str k,.int dd]):=row2;show if inV (.str "deed") [.str "put",.str "deed"]=true then _ else _;rw[Zda];refine XX (ixT rfl (SqT.of row2) rfl ⟨_,rfl,rfl,_,rfl,Yp (fun e=> ?_) (fun e=> ?_)⟩)
    ·have e:V.str x=V.str r:=of_decide_eq_true e;have e:x=r:=by injection e
     rw[show Xa r l (.deed x k dd)=Zhy l k (max dd ((lk l k).getD dd)) from if_pos e];exact(ixT rfl (SqT.of row2) rfl ⟨rfl,_,rfl,Yu (vne Zrt) (ixT rfl (SqT.of row2) rfl (ixT rfl (SqT.of row2) rfl ⟨_,rfl,L,rfl,.inl ⟨_,rd2⟩,_,rfl,ixT rfl (SqT.of row2) rfl ⟨_,ZcO rd2 k,dd,(lk l k).getD dd,by rw[ej],_,rfl,_,rfl,L,_,rfl,Zgz.k (k:=Sum.inr k) hl2 lk1,done k dd⟩⟩))⟩)
    ·have e:¬x=r:=fun z=>e (decide_eq_true (by rw[z]));rw[show Xa r l (.deed x k dd)=l from if_neg e];exact keep
   |move x s dd=>
    show if inV (.str "move") [.str "put",.str "deed"]=true then _ else _;rw[Jy Zrr Zru];exact ZW (ZW keep)
   |lift h dd=>
    show if inV (.str "lift") [.str "put",.str "deed"]=true then _ else _;rw[Jy Zhm Zm6];exact ZW (ZW keep)
   |hold h c n dd=>
    show if inV (.str "hold") [.str "put",.str "deed"]=true then _ else _;rw[Jy Zga ZiQ];exact ZW (ZW keep)
  ·rintro σ H1 ⟨v3,v4,rfl,hl,fr⟩;rw[List.length_map,le,List.take_of_length_le (Nat.le_refl _)] at hl
   exact⟨_,rfl,q L H1 hL (fun b u z=>fr b u (Zf z hL) z) hl⟩
def ZiT(H:Hp)(y:ZaI)(v:V):Prop:=∃p,v=.ref p/\H p=some (.tup [.int y.1,.str y.2])
theorem ZiU{K:PySem.W.Frag}{H:Hp}:∀{ys:List ZaI} {us:List V},Paired (ZiT H) ys us->Paired (ZcC K H) ys us
 |_,_,.nil=> .nil
 |_,_,.cons ⟨p,e,h⟩ t=> .cons ⟨p,e,SqT.of h⟩ (ZiU t)
theorem ZaU{H H':Hp}(s:∀b xs,H b=some (.tup xs)->H' b=some (.tup xs)):∀{ys:List ZaI} {us:List V},Paired (ZiT H) ys us->Paired (ZiT H') ys us
 |_,_,.nil=> .nil
 |_,_,.cons ⟨p,e,h⟩ t=> .cons ⟨p,e,s _ _ h⟩ (ZaU s t)
theorem Zfx{ws:List Rw}{w:Rw}{r:Str}:Ym (ws++[w]) r=Ym ws r++(match ZaP r w with|some y=>[y]|none=>[]):=by
 unfold Ym;rw[List.filterMap_append,List.filterMap_cons,List.filterMap_nil];cases ZaP r w<;>rfl
theorem Zkf(ws:List Rw)(r:Str):(Ym ws r).length<=ws.length:=List.length_filterMap_le ..
theorem Zgb:ZG ["rows","record","places"] ["rows","record"] (Zw Zei):=⟨rfl,rfl,rfl,by decide+kernel,rfl,by decide+kernel,by decide+kernel⟩
theorem Zl6{f:Addr}{fd:FuncData}(F:Fun K "series_of" "series_of" Zei f fd)(T:Txt K mg Zj Zg Zh Zb Zo):Yn P w K mg base CX0 1 f fd ["rows","record"] ZbJ:=by
 refine F.ok Zgb (fun vs H Q E h=> ?_) (fun cdv A outer s H vs Q E hr h=> ?_)
 ·obtain⟨p,ws,r,y,rfl,_⟩:=h
  rfl
 ·obtain⟨p,ws,r,y,rfl,⟨ds,hp,pr⟩,lw,top,q⟩:=h;have l5:=YZ;have hu3:=ZlQ hr;have le:=Paired.length pr;refine⟨_,(Ze (ZfT (i:=2) ["row"] [("record",1)] Zgb.nd rfl (Or.inl rfl) rfl (Yg (pv 0)) (by rfl) (by exact⟨rfl,trivial⟩) (by rfl) (by exact⟨⟨rfl,rfl,rfl⟩,trivial⟩) (fun _ _ _ _=>(ZK (i:=0) (show(nmY ["row"] [("record",1)]).Nodup by decide+kernel) rfl (Or.inl rfl))) (fun _ _ _ _=>(JB (PW.pt (Xb (Zq (ZmV (K:=K) rfl) (Zr (Yq (K:=K) rfl) (pv 0) Zd (fun _ _=>rfl)) (Yr (Za ZD (Za ZD Zi))) rfl) (YT (Zq ZZ (Zr (Yq (K:=K) rfl) (pv 0) Zd (fun _ _=>rfl)) (pv 1) (Zt _))))))) (fun _ _ _ _=>(Yr (Za (Zr (Yq (K:=K) rfl) (pv 0) Zd (fun _ _=>rfl)) (Za (Zr (Yq (K:=K) rfl) (pv 0) Zd (fun _ _=>rfl)) Zi))))) (Zn (Zx (Zr Zu (ZM (Zk8 rfl hu3) (by rfl) T.z_max Zip (Za (pv 2) Zi)) Zd (fun _ _=>rfl))))), ?_⟩
  refine⟨_,rfl,p,rfl,⟨_,SqL.of hp⟩,ZfV fun D hD=>⟨ds.length,fun i ys H2=>Zy H H2/\Paired (ZiT H2) (Ym (ws.take i) r) ys,by omega,⟨Zk hD,.nil⟩,fun i ys H2 ⟨_,k⟩=> ?_,fun i ys zs H2 H3 e kp ⟨s2,k⟩=>⟨fun b u z=>kp b u (Zf z hD) (s2 b u z),ZaU (fun b xs z=>kp b _ (Yj z e (fun w=>nomatch w)) z) k⟩,fun i ys H2 ⟨s2,_⟩ lt=>⟨_,_,SqL.of (s2 _ _ hp),List.getElem?_eq_getElem (by rw[List.length_map];exact lt)⟩,fun ys H2 ⟨s2,k⟩ d=>⟨⟨_,SqL.of (s2 _ _ hp),by rw[List.length_map];exact Nat.le_refl _⟩, ?_⟩,fun i x ys H2 H3 ⟨s2,k⟩ d lt yl RT RF rt rf=> ?_⟩⟩
  ·rw[<-Paired.length k];exact Nat.le_trans (Zkf _ _) (List.length_take_le _ _)
  ·rw[le,List.take_of_length_le (Nat.le_refl _)] at k
   obtain⟨v0,us,eus⟩:∃v0 us,ys=v0::us:=by
    cases ys with
    |nil=>
     have z:Ym ws r=[]:=List.eq_nil_of_length_eq_zero (Paired.length k);have m:=top.1;rw[z] at m
     cases m
    |cons v0 us=>exact⟨v0,us,rfl⟩
   subst eus;refine⟨_,rfl,D,v0,us,_,rfl,SqL.of d,ZiU k,fun v y' mem sp best=> ?_⟩;obtain rfl:=top.one ⟨mem,best⟩;obtain⟨pv,rfl,hv⟩:=sp;exact⟨pv,_,_,_,rfl,rfl,hv,rfl,q H2 s2⟩
  ·obtain⟨rfl,yl⟩:=yl;obtain⟨d0,rfl,ed⟩:=YX (yl _ (SqL.of (s2 _ _ hp)));obtain⟨w,ew,row⟩:=Yh (ZR s2 pr) i d0 ed;have row:H3 d0=some (.tup w.vs):=row;have tk:ws.take (i+1)=ws.take i++[w]:=by rw[List.take_add_one,ew];rfl
   rw[tk,Zfx] at rt rf
   refine⟨⟨rfl,trivial⟩,ixT rfl (SqT.of row) (Jq w) ⟨show 2<=sizeLine from sl,fun t ht=>⟨t,_,rfl,.inr (SqT.of Zc),rfl,rfl,_,rfl, ?_⟩⟩⟩;have s3:=Zk (o:=.tup [.str "put",.str "move"]) ht;have row2:=s3 _ _ row;have d2:=s3 _ _ d;have k2:=ZaU (fun b xs z=>s3 b _ z) k;have s23:=s2.trans s3;generalize upd H3 t (.tup [.str "put",.str "move"])=H4 at row2 d2 k2 s23
   have none_:ZaP r w=none->RF H4:=fun e=>rf _ d2 ⟨s23,by rw[e,List.append_nil];exact k2⟩
   have some_:∀(dd:Int) (sr:Str),ZaP r w=some (dd,sr)->∀t2,H4 t2=none->RT (.ref t2) (upd H4 t2 (.tup [.int dd,.str sr])):=fun dd sr e t2 ht2=>by
    have s5:=Zk (o:=.tup [.int dd,.str sr]) ht2;refine rt _ _ (s5 _ _ d2) ⟨s23.trans s5, ?_⟩;rw[e];exact Paired.snoc (ZaU (fun b xs z=>s5 b _ z) k2) ⟨t2,rfl,Zc⟩
   cases w with
   |put x s dd=>
    have row2:H4 d0=some (.tup [.str "put",.str x,.str s,.int dd]):=row2;show if inV (.str "put") [.str "put",.str "move"]=true then _ else _;rw[ZeZ];refine XX (ixT rfl (SqT.of row2) rfl ⟨_,rfl,rfl,_,rfl,Yp (fun e=> ?_) (fun e=> ?_)⟩)
    ·have e:V.str x=V.str r:=of_decide_eq_true e;have e:x=r:=by injection e
     exact(ixT rfl (SqT.of row2) rfl (ixT rfl (SqT.of row2) rfl ⟨show 2<=sizeLine from sl,fun t2 ht2=>some_ dd s (if_pos e) t2 ht2⟩))
    ·have e:¬x=r:=fun z=>e (decide_eq_true (by rw[z]));exact none_ (if_neg e)
   |move x s dd=>
    have row2:H4 d0=some (.tup [.str "move",.str x,.str s,.int dd]):=row2;show if inV (.str "move") [.str "put",.str "move"]=true then _ else _;rw[Zda];refine XX (ixT rfl (SqT.of row2) rfl ⟨_,rfl,rfl,_,rfl,Yp (fun e=> ?_) (fun e=> ?_)⟩)
    ·have e:V.str x=V.str r:=of_decide_eq_true e;have e:x=r:=by injection e
     exact(ixT rfl (SqT.of row2) rfl (ixT rfl (SqT.of row2) rfl ⟨show 2<=sizeLine from sl,fun t2 ht2=>some_ dd s (if_pos e) t2 ht2⟩))
    ·have e:¬x=r:=fun z=>e (decide_eq_true (by rw[z]));exact none_ (if_neg e)
   |deed x k dd=>
    show if inV (.str "deed") [.str "put",.str "move"]=true then _ else _;rw[Jy ZnK Zq5];exact ZW (ZW (none_ rfl))
   |lift h dd=>
    show if inV (.str "lift") [.str "put",.str "move"]=true then _ else _;rw[Jy Zhm Zke];exact ZW (ZW (none_ rfl))
   |hold h c n dd=>
    show if inV (.str "hold") [.str "put",.str "move"]=true then _ else _;rw[Jy Zga ZiP];exact ZW (ZW (none_ rfl))
theorem Zcc{ls:List Str}{w:Rw}(h:Jp ls w=true):∃hh c n d,w=.hold hh c n d:=by
 cases w with
 |hold hh c n d=>exact⟨hh,c,n,d,rfl⟩
 |_=>cases h
theorem Zew:ZG ["rows","record","line","over","name"] ["rows","record","line"] (Zw Zfl):=⟨rfl,rfl,rfl,by decide+kernel,rfl,by decide+kernel,by decide+kernel⟩
theorem Zmc{f:Addr}{fd:FuncData}(F:Fun K "holds_on" "holds_on" Zfl f fd)(T:Txt K mg Zj Zg Zh Zb Zo)(ZdP:Cal P w K mg base CX0 1 "is_laid_on" ["row","record","over"] ZcL)(Jr:Cal P w K mg base CX0 1 "standing" ["rows"] Zbc):Yn P w K mg base CX0 2 f fd ["rows","record","line"] Zet:=by
 refine F.ok Zew (fun vs H Q E h=> ?_) (fun cdv A outer s H vs Q E hr h=> ?_)
 ·obtain⟨p,l,ws,r,line,rfl,_⟩:=h
  rfl
 ·obtain⟨p,l,ws,r,line,rfl,rw_,lw,hl,ll,lh,q⟩:=h;have l5:=YZ;have hu:=ZaJ hr;refine⟨_,(Ze (Zz (i:=3) Zew.nd rfl (Or.inr rfl) Za4) (Ze (Xw PassesOwn.never rfl (Yg (pv 2)) (ZK (i:=4) Zew.nd rfl (Or.inl rfl)) (Zn (ZbG hu (pv 3) (pv 4) Zf9 rfl))) (Zn (Zx (ZM JV (by rfl) T.z_sorted Zai (Za (Jh ["row"] [("record",1),("over",3)] rfl (Yg (ZQ Jr (hr.mono (by omega)) rfl ZJ (Za (pv 0) Zi))) (by rfl) (by exact⟨rfl,⟨rfl,trivial⟩⟩) (by rfl) (by exact⟨⟨rfl,rfl,rfl⟩,⟨⟨rfl,rfl,rfl⟩,trivial⟩⟩) (fun _ _ _ _=>(ZK (i:=0) (show(nmY ["row"] [("record",1),("over",3)]).Nodup by decide+kernel) rfl (Or.inl rfl))) (fun _ _ _ _=>(JB (Zaq (ZQ ZdP (hr.mono (by omega)) rfl ZJ (Za (pv 0) (Za (pv 1) (Za (pv 2) Zi))))))) (fun _ _ _ _=>(Zr (Yq (K:=K) rfl) (pv 0) Zd (fun _ _=>rfl)))) Zi)))))), ?_⟩
  intro A hA;have nAl:l≠A:=Zf hl hA;refine⟨_,rfl,l,rfl,⟨_,SqL.of (Zk hA _ _ hl)⟩,YQ (xs:=line.map V.str) (fun i σ H'=>∃v4:Option V,σ=[some (.ref p),some (.str r),some (.ref l),some (.ref A),v4]/\(∃kvs,H' A=some (.dK kvs)/\kvs.length<=i/\∀z:Str,YM kvs (Sum.inr z)=if z∈line.take i then some (V.bl true) else none)/\∀b u,b≠A->H b=some u->H' b=some u) ?_ ?_ ?_ ?_⟩
  ·exact⟨none,rfl,⟨[],Zc,Nat.le_refl _,fun z=>rfl⟩,fun b u nb e=>by rw[Zm nb];exact e⟩
  ·rintro i σ H1 _ ⟨v4,rfl,_,fr⟩;exact SqL.of (fr _ _ nAl hl)
  ·rintro i x σ H1 hx ⟨v4,rfl,⟨kvs,hk,lk,vk⟩,fr⟩;have en:line[i]? =some ((line[i]?).getD Str.empty):=by
    rw[List.getElem?_map] at hx
    cases e:line[i]? with
    |none=>rw[e] at hx;cases hx
    |some n=>rfl
   generalize (line[i]?).getD Str.empty=n at en
   obtain rfl:V.str n=x:=by
    rw[List.getElem?_map,en] at hx
    exact Option.some.inj hx
   have hi:i<line.length:=(List.getElem?_eq_some_iff.mp en).1;have tk:line.take (i+1)=line.take i++[n]:=by rw[List.take_add_one,en];rfl
   rw[tk];refine⟨_,rfl,_,rfl,A,_,rfl,.inl ⟨kvs,Sum.inr n,hk,rfl,by omega,rfl⟩, ?_⟩;exact⟨_,rfl,⟨_,Zc,Nat.le_trans (Zb7 _ _ _) (by omega),Zma vk⟩,fun b u nb z=>by rw[Zm nb];exact fr b u nb z⟩
  ·rintro σ H1 ⟨v4,rfl,⟨kvs,hk,lk,vk⟩,fr⟩;rw[List.length_map] at lk
   rw[List.length_map,List.take_of_length_le (Nat.le_refl _)] at vk
   have s1:Zy H H1:=fun b u z=>fr b u (Zf z hA) z;obtain⟨ds0,hp,pr⟩:=rw_;refine⟨_,rfl,p,ws,rfl,⟨ds0,s1 _ _ hp,ZR s1 pr⟩,lw,fun S H2 hS s2 ⟨es,hs,prs⟩=>⟨S,rfl,⟨_,SqL.of hs⟩, ?_⟩⟩;have le:=Paired.length prs;have lst:(Yy ws).length<=1000:=Nat.le_trans (List.length_filter_le _ _) lw;have hk2:=s2 _ _ hk;refine Xm es.length (fun j=>(((Yy ws)[j]?).map fun w=>if ZaQ r line w=true then[V.str w.one] else[]).getD []) (by omega) (fun j=> ?_) (fun j H4 s4 lt=>⟨_,_,SqL.of (s4 _ _ hs),List.getElem?_eq_getElem (by rw[List.length_map];exact lt)⟩) (fun H4 s4=>⟨_,SqL.of (s4 _ _ hs),by rw[List.length_map];exact Nat.le_refl _⟩) (fun j y H4 H5 s4 lt yl RT RF rt rf=> ?_) fun D H3 hD s3 d3=> ?_
   ·cases(Yy ws)[j]? with
    |none=>exact Nat.zero_le 1
    |some w=>
     show(if _ then[V.str w.one] else[]).length<=1
     split
     ·exact Nat.le_refl 1
     ·exact Nat.zero_le 1
   ·obtain⟨rfl,yl⟩:=yl;obtain⟨d,rfl,ed⟩:=YX (yl _ (SqL.of (s4 _ _ hs)));obtain⟨w,ew,row⟩:=Yh (ZR s4 prs) j d ed;obtain⟨hh,c,n,dd,rfl⟩:=Zcc (List.mem_filter.mp (List.mem_of_getElem? ew)).2;have ov:ZiR H5 A line:=⟨kvs,s4 _ _ hk2,by omega,vk⟩
    rw[ew] at rt rf
    refine⟨⟨rfl,rfl,trivial⟩,_,rfl,_,rfl,_,rfl,d,A,hh,n,c,dd,r,line,kvs,rfl,row,s4 _ _ hk2,ov.get,fun H6 s6=>⟨_,rfl, ?_⟩⟩;have row6:H6 d=some (.tup [.str "hold",.str hh,.str (onW c),.str n,.int dd]):=s6 _ _ row;exact Yp (fun z=>ixT rfl (SqT.of row6) rfl (rt _ _ (if_pos z) s6)) (fun z=>rf _ (if_neg z) s6)
   ·have e6:(List.range es.length).flatMap (fun j=>(((Yy ws)[j]?).map fun w=>if ZaQ r line w=true then[V.str w.one] else[]).getD [])=(Yw ws r line).map V.str:=by
     rw[le,Xo (fun w=>if ZaQ r line w=true then[V.str w.one] else[]) (Yy ws)];unfold Yw;generalize Yy ws=us
     induction us with
     |nil=>rfl
     |cons w us ih=>
      rw[List.flatMap_cons,ih];cases h:ZaQ r line w with
      |true=>rw[if_pos rfl,List.filter_cons_of_pos h];rfl
      |false=>rw[if_neg Bool.false_ne_true,List.filter_cons_of_neg (by rw[h];exact Bool.false_ne_true)];rfl
    rw[e6] at d3
    refine⟨D,Yw ws r line,rfl,SqL.of d3,lh,fun zs pz sz D2 hD2=> ?_⟩;have s13:=s1.trans (s2.trans s3);exact q D2 zs _ (Xv s13 hD2) (s13.trans (Zk hD2)) pz sz Zc
theorem Zn6:∀ys:List ZaI,ys≠[]->∃y,Top ys y
 |[],h=>absurd rfl h
 |[y],_=>⟨y,List.mem_singleton_self _,fun z hz=>by
   have:z=y:=by simpa using hz
   rw[this];exact Zc2.irr _⟩
 |x::x2::ys,_=>by
  obtain⟨y,m,b⟩:=Zn6 (x2::ys) (by simp);cases h:Zju y x with
  |true=>
   refine⟨x,List.mem_cons_self ..,fun z hz=> ?_⟩;obtain rfl|hz:=List.mem_cons.mp hz
   ·exact Zc2.irr _
   ·cases k:Zju x z with
    |false=>rfl
    |true=>exact absurd (Zc2.tr _ _ _ h k) (by rw[b z hz];exact Bool.false_ne_true)
  |false=>
   refine⟨y,List.mem_cons_of_mem _ m,fun z hz=> ?_⟩;obtain rfl|hz:=List.mem_cons.mp hz
   ·exact h
   ·exact b z hz
theorem ZiV{ws:List Rw}{r:Str}(h:YL ws r=true):Ym ws r≠[]:=fun z=>by
 obtain⟨w,hw,e⟩:=List.any_eq_true.mp h;cases w with
 |put x s d=>
  have e:x=r:=of_decide_eq_true e;have m:((d,s):ZaI)∈Ym ws r:=List.mem_filterMap.mpr ⟨_,hw,if_pos e⟩;rw[z] at m
  cases m
 |_=>cases e
theorem Zf0{ws:List Rw}{r:Str}{day:Int}{y:ZaI}(h:y∈Ym (ZL ws day) r):y∈Ym ws r:=by
 obtain⟨w,hw,e⟩:=List.mem_filterMap.mp h;exact List.mem_filterMap.mpr ⟨w,(List.mem_filter.mp hw).1,e⟩
theorem Zkg{ws:List Rw}{r:Str}{day:Int}{line:List Str}:(Yw (ZL ws day) r line).length<=(ws.filter JH).length:=by
 have sub:((Yy (ZL ws day)).filter (ZaQ r line)).length<=((ZL ws day).filter JH).length:=by
  refine Nat.le_trans (List.length_filter_le _ _) ?_;unfold Yy;generalize Xi (ZL ws day)=ls
  induction ZL ws day with
  |nil=>exact Nat.le_refl _
  |cons w us ih=>
   cases hs:Jp ls w with
   |true=>
    obtain⟨hh,c,n,d,rfl⟩:=Zcc hs;rw[List.filter_cons_of_pos hs,List.filter_cons_of_pos (show JH (.hold hh c n d)=true from rfl),List.length_cons,List.length_cons];omega
   |false=>
    rw[List.filter_cons_of_neg (by rw[hs];exact Bool.false_ne_true)]
    refine Nat.le_trans ih ?_
    by_cases h2:JH w=true
    ·rw[List.filter_cons_of_pos h2,List.length_cons];omega
    ·rw[List.filter_cons_of_neg h2];exact Nat.le_refl _
 unfold Yw;rw[List.length_map];refine Nat.le_trans sub ?_;unfold ZL;rw[List.filter_filter];have:(ws.filter fun a=>JH a&&decide (a.day<=day))=((ws.filter JH).filter fun a=>decide (a.day<=day)):=by rw[List.filter_filter];congr 1;funext a;rw[Bool.and_comm]
 rw[this];exact List.length_filter_le _ _
theorem ZnM{cn ca cl ce:Addr}{H:Hp}{m:Addr}{t:Tr}(tm:Xh cn ca cl ce H t m):∃dx fs,H m=some (.ins (Zhl cn ca cl ce t) dx fs)/\fs.lookup (Str.ofString "due")=none:=by
 obtain⟨dx,fs,ii,lk⟩:=Zd7 tm;obtain⟨n1,n2,n3,n4⟩:=ZnJ "due" (.inl rfl);exact⟨dx,fs,ii,lk _ n1 n2 n3 n4⟩
theorem ZbL{cn ca cl ce:Addr}{H H':Hp}{p:Addr}{rs:List Sr}(s:Zy H H'):Zg6 cn ca cl ce H p rs->Zg6 cn ca cl ce H' p rs
 |⟨ds,h1,h2⟩=>⟨ds,s _ _ h1,ZgP s h2⟩
theorem Yd{H H':Hp}{p:Addr}{ws:List Rw}(s:Zy H H'):Ys H p ws->Ys H' p ws
 |⟨ds,h1,h2⟩=>⟨ds,s _ _ h1,ZR s h2⟩
theorem Zdb:ZG ["book","rows","record","day","counting","series","due","holds"] ["book","rows","record","day"] (Zw ZiF):=⟨rfl,rfl,rfl,by decide+kernel,rfl,by decide+kernel,by decide+kernel⟩
theorem ZoC{f:Addr}{fd:FuncData}(F:Fun K "judged" "judged" ZiF f fd)(T:Txt K mg Zj Zg Zh Zb Zo)(XR:Cal P w K mg base CX0 1 "counted" ["rows","day"] ZaR)(Ze6:Zap P w K mg base CX0 13 "due" ["self","life"] (ZcK Zj Zg Zh Zb 12) (fun C=>C=Zj\/C=Zg\/C=Zh\/C=Zb))(Zfy:Cal P w K mg base CX0 2 "holds_on" ["rows","record","line"] Zet)(Zaz:Cal P w K mg base CX0 1 "is_put" ["rows","record"] Zd6)(ZbO:Cal P w K mg base CX0 1 "life_of" ["rows","record"] ZdH)(ZgR:Cal P w K mg base CX0 1 "line_of" ["book","name"] (Zfs Zj Zg Zh Zb))(Zfz:Cal P w K mg base CX0 2 "owner_of" ["book","name"] (Zes Zj Zg Zh Zb))(Zak:Cal P w K mg base CX0 1 "series_of" ["rows","record"] ZbJ)(ZbP:Cal P w K mg base CX0 2 "term_of" ["book","name"] (ZdG Zj Zg Zh Zb))(ZfA:Cal P w K mg base CX0 1 "word_for" ["due","holds","day"] Zeu):Yn P w K mg base CX0 14 f fd ["book","rows","record","day"] (ZeW Zj Zg Zh Zb):=by
 refine F.ok Zdb (fun vs H Q E h=> ?_) (fun cdv A outer s H vs Q E hr h=> ?_)
 ·obtain⟨p,q',rs,ws,rec,day,rfl,_⟩:=h
  rfl
 ·obtain⟨p,q',rs,ws,rec,day,rfl,bat,bk,lr,rws,ok,q⟩:=h;have l5:=YZ;have nd:=Zd9 bk;have br:=ZeX bk;refine⟨_,(Ze (Zz (i:=4) Zdb.nd rfl (Or.inl rfl) (ZQ XR (hr.mono (by omega)) rfl ZJ (Za (pv 1) (Za (pv 3) Zi)))) (Ze (ZS (ZbT (Zaq (ZQ Zaz (hr.mono (by omega)) rfl ZJ (Za (pv 4) (Za (pv 2) Zi))))) (Zn (Zx (Yr (Za ZD (Za Yz (Za Yz (Za Yz (Za (ZX Zi) Zi)))))))) ZF) (Ze (Zz (i:=5) Zdb.nd rfl (Or.inl rfl) (ZQ Zak (hr.mono (by omega)) rfl ZJ (Za (pv 4) (Za (pv 2) Zi)))) (Ze (Zz (i:=6) Zdb.nd rfl (Or.inl rfl) (Zau (ZQ ZbP (hr.mono (by omega)) rfl ZJ (Za (pv 0) (Za (pv 5) Zi))) Ze6 (hr.mono (by omega)) ZJ (Za (ZQ ZbO (hr.mono (by omega)) rfl ZJ (Za (pv 4) (Za (pv 2) Zi))) Zi))) (Ze (Zz (i:=7) Zdb.nd rfl (Or.inl rfl) (ZQ Zfy (hr.mono (by omega)) rfl ZJ (Za (pv 4) (Za (pv 2) (Za (ZQ ZgR (hr.mono (by omega)) rfl ZJ (Za (pv 0) (Za (pv 5) Zi))) Zi))))) (Zn (Zx (Yr (Za (ZQ ZfA (hr.mono (by omega)) rfl ZJ (Za (pv 6) (Za (pv 7) (Za (pv 3) Zi)))) (Za (pv 5) (Za (ZQ Zfz (hr.mono (by omega)) rfl ZJ (Za (pv 0) (Za (pv 5) Zi))) (Za (pv 6) (Za (pv 7) Zi))))))))))))), ?_⟩
  refine⟨_,rfl,_,rfl,q',ws,day,rfl,rws,ok.len,fun C H1 hC s1 rc=> ?_⟩;have lc:(ZL ws day).length<=1000:=Nat.le_trans (List.length_filter_le _ _) ok.len;refine⟨_,rfl,_,rfl,C,_,rec,rfl,rc,lc,fun H2 s2=>⟨_,rfl, ?_⟩⟩;have s02:=s1.trans s2;cases ip:YL (ZL ws day) rec with
  |false=>
   refine XX ⟨Nat.zero_le _,fun L hL=>⟨show 5<=sizeLine from sl,fun a ha=> ?_⟩⟩;have s3:=Zk (o:=.lst []) hL;refine q a ZhW _ (Xv (s02.trans s3) ha) (s02.trans (s3.trans (Zk ha))) ⟨L,Zc,Zk ha _ _ Zc⟩ (fun L' e=> ?_) ⟨fun _=>rfl,fun z=>by rw[ip] at z;cases z⟩
   rw[Zc] at e
   have e:HO.tup _=HO.tup _:=Option.some.inj e
   injection e with e
   have e:V.ref L=V.ref L':=by simpa [ZhW,oS,oV] using e
   injection e with e
   exact e▸Xv s02 hL
  |true=>
   obtain⟨y,top⟩:=Zn6 _ (ZiV ip);have hy:=ok.ser rec y (Zf0 top.1);have hy':∀m,some y.2=some m->m∈rs.reverse.map Sr.nm:=fun m hm=>by
    injection hm with hm
    rw[<-hm,List.map_reverse,List.mem_reverse];exact hy
   obtain⟨r0,hr0,ow,t0,_⟩:=Zfv (ZhE rs) rs.reverse (some y.2) br (fun r hr=>ZeY nd (List.mem_reverse.mp hr)) hy' (fun z=>nomatch z);obtain⟨t,ht⟩:=Option.isSome_iff_exists.mp t0;have ct:=((ZdM bk r0 (List.mem_reverse.mp hr0)).tm t ht).2;have dp:=t.deep_cnt;have ll:=ZiO rs.reverse (some y.2);rw[List.length_reverse] at ll
   refine ZW ⟨_,rfl,_,rfl,C,_,rec,y,rfl,Yd s2 rc,lc,top,fun H3 s3=> ?_⟩;have s03:=s02.trans s3;refine⟨_,rfl,_,rfl,p,y.2,rs,r0,t,rfl,ZbL s03 bat,lr,ow,ht,fun m H4 s4 tm=> ?_⟩;obtain⟨dx,fs,ii,lk⟩:=ZnM tm;have s04:=s03.trans s4;refine⟨m,_,dx,fs,rfl,ii,Zfu t,lk,_,rfl,_,rfl,C,_,rec,rfl,Yd (s2.trans (s3.trans s4)) rc,lc,fun L H5 hL s5 hl=> ?_⟩;refine⟨m,L,t,_,rfl,tm.same s5,by omega,rfl,.inl hl,fun H6 s6=> ?_⟩
   have s06:=s04.trans (s5.trans s6);have sC6:=s2.trans (s3.trans (s4.trans (s5.trans s6)));refine⟨_,rfl,_,rfl,_,rfl,_,rfl,p,y.2,rs,rfl,ZbL s06 bat,lr,fun L2 H7 hL2 s7 hl2=> ?_⟩;refine⟨C,L2,_,rec,_,rfl,Yd (sC6.trans s7) rc,lc,hl2,by omega,Nat.lt_of_le_of_lt Zkg ok.held,fun Qh zs H8 hQ s8 pz sz hz=> ?_⟩;have s08:=s06.trans (s7.trans s8);refine⟨_,rfl,_,rfl,_,rfl,Qh,zs,_,day,rfl,hz,fun H9 s9=> ?_⟩;have s09:=s08.trans s9
   refine⟨_,rfl,_,rfl,_,rfl,p,y.2,rs,r0,rfl,ZbL s09 bat,lr,ow,fun H10 s10=> ?_⟩;refine⟨_,rfl,_,rfl,show 5<=sizeLine from sl,fun a ha=> ?_⟩;have s010:=s09.trans s10;have hz10:=s10 _ _ (s9 _ _ hz);refine q a ⟨JD (t.due (Yc (ZL ws day) rec)) zs.length day,some y.2,some r0.nm,t.due (Yc (ZL ws day) rec),zs⟩ _ (Xv s010 ha) (s010.trans (Zk ha)) ⟨Qh,Zc,Zk ha _ _ hz10⟩ (fun L' e=> ?_) ⟨fun z=>(by rw[ip] at z;cases z),fun _=>⟨y,r0,t,top,ow,ht,rfl,rfl,rfl,pz,sz,rfl⟩⟩
   rw[Zc] at e
   have e:HO.tup _=HO.tup _:=Option.some.inj e
   injection e with e
   have e:V.ref Qh=V.ref L':=by simpa [oS,oV] using e
   injection e with e
   exact e▸Xv (s06.trans s7) hQ
theorem lvR{cn ca cl ce m:Addr}{n:Nat}{t:Tr}{σ:L2.St}{H:Hp}{Q:VK}{E:XK}(tm:Xh cn ca cl ce H t m)(o1:t.deep<n)(o2:t.cnt<=100)(k:∀p H',Zy H H'->H p=none->ZhC H' p t.lvs->Q (.ref p) H'):
  ∃a C dx fs,V.ref m=.ref a/\H a=some (.ins C dx fs)/\(C=cn\/C=ca\/C=cl\/C=ce)/\fs.lookup (Str.ofString "leaves")=none/\Zp5 σ H fun vs H2=>Zaj cn ca cl ce n C (V.ref m::vs) H2 Q E:=by
 obtain⟨dx,fs,ii,lk⟩:=Zd7 tm;obtain⟨n1,n2,n3,n4⟩:=ZnJ "leaves" (.inr (.inl rfl));exact⟨m,_,dx,fs,rfl,ii,Zfu t,lk _ n1 n2 n3 n4,m,t,rfl,tm,o1,o2,rfl,k⟩
theorem Zex{α β:Type}{F:α->β->Prop}:∀{a c:List α} {b d:List β},Paired F a b->Paired F c d->Paired F (a++c) (b++d)
 |_,_,_,_,.nil,s=>s
 |_,_,_,_,.cons r t,s=> .cons r (Zex t s)
theorem ZhC.same{H H':Hp}{p:Addr}{ls:List (Str×Int)}(s:Zy H H')(h:ZhC H p ls):ZhC H' p ls:=by
 obtain⟨ys,h1,h2⟩:=h;exact⟨ys,s _ _ h1,Paired.mapP h2 fun kd y ⟨q,e1,e2⟩=>⟨q,e1,s _ _ e2⟩⟩
theorem ZhC.app{H:Hp}{p:Addr}{ls ms:List (Str×Int)}{xs ys:List V}(hp:H p=none)(h1:Paired (fun(kd:Str×Int) y=>∃q,y=V.ref q/\H q=some (.tup [.str kd.1,.int kd.2])) ls xs)
  (h2:Paired (fun(kd:Str×Int) y=>∃q,y=V.ref q/\H q=some (.tup [.str kd.1,.int kd.2])) ms ys):ZhC (upd H p (.lst (xs++ys))) p (ls++ms):=
 ⟨_,Zc,Paired.mapP (Zex h1 h2) fun kd y ⟨q,e1,e2⟩=>⟨q,e1,Zk hp _ _ e2⟩⟩
theorem ZhF:ZG ["self"] ["self"] (Zw Zc4):=⟨rfl,rfl,rfl,by decide+kernel,rfl,by decide+kernel,by decide+kernel⟩
theorem ZhG{f:Addr}{fd:FuncData}(F:Fun K "leaves" "Never.leaves" Zc4 f fd)(T:Txt K mg Zj Zg Zh Zb Zo)(n:Nat):Yn P w K mg base CX0 (0+n+1+1) f fd ["self"] (Zaj Zj Zg Zh Zb (n+1) Zj):=by
 refine F.ok ZhF (fun vs H Q E h=> ?_) (fun cdv A outer s H vs Q E hr h=> ?_)
 ·obtain⟨a,t,rfl,_⟩:=h
  rfl
 ·obtain⟨a,t,rfl,ht,hd,hc,hC,q⟩:=h;refine⟨_,(Zn (Zx (ZX Zi))), ?_⟩;cases t with
  |never=>exact⟨Nat.zero_le _,fun p hp=>q p _ (Zk hp) hp ⟨[],Zc,.nil⟩⟩
  |after k d=>exact absurd hC.symm T.ne_Never_After
  |later x y=>exact absurd hC.symm T.ne_Never_Later
  |earlier x y=>exact absurd hC.symm T.ne_Never_Earlier
theorem ZhH:ZG ["self"] ["self"] (Zw Zc5):=⟨rfl,rfl,rfl,by decide+kernel,rfl,by decide+kernel,by decide+kernel⟩
theorem ZhI{f:Addr}{fd:FuncData}(F:Fun K "leaves" "After.leaves" Zc5 f fd)(T:Txt K mg Zj Zg Zh Zb Zo)(n:Nat):Yn P w K mg base CX0 (0+n+1+1) f fd ["self"] (Zaj Zj Zg Zh Zb (n+1) Zg):=by
 refine F.ok ZhH (fun vs H Q E h=> ?_) (fun cdv A outer s H vs Q E hr h=> ?_)
 ·obtain⟨a,t,rfl,_⟩:=h
  rfl
 ·obtain⟨a,t,rfl,ht,hd,hc,hC,q⟩:=h;have l5:=YZ;cases t with
  |never=>exact absurd hC T.ne_Never_After
  |later x y=>exact absurd hC.symm T.ne_After_Later
  |earlier x y=>exact absurd hC.symm T.ne_After_Earlier
  |after k d=>
   obtain⟨dx,ha⟩:=ht;refine⟨_,(Zn (Zx (ZX (Za (Yr (Za (Yi (pv 0) rfl) (Za (Yi (pv 0) rfl) Zi))) Zi)))), ?_⟩;refine⟨_,rfl,a,_,dx,_,_,rfl,ha,T.cl_After,T.n_After_kind,ZkZ k d,_,rfl,a,_,dx,_,_,rfl,ha,T.cl_After,T.n_After_days,ZnI k d,(show 2<=sizeLine from sl),fun t ht=>⟨show 1<=sizeLine from sl,fun p hp=> ?_⟩⟩;have hp0:H p=none:=(Zk ht).free hp;exact q p _ ((Zk ht).trans (Zk hp)) hp0 ⟨_,Zc,.cons ⟨t,rfl,Zk hp _ _ Zc⟩ .nil⟩
theorem ZiW:ZG ["self"] ["self"] (Zw Zb1):=⟨rfl,rfl,rfl,by decide+kernel,rfl,by decide+kernel,by decide+kernel⟩
theorem Zey{f:Addr}{fd:FuncData}(F:Fun K "leaves" "Pair.leaves" Zb1 f fd)(T:Txt K mg Zj Zg Zh Zb Zo)(n:Nat){C:Addr}(hC:C=Zh\/C=Zb)(Zbf:Zap P w K mg base CX0 (0+n+1) "leaves" ["self"] (Zaj Zj Zg Zh Zb n) (fun C=>C=Zj\/C=Zg\/C=Zh\/C=Zb)):Yn P w K mg base CX0 (0+n+1+1) f fd ["self"] (Zaj Zj Zg Zh Zb (n+1) C):=by
 refine F.ok ZiW (fun vs H Q E h=> ?_) (fun cdv A outer s H vs Q E hr h=> ?_)
 ·obtain⟨a,t,rfl,_⟩:=h
  rfl
 ·obtain⟨a,t,rfl,ht,hd,hc,hcls,q⟩:=h;have l5:=YZ;cases t with
  |never=>
   rcases hC with h|h
   ·exact absurd (hcls.trans h) T.ne_Never_Later
   ·exact absurd (hcls.trans h) T.ne_Never_Earlier
  |after k d=>
   rcases hC with h|h
   ·exact absurd (hcls.trans h) T.ne_After_Later
   ·exact absurd (hcls.trans h) T.ne_After_Earlier
  |later x y=>
   obtain⟨dx,p1,p2,ha,t1,t2⟩:=ht;have hdeep:max x.deep y.deep+1<n+1:=hd;have hcnt:x.cnt+y.cnt<=100:=hc;have lx:=x.lvs_cnt;have ly:=y.lvs_cnt;refine⟨_,(Zn (Zx (ZC ZeS (JC (Yi (pv 0) rfl) Zbf (hr.mono (by omega)) ZJ) (JC (Yi (pv 0) rfl) Zbf (hr.mono (by omega)) ZJ)))), ?_⟩;refine⟨_,rfl,a,_,dx,_,_,rfl,ha,T.cl_Later,T.n_Later_one,Zl0 p1 p2,lvR t1 (by omega) (by omega) fun L1 H1 s1 hL1 lv1=> ?_⟩;refine⟨_,rfl,a,_,dx,_,_,rfl,s1 _ _ ha,T.cl_Later,T.n_Later_other,Zg8 p1 p2,lvR (t2.same s1) (by omega) (by omega) fun L2 H2 s2 hL2 lv2=> ?_⟩
   obtain⟨xs,e1,e2⟩:=lv1.same s2;obtain⟨ys,g1,g2⟩:=lv2;have z1:=Paired.length e2;have z2:=Paired.length g2;refine⟨L1,L2,xs,ys,rfl,rfl,SqL.of e1,SqL.of g1,by omega,fun p hp=> ?_⟩;exact q p _ (s1.trans (s2.trans (Zk hp))) ((s1.trans s2).free hp) (ZhC.app hp e2 g2)
  |earlier x y=>
   obtain⟨dx,p1,p2,ha,t1,t2⟩:=ht;have hdeep:max x.deep y.deep+1<n+1:=hd;have hcnt:x.cnt+y.cnt<=100:=hc;have lx:=x.lvs_cnt;have ly:=y.lvs_cnt;refine⟨_,(Zn (Zx (ZC ZeS (JC (Yi (pv 0) rfl) Zbf (hr.mono (by omega)) ZJ) (JC (Yi (pv 0) rfl) Zbf (hr.mono (by omega)) ZJ)))), ?_⟩;refine⟨_,rfl,a,_,dx,_,_,rfl,ha,T.cl_Earlier,T.n_Earlier_one,Zl0 p1 p2,lvR t1 (by omega) (by omega) fun L1 H1 s1 hL1 lv1=> ?_⟩;refine⟨_,rfl,a,_,dx,_,_,rfl,s1 _ _ ha,T.cl_Earlier,T.n_Earlier_other,Zg8 p1 p2,lvR (t2.same s1) (by omega) (by omega) fun L2 H2 s2 hL2 lv2=> ?_⟩
   obtain⟨xs,e1,e2⟩:=lv1.same s2;obtain⟨ys,g1,g2⟩:=lv2;have z1:=Paired.length e2;have z2:=Paired.length g2;refine⟨L1,L2,xs,ys,rfl,rfl,SqL.of e1,SqL.of g1,by omega,fun p hp=> ?_⟩;exact q p _ (s1.trans (s2.trans (Zk hp))) ((s1.trans s2).free hp) (ZhC.app hp e2 g2)
theorem Zcd{l:Tb}:∀{t:Tr} {D:Int},t.due l=some D->∃kd∈t.lvs,(lk l kd.1).map (· +kd.2)=some D
 | .never,_,h=>nomatch h
 | .after k d,_,h=>⟨(k,d),List.mem_singleton_self _,h⟩
 | .later x y,D,h=>by
  have h:ZpU (x.due l) (y.due l)=some D:=h;cases ex:x.due l with
  |none=>rw[ex] at h;cases h
  |some a=>
   cases ey:y.due l with
   |none=>rw[ex,ey] at h;cases h
   |some b=>
    rw[ex,ey] at h
    have h:(if b>a then b else a)=D:=Option.some.inj h
    split at h
    ·obtain⟨kd,m,e⟩:=Zcd ey;exact⟨kd,List.mem_append_right _ m,h▸e⟩
    ·obtain⟨kd,m,e⟩:=Zcd ex;exact⟨kd,List.mem_append_left _ m,h▸e⟩
 | .earlier x y,D,h=>by
  have h:Zm1 (x.due l) (y.due l)=some D:=h;cases ex:x.due l with
  |none=>
   rw[ex] at h
   obtain⟨kd,m,e⟩:=Zcd (show y.due l=some D from h);exact⟨kd,List.mem_append_right _ m,e⟩
  |some a=>
   cases ey:y.due l with
   |none=>
    rw[ex,ey] at h
    obtain⟨kd,m,e⟩:=Zcd ex;exact⟨kd,List.mem_append_left _ m,e.trans h⟩
   |some b=>
    rw[ex,ey] at h
    have h:(if b<a then b else a)=D:=Option.some.inj h
    split at h
    ·obtain⟨kd,m,e⟩:=Zcd ey;exact⟨kd,List.mem_append_right _ m,h▸e⟩
    ·obtain⟨kd,m,e⟩:=Zcd ex;exact⟨kd,List.mem_append_left _ m,h▸e⟩
theorem Zgc{l:Tb}{t:Tr}{D:Int}(h:t.due l=some D):Zcu l D t.lvs≠[]:=fun z=>by
 obtain⟨kd,m,e⟩:=Zcd h;have:kd∈Zcu l D t.lvs:=List.mem_filter.mpr ⟨m,decide_eq_true e⟩;rw[z] at this
 cases this
def LfH(H:Hp)(kd:Lf)(y:V):Prop:=∃q,y=V.ref q/\H q=some (.tup [.str kd.1,.int kd.2])
theorem Zdc{H H':Hp}(s:Zy H H'):∀{ls:List Lf} {ys:List V},Paired (LfH H) ls ys->Paired (LfH H') ls ys
 |_,_,.nil=> .nil
 |_,_,.cons ⟨q,e,h⟩ t=> .cons ⟨q,e,s _ _ h⟩ (Zdc s t)
theorem Zn7{K:PySem.W.Frag}{H:Hp}:∀{ls:List Lf} {ys:List V},Paired (LfH H) ls ys->Paired (ZhB K H) ls ys
 |_,_,.nil=> .nil
 |_,_,.cons ⟨q,e,h⟩ t=> .cons ⟨q,e,SqT.of h⟩ (Zn7 t)
theorem ZgS{H:Hp}(P:Lf->Bool):∀{ls:List Lf} {ys:List V},Paired (LfH H) ls ys->Paired (LfH H) (ls.filter P) ((ls.zip ys).flatMap fun z=>if P z.1=true then[z.2] else[])
 |_,_,.nil=> .nil
 |_,_,.cons (a:=a) (b:=w) h t=>by
  have c:=ZgS P t;rw[List.zip_cons_cons,List.flatMap_cons]
  by_cases hp:P a=true
  ·rw[List.filter_cons_of_pos hp,if_pos hp];exact .cons h c
  ·rw[List.filter_cons_of_neg hp,if_neg hp];exact c
theorem Zq8{P:Lf->Bool}{o:Option (Lf×V)}:((o.map fun z=>if P z.1=true then[z.2] else[]).getD []).length<=1:=by
 cases o with
 |none=>exact Nat.zero_le 1
 |some z=>
  show(if _ then[z.2] else[]).length<=1
  by_cases h:P z.1=true
  ·rw[if_pos h];exact Nat.le_refl 1
  ·rw[if_neg h];exact Nat.zero_le 1
theorem ZfZ{H:Hp}:∀{ls:List Lf} {ys:List V},Paired (LfH H) ls ys->∀(j:Nat) (y:V),ys[j]? =some y->∃kd q,(ls.zip ys)[j]? =some (kd,y)/\y=.ref q/\H q=some (.tup [.str kd.1,.int kd.2])
 |_,_,.nil,j,y,h=>by simp at h
 |_,_,.cons (a:=kd) (b:=v) ⟨q,e,r⟩ t,0,y,h=>by
  have h:v=y:=by simpa using h
  subst h;exact⟨kd,q,rfl,e,r⟩
 |_,_,.cons _ t,j+1,y,h=>by
  obtain⟨kd,q,e,z⟩:=ZfZ t j y (by simpa using h);exact⟨kd,q,by simpa using e,z⟩
theorem Zgd{l:Tb}{D d:Int}{kd:Lf}(h:lk l kd.1=some d):Xn l D kd=decide (V.int (d+kd.2)=V.int D):=by
 unfold Xn;rw[h];refine decide_eq_decide.mpr ⟨fun z=>congrArg V.int (Option.some.inj z),fun z=> ?_⟩
 injection z with z
 exact congrArg some z
theorem Zmd{l:Tb}{D:Int}{kd:Lf}(h:lk l kd.1=none):Xn l D kd=false:=by
 unfold Xn;rw[h]
 rfl
theorem ZaV:ZG ["book","rows","record","day","counting","life","term","due","reached","first"] ["book","rows","record","day"] (Zw ZiG):=⟨rfl,rfl,rfl,by decide+kernel,rfl,by decide+kernel,by decide+kernel⟩
theorem ZoD{f:Addr}{fd:FuncData}(F:Fun K "reason" "reason" ZiG f fd)(T:Txt K mg Zj Zg Zh Zb Zo)(XR:Cal P w K mg base CX0 1 "counted" ["rows","day"] ZaR)(Ze6:Zap P w K mg base CX0 13 "due" ["self","life"] (ZcK Zj Zg Zh Zb 12) (fun C=>C=Zj\/C=Zg\/C=Zh\/C=Zb))(Zbf:Zap P w K mg base CX0 13 "leaves" ["self"] (Zaj Zj Zg Zh Zb 12) (fun C=>C=Zj\/C=Zg\/C=Zh\/C=Zb))(Zaz:Cal P w K mg base CX0 1 "is_put" ["rows","record"] Zd6)(ZbO:Cal P w K mg base CX0 1 "life_of" ["rows","record"] ZdH)(Zak:Cal P w K mg base CX0 1 "series_of" ["rows","record"] ZbJ)(ZbP:Cal P w K mg base CX0 2 "term_of" ["book","name"] (ZdG Zj Zg Zh Zb)):Yn P w K mg base CX0 14 f fd ["book","rows","record","day"] (ZgN Zj Zg Zh Zb):=by
 refine F.ok ZaV (fun vs H Q E h=> ?_) (fun cdv A outer s H vs Q E hr h=> ?_)
 ·obtain⟨p,q',rs,ws,rec,day,rfl,_⟩:=h
  rfl
 ·obtain⟨p,q',rs,ws,rec,day,rfl,bat,bk,lr,rws,ok,q⟩:=h;have l5:=YZ;have hu:=ZaJ hr;have hu3:=ZlQ hr;have nd:=Zd9 bk;have br:=ZeX bk;refine⟨_,(Ze (Zz (i:=4) ZaV.nd rfl (Or.inl rfl) (ZQ XR (hr.mono (by omega)) rfl ZJ (Za (pv 1) (Za (pv 3) Zi)))) (Ze (ZS (ZbT (Zaq (ZQ Zaz (hr.mono (by omega)) rfl ZJ (Za (pv 4) (Za (pv 2) Zi))))) (Zn (Zx Yz)) ZF) (Ze (Zz (i:=5) ZaV.nd rfl (Or.inr rfl) (ZQ ZbO (hr.mono (by omega)) rfl ZJ (Za (pv 4) (Za (pv 2) Zi)))) (Ze (Zz (i:=6) ZaV.nd rfl (Or.inl rfl) (ZQ ZbP (hr.mono (by omega)) rfl ZJ (Za (pv 0) (Za (ZQ Zak (hr.mono (by omega)) rfl ZJ (Za (pv 4) (Za (pv 2) Zi))) Zi)))) (Ze (Zz (i:=7) ZaV.nd rfl (Or.inr rfl) (Zau (pv 6) Ze6 (hr.mono (by omega)) ZJ (Za (pv 5) Zi))) (Ze (ZS (Zq ZbV (pv 7) Yz (Zt _)) (Zn (Zx Yz)) ZF) (Ze (ZfT (i:=8) ["leaf"] [("life",5),("due",7)] ZaV.nd rfl (Or.inl rfl) rfl (Yg (JC (pv 6) Zbf (hr.mono (by omega)) ZJ)) (by rfl) (by exact⟨rfl,⟨rfl,trivial⟩⟩) (by rfl) (by exact⟨⟨rfl,rfl,rfl⟩,⟨⟨rfl,rfl,rfl⟩,trivial⟩⟩) (fun _ _ _ _=>(ZK (i:=0) (show(nmY ["leaf"] [("life",5),("due",7)]).Nodup by decide+kernel) rfl (Or.inl rfl))) (fun _ _ _ _=>(JB (PW.pt (Xb (Zdo (Zim hu (Zr (Yq (K:=K) rfl) (pv 0) Zd (fun _ _=>rfl)) (pv 1))) (YT (Zq ZZ (ZC XM (Za9 hu (pv 1) (Zr (Yq (K:=K) rfl) (pv 0) Zd (fun _ _=>rfl)) (fun _ _=>rfl)) (Zr (Yq (K:=K) rfl) (pv 0) Zd (fun _ _=>rfl))) (pv 2) (Zt _))))))) (fun _ _ _ _=>(pv 0))) (Ze (Zz (i:=9) ZaV.nd rfl (Or.inl rfl) (ZM (Zot rfl hu3) (by rfl) T.z_min Zpj (Za (pv 8) Zi))) (Zn (Zx (Yr (Za (Zr Zu (pv 9) Zd (fun _ _=>rfl)) (Za (Za9 hu (pv 5) (Zr Zu (pv 9) Zd (fun _ _=>rfl)) (fun _ _=>rfl)) (Za (Zr Zu (pv 9) Zd (fun _ _=>rfl)) Zi)))))))))))))), ?_⟩
  refine⟨_,rfl,_,rfl,q',ws,day,rfl,rws,ok.len,fun C H1 hC s1 rc=> ?_⟩;have lc:(ZL ws day).length<=1000:=Nat.le_trans (List.length_filter_le _ _) ok.len;refine⟨_,rfl,_,rfl,C,_,rec,rfl,rc,lc,fun H2 s2=>⟨_,rfl, ?_⟩⟩;have s02:=s1.trans s2;cases ip:YL (ZL ws day) rec with
  |false=>exact XX (q _ _ s02 ⟨fun _=>rfl,fun z=>by rw[ip] at z;cases z⟩)
  |true=>
   obtain⟨y,top⟩:=Zn6 _ (ZiV ip);have hy:=ok.ser rec y (Zf0 top.1);have hy':∀m,some y.2=some m->m∈rs.reverse.map Sr.nm:=fun m hm=>by
    injection hm with hm
    rw[<-hm,List.map_reverse,List.mem_reverse];exact hy
   obtain⟨r0,hr0,ow,t0,_⟩:=Zfv (ZhE rs) rs.reverse (some y.2) br (fun r hr=>ZeY nd (List.mem_reverse.mp hr)) hy' (fun z=>nomatch z);obtain⟨t,ht⟩:=Option.isSome_iff_exists.mp t0;have ct:=((ZdM bk r0 (List.mem_reverse.mp hr0)).tm t ht).2;have dp:=t.deep_cnt;refine ZW ⟨_,rfl,_,rfl,C,_,rec,rfl,Yd s2 rc,lc,fun L H3 hL s3 hl=> ?_⟩;refine⟨_,rfl,_,rfl,_,rfl,C,_,rec,y,rfl,Yd (s2.trans s3) rc,lc,top,fun H4 s4=> ?_⟩
   have s04:=s02.trans (s3.trans s4);refine⟨p,y.2,rs,r0,t,rfl,ZbL s04 bat,lr,ow,ht,fun m H5 s5 tm=> ?_⟩;obtain⟨dx,fs,ii,lk0⟩:=ZnM tm;have hl5:=s5 _ _ (s4 _ _ hl);refine⟨_,rfl,m,_,dx,fs,rfl,ii,Zfu t,lk0,_,rfl,m,L,t,_,rfl,tm,by omega,rfl,.inl hl5,fun H6 s6=> ?_⟩;have s06:=s04.trans (s5.trans s6);have hl6:=s6 _ _ hl5;generalize hlf:Yc (ZL ws day) rec=l at hl6⊢
   cases hd:t.due l with
   |none=>
    refine⟨_,rfl,rfl,_,rfl,Zb9 rfl (q _ _ s06 ⟨fun _=>rfl,fun _=>⟨y,r0,t,top,ow,ht,fun _=>rfl,fun D e=> ?_⟩⟩)⟩;rw[hlf,hd] at e
    cases e
   |some D=>
    refine⟨_,rfl,rfl,_,rfl,Yu (fun z=>nomatch z) ?_⟩;refine⟨_,rfl,lvR (tm.same s6) (by omega) (by omega) fun Lv H7 s7 hLv lv=> ?_⟩;obtain⟨ys,hv,pv⟩:=lv;have pv:Paired (LfH H7) t.lvs ys:=pv;have lvc:=t.lvs_cnt;have le:=Paired.length pv;have lz:(t.lvs.zip ys).length=ys.length:=by rw[List.length_zip];omega
    refine⟨Lv,rfl,⟨_,SqL.of hv⟩,Xm (t.lvs.zip ys).length (fun j=>(((t.lvs.zip ys)[j]?).map fun z=>if Xn l D z.1=true then[z.2] else[]).getD []) (by omega) (fun j=>Zq8) (fun j H2 s2 lt=>⟨_,_,SqL.of (s2 _ _ hv),List.getElem?_eq_getElem (by omega)⟩) (fun H2 s2=>⟨_,SqL.of (s2 _ _ hv),by omega⟩) (fun j x H8 H9 s8 lt yl RT RF rt rf=> ?_) fun B H8 hB s8 d8=> ?_⟩
    ·obtain⟨rfl,yl⟩:=yl;obtain⟨kd,qa,ez,rfl,row⟩:=ZfZ (Zdc s8 pv) j x (yl _ (SqL.of (s8 _ _ hv)));rw[ez] at rt rf
     have rt:∀v H6,(if Xn l D kd=true then[V.ref qa] else[])=[v]->_:=rt;have rf:∀H5,(if Xn l D kd=true then[V.ref qa] else[])=[]->_:=rf;have hl9:=s8 _ _ (s7 _ _ hl6);have dg:=ZcO (.inl hl9) kd.1;refine⟨⟨rfl,rfl,trivial⟩,ixT rfl (SqT.of row) rfl ⟨_,rfl,L,_,rfl,dg,_,rfl, ?_⟩⟩;rw[ZdL];cases ev:lk l kd.1 with
     |none=>exact ZW (rf _ (if_neg (by rw[Zmd ev];exact Bool.false_ne_true)) (Zy.refl _))
     |some d=>
      rw[ev] at dg
      refine XX ⟨_,rfl,ixT rfl (SqT.of row) rfl ⟨L,_,rfl,dg,ixT rfl (SqT.of row) rfl ⟨_,_,rfl,rfl,_,rfl,rfl,_,rfl, ?_⟩⟩⟩;refine Yp (fun z=>⟨_,rfl,rt _ _ (if_pos (by rw[Zgd ev];exact z)) (Zy.refl _)⟩) (fun z=>rf _ (if_neg (by rw[Zgd ev];exact z)) (Zy.refl _))
    ·rw[Xo (fun z:Lf×V=>if Xn l D z.1=true then[z.2] else[]) (t.lvs.zip ys)] at d8
     have pf:=ZgS (Xn l D) (Zdc s8 pv);generalize hzs:((t.lvs.zip ys).flatMap fun z=>if Xn l D z.1=true then[z.2] else[])=zs at d8 pf
     obtain⟨v0,zs',rfl⟩:∃v0 zs',zs=v0::zs':=by
      cases zs with
      |nil=>exact absurd (List.eq_nil_of_length_eq_zero (Paired.length pf)) (Zgc hd)
      |cons v0 us=>exact⟨v0,us,rfl⟩
     refine⟨_,rfl,B,v0,zs',_,rfl,SqL.of d8,Zn7 pf,fun v kd mem sp best=> ?_⟩;obtain⟨pv2,rfl,hv2⟩:=sp;have hl8:=s8 _ _ (s7 _ _ hl6);have cm:=of_decide_eq_true (List.mem_filter.mp mem).2;obtain⟨d,ev⟩:∃d,lk l kd.1=some d:=by
      cases e:lk l kd.1 with
      |none=>rw[e] at cm;cases cm
      |some d=>exact⟨d,rfl⟩
     have dg:=ZcO (.inl hl8) kd.1;rw[ev] at dg
     refine(ixT rfl hv2 rfl ⟨_,rfl,ixT rfl hv2 rfl ⟨L,_,rfl,dg,ixT rfl hv2 rfl ⟨show 3<=sizeLine from sl,fun a ha=> ?_⟩⟩⟩);refine q _ _ (s06.trans (s7.trans (s8.trans (Zk ha)))) ⟨fun z=>(by rw[ip] at z;cases z),fun _=>⟨y,r0,t,top,ow,ht,fun e=> ?_,fun D' e=> ?_⟩⟩
     ·rw[hlf,hd] at e
      cases e
     ·rw[hlf] at e⊢
      obtain rfl:D=D':=by rw[hd] at e;injection e
      exact⟨a,kd.1,d,kd.2,rfl,Zc,ev,mem,best⟩
theorem Zge(b t o h r k w:Addr):(fH b t o h r k w).lookup ("book":Str)=some (.ref b):=by
 unfold fH;rw[Zv,if_neg (by decide+kernel),Zv,if_neg (by decide+kernel),Zv,if_neg (by decide+kernel),Zv,if_neg (by decide+kernel),Zv,if_neg (by decide+kernel),Zv,if_neg (by decide+kernel),Zv,if_pos rfl]
theorem ZnN(b t o h r k w:Addr):(fH b t o h r k w).lookup ("told":Str)=some (.ref t):=by
 unfold fH;rw[Zv,if_neg (by decide+kernel),Zv,if_neg (by decide+kernel),Zv,if_neg (by decide+kernel),Zv,if_neg (by decide+kernel),Zv,if_neg (by decide+kernel),Zv,if_pos rfl]
theorem ZiX(b t o h r k w:Addr):(fH b t o h r k w).lookup ("own":Str)=some (.ref o):=by
 unfold fH;rw[Zv,if_neg (by decide+kernel),Zv,if_neg (by decide+kernel),Zv,if_neg (by decide+kernel),Zv,if_neg (by decide+kernel),Zv,if_pos rfl]
theorem Zcv(b t o h r k w:Addr):(fH b t o h r k w).lookup ("holdings":Str)=some (.ref h):=by
 unfold fH;rw[Zv,if_neg (by decide+kernel),Zv,if_neg (by decide+kernel),Zv,if_neg (by decide+kernel),Zv,if_pos rfl]
theorem Zcw(b t o h r k w:Addr):(fH b t o h r k w).lookup ("run_days":Str)=some (.ref r):=by
 unfold fH;rw[Zv,if_neg (by decide+kernel),Zv,if_neg (by decide+kernel),Zv,if_pos rfl]
theorem Zgf(b t o h r k w:Addr):(fH b t o h r k w).lookup ("taken":Str)=some (.ref k):=by
 unfold fH;rw[Zv,if_neg (by decide+kernel),Zv,if_pos rfl]
theorem ZaA(b t o h r k w:Addr):(fH b t o h r k w).lookup ("words":Str)=some (.ref w):=by
 unfold fH;rw[Zv,if_pos rfl]
theorem Ja{H H':Hp}(s:∀b xs,H b=some (.tup xs)->H' b=some (.tup xs)):∀{gs:List Gn} {kvs:List (Key×V)},Paired (Zg7 H) gs kvs->Paired (Zg7 H') gs kvs
 |_,_,.nil=> .nil
 |_,_,.cons ⟨p,e,h⟩ t=> .cons ⟨p,e,s _ _ h⟩ (Ja s t)
theorem Zce{H:Hp}{x y:Addr}{o u:HO}(hx:∃z,H x=some z)(hy:H y=none):x≠y/\upd (upd H y o) x u y=some o/\(∀c v,c≠x->H c=some v->upd (upd H y o) x u c=some v):=by
 obtain⟨z,hx⟩:=hx;have ne:x≠y:=Zf hx hy;refine⟨ne,by rw[Zm (Ne.symm ne),Zc],fun c v nc e=> ?_⟩;rw[Zm nc,Zm (Zf e hy)];exact e
theorem ZjA:ZG ["self","book"] ["self","book"] (Zw ZdC):=⟨rfl,rfl,rfl,by decide+kernel,rfl,by decide+kernel,by decide+kernel⟩
theorem ZjB{f:Addr}{fd:FuncData}(F:Fun K "__init__" "House.__init__" ZdC f fd)(T:Txt K mg Zj Zg Zh Zb Zo){C:Addr}(cl:Cls K C)(n_book:YS K C "book")(n_told:YS K C "told")(n_own:YS K C "own")(n_holdings:YS K C "holdings")(n_run_days:YS K C "run_days")(n_taken:YS K C "taken")(n_words:YS K C "words"):Yn P w K mg base CX0 1 f fd ["self","book"] (ZcM C):=by
 refine F.ok ZjA (fun vs H Q E h=> ?_) (fun cdv A outer s H vs Q E hr h=> ?_)
 ·obtain⟨x,dx,p,ds,rfl,_⟩:=h
  rfl
 ·obtain⟨x,dx,p,ds,rfl,hx,hp,q⟩:=h;refine⟨_,(Ze (ZbW (pv 0) (JT ZfR (by rfl) T.z_list ZkI (Za (pv 1) Zi)) rfl) (Ze (ZbW (pv 0) (ZX Zi) rfl) (Ze (ZbW (pv 0) Za4 rfl) (Ze (ZbW (pv 0) (ZX Zi) rfl) (Ze (ZbW (pv 0) (ZX Zi) rfl) (Ze (ZbW (pv 0) Za4 rfl) (Zn (ZbW (pv 0) Za4 rfl)))))))), ?_⟩;refine⟨_,rfl,p,_,rfl,.inl (SqL.of hp),fun b hb=> ?_⟩;have nb:=Zf hx hb;refine⟨_,rfl,x,C,dx,_,rfl,by rw[Zm nb];exact hx,cl,n_book,(by show 0<1000;decide), ?_⟩
  obtain⟨_,kb,f1⟩:=Zce (o:=.lst ds) (u:=.ins C dx (ZP "book" (.ref b) [])) ⟨_,hx⟩ hb;have x1:upd (upd H b (.lst ds)) x (.ins C dx (ZP "book" (.ref b) [])) x=some (.ins C dx (ZP "book" (.ref b) [])):=Zc;generalize upd (upd H b (.lst ds)) x (.ins C dx (ZP "book" (.ref b) []))=H1 at kb f1 x1
  refine⟨Nat.zero_le _,fun t ht=>⟨_,rfl,x,C,dx,_,rfl,by rw[Zm (Zf x1 ht)];exact x1,cl,n_told,(by show 1<1000;decide), ?_⟩⟩
  obtain⟨nt,kt,f2⟩:=Zce (o:=.lst []) (u:=.ins C dx (ZP "told" (.ref t) (ZP "book" (.ref b) []))) ⟨_,x1⟩ ht;have x2:upd (upd H1 t (.lst [])) x (.ins C dx (ZP "told" (.ref t) (ZP "book" (.ref b) []))) x=some (.ins C dx (ZP "told" (.ref t) (ZP "book" (.ref b) []))):=Zc;generalize upd (upd H1 t (.lst [])) x (.ins C dx (ZP "told" (.ref t) (ZP "book" (.ref b) [])))=H2 at kt f2 x2
  refine(fun o ho=>⟨_,rfl,x,C,dx,_,rfl,by rw[Zm (Zf x2 ho)];exact x2,cl,n_own,(by show 2<1000;decide), ?_⟩)
  obtain⟨no,ko,f3⟩:=Zce (o:=.dK []) (u:=.ins C dx (ZP "own" (.ref o) (ZP "told" (.ref t) (ZP "book" (.ref b) [])))) ⟨_,x2⟩ ho;have x3:upd (upd H2 o (.dK [])) x (.ins C dx (ZP "own" (.ref o) (ZP "told" (.ref t) (ZP "book" (.ref b) [])))) x=some (.ins C dx (ZP "own" (.ref o) (ZP "told" (.ref t) (ZP "book" (.ref b) [])))):=Zc;generalize upd (upd H2 o (.dK [])) x (.ins C dx (ZP "own" (.ref o) (ZP "told" (.ref t) (ZP "book" (.ref b) []))))=H3 at ko f3 x3
  refine⟨Nat.zero_le _,fun h hh=>⟨_,rfl,x,C,dx,_,rfl,by rw[Zm (Zf x3 hh)];exact x3,cl,n_holdings,(by show 3<1000;decide), ?_⟩⟩
  obtain⟨nh,kh,f4⟩:=Zce (o:=.lst []) (u:=.ins C dx (ZP "holdings" (.ref h) (ZP "own" (.ref o) (ZP "told" (.ref t) (ZP "book" (.ref b) []))))) ⟨_,x3⟩ hh;have x4:upd (upd H3 h (.lst [])) x (.ins C dx (ZP "holdings" (.ref h) (ZP "own" (.ref o) (ZP "told" (.ref t) (ZP "book" (.ref b) []))))) x=some (.ins C dx (ZP "holdings" (.ref h) (ZP "own" (.ref o) (ZP "told" (.ref t) (ZP "book" (.ref b) []))))):=Zc
  generalize upd (upd H3 h (.lst [])) x (.ins C dx (ZP "holdings" (.ref h) (ZP "own" (.ref o) (ZP "told" (.ref t) (ZP "book" (.ref b) [])))))=H4 at kh f4 x4
  refine⟨Nat.zero_le _,fun r hr2=>⟨_,rfl,x,C,dx,_,rfl,by rw[Zm (Zf x4 hr2)];exact x4,cl,n_run_days,(by show 4<1000;decide), ?_⟩⟩
  obtain⟨nr,kr,f5⟩:=Zce (o:=.lst []) (u:=.ins C dx (ZP "run_days" (.ref r) (ZP "holdings" (.ref h) (ZP "own" (.ref o) (ZP "told" (.ref t) (ZP "book" (.ref b) [])))))) ⟨_,x4⟩ hr2;have x5:upd (upd H4 r (.lst [])) x (.ins C dx (ZP "run_days" (.ref r) (ZP "holdings" (.ref h) (ZP "own" (.ref o) (ZP "told" (.ref t) (ZP "book" (.ref b) [])))))) x=some (.ins C dx (ZP "run_days" (.ref r) (ZP "holdings" (.ref h) (ZP "own" (.ref o) (ZP "told" (.ref t) (ZP "book" (.ref b) [])))))):=Zc
  generalize upd (upd H4 r (.lst [])) x (.ins C dx (ZP "run_days" (.ref r) (ZP "holdings" (.ref h) (ZP "own" (.ref o) (ZP "told" (.ref t) (ZP "book" (.ref b) []))))))=H5 at kr f5 x5
  refine(fun k hk=>⟨_,rfl,x,C,dx,_,rfl,by rw[Zm (Zf x5 hk)];exact x5,cl,n_taken,(by show 5<1000;decide), ?_⟩)
  obtain⟨nk,kk_,f6⟩:=Zce (o:=.dK []) (u:=.ins C dx (ZP "taken" (.ref k) (ZP "run_days" (.ref r) (ZP "holdings" (.ref h) (ZP "own" (.ref o) (ZP "told" (.ref t) (ZP "book" (.ref b) []))))))) ⟨_,x5⟩ hk;have x6:upd (upd H5 k (.dK [])) x (.ins C dx (ZP "taken" (.ref k) (ZP "run_days" (.ref r) (ZP "holdings" (.ref h) (ZP "own" (.ref o) (ZP "told" (.ref t) (ZP "book" (.ref b) []))))))) x=some (.ins C dx (ZP "taken" (.ref k) (ZP "run_days" (.ref r) (ZP "holdings" (.ref h) (ZP "own" (.ref o) (ZP "told" (.ref t) (ZP "book" (.ref b) []))))))):=Zc
  generalize upd (upd H5 k (.dK [])) x (.ins C dx (ZP "taken" (.ref k) (ZP "run_days" (.ref r) (ZP "holdings" (.ref h) (ZP "own" (.ref o) (ZP "told" (.ref t) (ZP "book" (.ref b) [])))))))=H6 at kk_ f6 x6
  refine(fun w hw=>⟨_,rfl,x,C,dx,_,rfl,by rw[Zm (Zf x6 hw)];exact x6,cl,n_words,(by show 6<1000;decide), ?_⟩)
  obtain⟨nw,kw,f7⟩:=Zce (o:=.dK []) (u:=.ins C dx (fH b t o h r k w)) ⟨_,x6⟩ hw;have up:∀{c:Addr} {v:HO},c≠x->H c=some v->H1 c=some v:=fun n e=>f1 _ _ n e;have b2:=f2 _ _ (Ne.symm nb) kb;have b3:=f3 _ _ (Ne.symm nb) b2;have b4:=f4 _ _ (Ne.symm nb) b3;have b5:=f5 _ _ (Ne.symm nb) b4;have b6:=f6 _ _ (Ne.symm nb) b5;have t3:=f3 _ _ (Ne.symm nt) kt;have t4:=f4 _ _ (Ne.symm nt) t3;have t5:=f5 _ _ (Ne.symm nt) t4
  have t6:=f6 _ _ (Ne.symm nt) t5;have o4:=f4 _ _ (Ne.symm no) ko;have o5:=f5 _ _ (Ne.symm no) o4;have o6:=f6 _ _ (Ne.symm no) o5;have h5:=f5 _ _ (Ne.symm nh) kh;have h6:=f6 _ _ (Ne.symm nh) h5;have r6:=f6 _ _ (Ne.symm nr) kr;have g1:∀{c:Addr},H1 c=none->H c=none:=fun{c} z=>by
   cases e:H c with
   |none=>rfl
   |some v=>
    by_cases cx:c=x
    ·rw[cx,x1] at z;cases z
    ·rw[f1 c v cx e] at z;cases z
  have g2:∀{c:Addr},H2 c=none->H c=none:=fun{c} z=>g1 (by
   cases e:H1 c with
   |none=>rfl
   |some v=>
    by_cases cx:c=x
    ·rw[cx,x2] at z;cases z
    ·rw[f2 c v cx e] at z;cases z)
  have g3:∀{c:Addr},H3 c=none->H c=none:=fun{c} z=>g2 (by
   cases e:H2 c with
   |none=>rfl
   |some v=>
    by_cases cx:c=x
    ·rw[cx,x3] at z;cases z
    ·rw[f3 c v cx e] at z;cases z)
  have g4:∀{c:Addr},H4 c=none->H c=none:=fun{c} z=>g3 (by
   cases e:H3 c with
   |none=>rfl
   |some v=>
    by_cases cx:c=x
    ·rw[cx,x4] at z;cases z
    ·rw[f4 c v cx e] at z;cases z)
  have g5:∀{c:Addr},H5 c=none->H c=none:=fun{c} z=>g4 (by
   cases e:H4 c with
   |none=>rfl
   |some v=>
    by_cases cx:c=x
    ·rw[cx,x5] at z;cases z
    ·rw[f5 c v cx e] at z;cases z)
  have g6:∀{c:Addr},H6 c=none->H c=none:=fun{c} z=>g5 (by
   cases e:H5 c with
   |none=>rfl
   |some v=>
    by_cases cx:c=x
    ·rw[cx,x6] at z;cases z
    ·rw[f6 c v cx e] at z;cases z)
  refine q b t o h r k w _ ?_ ?_ (fun c u nc e=>f7 _ _ nc (f6 _ _ nc (f5 _ _ nc (f4 _ _ nc (f3 _ _ nc (f2 _ _ nc (f1 _ _ nc e))))))) Zc (f7 _ _ (Ne.symm nb) b6) (f7 _ _ (Ne.symm nt) t6) (f7 _ _ (Ne.symm no) o6) (f7 _ _ (Ne.symm nh) h6) (f7 _ _ (Ne.symm nr) r6) (f7 _ _ (Ne.symm nk) kk_) kw
  ·have d1:=Zf kb ht;have d2:=Zf b2 ho;have d3:=Zf b3 hh;have d4:=Zf b4 hr2;have d5:=Zf b5 hk;have d6:=Zf b6 hw;have d7:=Zf kt ho;have d8:=Zf t3 hh;have d9:=Zf t4 hr2;have da:=Zf t5 hk;have db:=Zf t6 hw;have dc:=Zf ko hh;have dd:=Zf o4 hr2;have de:=Zf o5 hk;have df:=Zf o6 hw;have dg:=Zf kh hr2;have dh:=Zf h5 hk;have di:=Zf h6 hw;have dj:=Zf kr hk;have dk:=Zf r6 hw;have dl:=Zf kk_ hw;simp only [List.nodup_cons,List.mem_cons,List.mem_nil_iff,or_false,not_or,List.nodup_nil,not_false_eq_true,and_true]
   exact⟨⟨d1,d2,d3,d4,d5,d6⟩,⟨d7,d8,d9,da,db⟩,⟨dc,dd,de,df⟩,⟨dg,dh,di⟩,⟨dj,dk⟩,dl⟩
  ·intro c hc;simp only [List.mem_cons,List.mem_nil_iff,or_false] at hc
   rcases hc with rfl|rfl|rfl|rfl|rfl|rfl|rfl
   ·exact hb
   ·exact g1 ht
   ·exact g2 ho
   ·exact g3 hh
   ·exact g4 hr2
   ·exact g5 hk
   ·exact g6 hw
theorem ZjC:ZG ["self"] ["self"] (Zw ZdE):=⟨rfl,rfl,rfl,by decide+kernel,rfl,by decide+kernel,by decide+kernel⟩
theorem ZjD{f:Addr}{fd:FuncData}(F:Fun K "rows" "House.rows" ZdE f fd)(T:Txt K mg Zj Zg Zh Zb Zo)(n:Nat):Yn P w K mg base CX0 (0+n+1+1) f fd ["self"] (ZhX Zj Zg Zh Zb (n+1) Zo):=by
 refine F.ok ZjC (fun vs H Q E h=> ?_) (fun cdv A outer s H vs Q E hr h=> ?_)
 ·obtain⟨a,s,F,rfl,_⟩:=h
  rfl
 ·obtain⟨a,s,F,rfl,_,⟨dx,b,t,o,h,r,k,w,os,kvs,ha,hb,⟨ts,ht,pt⟩,_⟩,q⟩:=h;refine⟨_,(Zn (Zx (JT ZfR (by rfl) T.z_list ZkI (Za (Yi (pv 0) rfl) Zi)))), ?_⟩;refine⟨_,rfl,a,_,dx,_,_,rfl,ha,T.cl_House,T.n_House_told,ZnN ..,t,_,rfl,.inl (SqL.of ht),fun L hL=>q L _ hL (Zk hL) ⟨ts,Zc,ZR (Zk hL) pt⟩⟩
theorem ZjE:ZG ["self"] ["self"] (Zw ZdF):=⟨rfl,rfl,rfl,by decide+kernel,rfl,by decide+kernel,by decide+kernel⟩
theorem ZjF{f:Addr}{fd:FuncData}(F:Fun K "gone" "House.gone" ZdF f fd)(T:Txt K mg Zj Zg Zh Zb Zo)(n:Nat):Yn P w K mg base CX0 (0+n+1+1) f fd ["self"] (ZhY Zj Zg Zh Zb (n+1) Zo):=by
 refine F.ok ZjE (fun vs H Q E h=> ?_) (fun cdv A outer s H vs Q E hr h=> ?_)
 ·obtain⟨a,s,F,rfl,_⟩:=h
  rfl
 ·obtain⟨a,s,F,rfl,_,⟨dx,b,t,o,h,r,k,w,os,kvs,ha,_,_,_,_,_,_,hk,pk,_⟩,q⟩:=h;refine⟨_,(Zn (Zx (JT ZkJ (by rfl) T.z_dict ZqO (Za (Yi (pv 0) rfl) Zi)))), ?_⟩;exact⟨_,rfl,a,_,dx,_,_,rfl,ha,T.cl_House,T.n_House_taken,Zgf ..,k,_,rfl,.inl hk,fun L hL=>q L _ _ hL (Zk hL) Zc (Ja (fun b xs e=>Zk hL _ _ e) pk)⟩
theorem Zq9(w:Rw)(r:Str):(decide (V.str w.word=V.str "hold")&&decide (V.str w.one=V.str r))=Jj r w:=by
 cases w with
 |hold x c n d=>
  show(decide (V.str "hold"=V.str "hold")&&decide (V.str x=V.str r))=decide (x=r);rw[decide_eq_true rfl,Bool.true_and]
  by_cases h:x=r
  ·rw[h,decide_eq_true rfl,decide_eq_true rfl]
  ·rw[decide_eq_false h,decide_eq_false (vne h)]
 |put x s d=>exact(congrArg (fun b=>b&&_) (decide_eq_false (vne Zga))).trans (Bool.false_and _)
 |move x s d=>exact(congrArg (fun b=>b&&_) (decide_eq_false (vne ZiP))).trans (Bool.false_and _)
 |deed x k d=>exact(congrArg (fun b=>b&&_) (decide_eq_false (vne ZiQ))).trans (Bool.false_and _)
 |lift h d=>exact(congrArg (fun b=>b&&_) (decide_eq_false (vne Zm7))).trans (Bool.false_and _)
theorem Zn8:ZG ["rows","hold"] ["rows","hold"] (Zw ZgK):=⟨rfl,rfl,rfl,by decide+kernel,rfl,by decide+kernel,by decide+kernel⟩
theorem Zn9{f:Addr}{fd:FuncData}(F:Fun K "is_laid" "is_laid" ZgK f fd)(T:Txt K mg Zj Zg Zh Zb Zo):Yn P w K mg base CX0 1 f fd ["rows","hold"] Zft:=by
 refine F.ok Zn8 (fun vs H Q E h=> ?_) (fun cdv A outer s H vs Q E hr h=> ?_)
 ·obtain⟨p,ws,r,rfl,_⟩:=h
  rfl
 ·obtain⟨p,ws,r,rfl,⟨ds,hp,pr⟩,lw,q⟩:=h;have l5:=YZ;have le:=Paired.length pr;refine⟨_,(Zn (Zx (ZM (Ziu rfl) (by rfl) T.z_any Zpp (Za (Jh ["row"] [("hold",1)] rfl (Yg (pv 0)) (by rfl) (by exact⟨rfl,trivial⟩) (by rfl) (by exact⟨⟨rfl,rfl,rfl⟩,trivial⟩) (fun _ _ _ _=>(ZK (i:=0) (show(nmY ["row"] [("hold",1)]).Nodup by decide+kernel) rfl (Or.inl rfl))) (fun _ _ _ _=>Zdu) (fun _ _ _ _=>(Zib (Jz ZZ (Zr (Yq (K:=K) rfl) (pv 0) Zd (fun _ _=>rfl)) ZD (Zt _)) (Zia (Jz ZZ (Zr (Yq (K:=K) rfl) (pv 0) Zd (fun _ _=>rfl)) (pv 1) (Zt _)))))) Zi)))), ?_⟩
  refine⟨_,rfl,p,rfl,⟨_,SqL.of hp⟩,Xm ds.length (fun j=>[((ws[j]?).map fun w=>V.bl (Jj r w)).getD .non]) (by omega) (fun j=>Nat.le_refl 1) (fun j H4 s4 lt=>⟨_,_,SqL.of (s4 _ _ hp),List.getElem?_eq_getElem (by rw[List.length_map];exact lt)⟩) (fun H4 s4=>⟨_,SqL.of (s4 _ _ hp),by rw[List.length_map];exact Nat.le_refl _⟩) (fun j y H4 H5 s4 lt yl RT RF rt rf=> ?_) fun D4 H4 hD4 s4 d4=> ?_⟩
  ·obtain⟨rfl,yl⟩:=yl;obtain⟨d,rfl,ed⟩:=YX (yl _ (SqL.of (s4 _ _ hp)));obtain⟨w,ew,row⟩:=Yh (ZR s4 pr) j d ed;have row:H5 d=some (.tup w.vs):=row;have out:[((ws[j]?).map fun w=>V.bl (Jj r w)).getD .non]=[V.bl (Jj r w)]:=by rw[ew];rfl
   rw[out,<-Zq9] at rt
   refine⟨⟨rfl,trivial⟩, ?_⟩;unfold ZlL;refine XX (ixT rfl (SqT.of row) (Jq w) ⟨rfl,_,rfl,Yp (fun e=> ?_) (fun e=> ?_)⟩)
   ·refine(ixT rfl (SqT.of row) (ZdN w) ⟨_,rfl,rfl,rt _ _ ?_ (Zy.refl _)⟩);rw[e,Bool.true_and]
   ·refine rt _ _ ?_ (Zy.refl _);rw[Bool.eq_false_iff.mpr e,Bool.false_and]
  ·have e6:(List.range ds.length).flatMap (fun j=>[((ws[j]?).map fun w=>V.bl (Jj r w)).getD .non])=(ws.map (Jj r)).map V.bl:=by
    rw[Zah,le,ZgB ws (fun w=>V.bl (Jj r w)) .non,List.map_map]
    rfl
   rw[e6] at d4
   refine⟨D4,ws.map (Jj r),rfl,SqL.of d4, ?_⟩;rw[List.any_map];exact q H4 s4
theorem ZhJ:ZG ["row"] ["row"] (Zw Zc3):=⟨rfl,rfl,rfl,by decide+kernel,rfl,by decide+kernel,by decide+kernel⟩
theorem ZhK{f:Addr}{fd:FuncData}(F:Fun K "series_named" "series_named" Zc3 f fd)(T:Txt K mg Zj Zg Zh Zb Zo):Yn P w K mg base CX0 1 f fd ["row"] Zbt:=by
 refine F.ok ZhJ (fun vs H Q E h=> ?_) (fun cdv A outer s H vs Q E hr h=> ?_)
 ·obtain⟨a,w,rfl,_⟩:=h
  rfl
 ·obtain⟨a,w,rfl,ha,q⟩:=h;refine⟨_,(Ze (ZS (Zq ZaK (Zr Zu (pv 0) Zd (fun _ _=>rfl)) (Yr (Za ZD (Za ZD Zi))) rfl) (Zn (Zx (ZX (Za (Zr Zu (pv 0) Zd (fun _ _=>rfl)) Zi)))) ZF) (Ze (ZS (PW.pt (Xb (Zq ZZ (Zr Zu (pv 0) Zd (fun _ _=>rfl)) ZD (Zt _)) (YT (Zq ZZ (Zr Zu (pv 0) Zd (fun _ _=>rfl)) ZD (Zt _))))) (Zn (Zx (ZX (Za (Zr Zu (pv 0) Zd (fun _ _=>rfl)) Zi)))) ZF) (Zn (Zx (ZX Zi))))), ?_⟩;have ha:H a=some (.tup w.vs):=ha
  refine(ixT rfl (SqT.of ha) (Jq w) ⟨show 2<=sizeLine from sl,fun t ht=>⟨t,_,rfl,.inr (SqT.of Zc),rfl,rfl,_,rfl, ?_⟩⟩);have st:=Zk ht (o:=.tup [.str "put",.str "move"]);have ha1:=st _ _ ha;generalize upd H t (.tup [.str "put",.str "move"])=H1 at st ha1
  have one:∀z:Str,∀L,H1 L=none->Zay w=[z]->Q (.ref L) (upd H1 L (.lst [.str z])):=fun z L hL e=>q L _ (Xv st hL) (st.trans (Zk hL)) (by rw[Zc,e];rfl)
  have zero:∀L,H1 L=none->Zay w=[]->Q (.ref L) (upd H1 L (.lst [])):=fun L hL e=>q L _ (Xv st hL) (st.trans (Zk hL)) (by rw[Zc,e];rfl)
  cases w with
  |put x s d=>
   have ha1:H1 a=some (.tup [.str "put",.str x,.str s,.int d]):=ha1;show if inV (.str "put") [.str "put",.str "move"]=true then _ else _;rw[ZeZ];exact XX (ixT rfl (SqT.of ha1) rfl ⟨show 1<=sizeLine from sl,fun L hL=>one s L hL rfl⟩)
  |move x s d=>
   have ha1:H1 a=some (.tup [.str "move",.str x,.str s,.int d]):=ha1;show if inV (.str "move") [.str "put",.str "move"]=true then _ else _;rw[Zda];exact XX (ixT rfl (SqT.of ha1) rfl ⟨show 1<=sizeLine from sl,fun L hL=>one s L hL rfl⟩)
  |deed x k d=>
   have ha1:H1 a=some (.tup [.str "deed",.str x,.str k,.int d]):=ha1;show if inV (.str "deed") [.str "put",.str "move"]=true then _ else _;rw[Jy ZnK Zq5];exact ZW (ixT rfl (SqT.of ha1) rfl ⟨rfl,_,rfl,Yu (vne ZiQ) (ZW ⟨Nat.zero_le _,fun L hL=>zero L hL rfl⟩)⟩)
  |lift h d=>
   have ha1:H1 a=some (.tup [.str "lift",.str h,.int d]):=ha1;show if inV (.str "lift") [.str "put",.str "move"]=true then _ else _;rw[Jy Zhm Zke];exact ZW (ixT rfl (SqT.of ha1) rfl ⟨rfl,_,rfl,Yu (vne Zm7) (ZW ⟨Nat.zero_le _,fun L hL=>zero L hL rfl⟩)⟩)
  |hold h c n d=>
   have ha1:H1 a=some (.tup [.str "hold",.str h,.str (onW c),.str n,.int d]):=ha1;show if inV (.str "hold") [.str "put",.str "move"]=true then _ else _;rw[Jy Zga ZiP];cases c with
   |true=>exact ZW (ixT rfl (SqT.of ha1) rfl ⟨rfl,_,rfl,Zb9 rfl (ixT rfl (SqT.of ha1) rfl ⟨rfl,_,rfl,Yu (vne (show¬Str.ofString "record"=Str.ofString "series" by decide+kernel)) ⟨Nat.zero_le _,fun L hL=>zero L hL rfl⟩⟩)⟩)
   |false=>exact ZW (ixT rfl (SqT.of ha1) rfl ⟨rfl,_,rfl,Zb9 rfl (ixT rfl (SqT.of ha1) rfl ⟨rfl,_,rfl,Zb9 rfl (ixT rfl (SqT.of ha1) rfl ⟨show 1<=sizeLine from sl,fun L hL=>one n L hL rfl⟩)⟩)⟩)
def Zcx(cn ca cl ce:Addr)(n:Nat)(C:Addr):Sp:=fun vs H Q _=>∃(a d:Addr) (w:Rw) (s:Hs) (F:List Addr),vs=[.ref a,.ref d]/\0<n/\ZV cn ca cl ce C H a s F/\Zd5 H d w/\s.ws.length<=900/\
 ∀H' F',ZiN F H H'->(∀b∈F',b∈F\/H b=none)->(∀b∈F,b∈F')->ZV cn ca cl ce C H' a {s with ws:=s.ws++[w]} F'->Q .non H'
theorem ZjG{cn ca cl ce C:Addr}:∀vs H Q E,¬Zcx cn ca cl ce 0 C vs H Q E:=fun _ _ _ _ ⟨_,_,_,_,_,_,z,_⟩=>Nat.lt_irrefl 0 z
theorem ZgT:∀{os:List (Str×Addr)},(os.map (·.1)).Nodup->∀x∈os,YM (okv os) (Sum.inr x.1)=some (.ref x.2)
 |[],_,x,h=>nomatch h
 |y::os,nd,x,h=>by
  rw[List.map_cons] at nd
  obtain⟨off,rest⟩:=List.nodup_cons.mp nd;cases h with
  |head=>exact YF rfl
  |tail _ m=>
   have ne:¬(Sum.inr y.1:Key)=Sum.inr x.1:=fun z=>off (List.mem_map.mpr ⟨x,m,by injection z with z;exact z.symm⟩)
   exact(Yx (p:=(Sum.inr y.1,V.ref y.2)) ne).trans (ZgT rest x m)
theorem Zi2:∀{os:List (Str×Addr)} {r:Str},r∉os.map (·.1)->YM (okv os) (Sum.inr r)=none
 |[],_,_=>rfl
 |y::os,r,h=>by
  rw[List.map_cons,List.mem_cons] at h
  have ne:¬(Sum.inr y.1:Key)=Sum.inr r:=fun z=>h (.inl (by injection z with z;exact z.symm))
  exact(Yx (p:=(Sum.inr y.1,V.ref y.2)) ne).trans (Zi2 fun z=>h (.inr z))
theorem Zr6{os:List (Str×Addr)}{r:Str}{l:Addr}(h:r∉os.map (·.1)):Jw (okv os) (Sum.inr r) (.ref l)=okv (os++[(r,l)]):=by
 unfold Jw;rw[Zar,Zi2 h,if_neg (by exact Bool.false_ne_true)];unfold okv;rw[List.map_append]
 rfl
theorem Zcf{ws:List Rw}{w:Rw}{r:Str}:YW (ws++[w]) r=YW ws r++(if Zbd r w=true then[w] else[]):=by
 unfold YW;rw[List.filter_append]
 congr 1
 by_cases h:Zbd r w=true
 ·rw[if_pos h,List.filter_cons_of_pos h]
  rfl
 ·rw[if_neg h,List.filter_cons_of_neg h]
  rfl
theorem ZnO{ws:List Rw}{w:Rw}:(ws++[w]).filter Za1=ws.filter Za1++(if Za1 w=true then[w] else[]):=by
 rw[List.filter_append]
 congr 1
 by_cases h:Za1 w=true
 ·rw[if_pos h,List.filter_cons_of_pos h]
  rfl
 ·rw[if_neg h,List.filter_cons_of_neg h]
  rfl
theorem Zna(w:Rw):(Za1 w=true/\∀r,Zbd r w=false)\/(Za1 w=false/\∀r,Zbd r w=decide (w.one=r)):=by
 cases w with
 |put x s d=>exact .inr ⟨rfl,fun r=>rfl⟩
 |move x s d=>exact .inr ⟨rfl,fun r=>rfl⟩
 |deed x s d=>exact .inr ⟨rfl,fun r=>rfl⟩
 |lift x d=>exact .inl ⟨rfl,fun r=>rfl⟩
 |hold x c n d=>exact .inl ⟨rfl,fun r=>rfl⟩
def Zkh(H:Hp)(F:List Addr):Prop:=∀c∈F,(∃xs,H c=some (.lst xs))\/∃kv,H c=some (.dK kv)
theorem Zkh.tup{H H':Hp}{F:List Addr}(h:Zkh H F)(kp:ZiN F H H')(c:Addr)(xs:List V)(e:H c=some (.tup xs)):H' c=some (.tup xs):=kp c _ (fun m=>by
 rcases h c m with ⟨_,z⟩|⟨_,z⟩<;>rw[z] at e<;>cases e) e
theorem Zkh.ins{H H':Hp}{F:List Addr}(h:Zkh H F)(kp:ZiN F H H')(c C dx:Addr)(fs:List (Str×V))(e:H c=some (.ins C dx fs)):H' c=some (.ins C dx fs):=kp c _ (fun m=>by
 rcases h c m with ⟨_,z⟩|⟨_,z⟩<;>rw[z] at e<;>cases e) e
theorem Xj{H H':Hp}(s:∀b xs,H b=some (.tup xs)->H' b=some (.tup xs)):∀{ds:List Addr} {ws:List Rw},Paired (Zd5 H) ds ws->Paired (Zd5 H') ds ws
 |_,_,.nil=> .nil
 |_,_,.cons h t=> .cons (s _ _ h) (Xj s t)
theorem Zho{H:Hp}{t o h r k w:Addr}{os:List (Str×Addr)}{ws hs:List Rw}{rn:List V}{ko kk_ kw:List (Key×V)}(ht:Ys H t ws)(ho:H o=some (.dK ko))(oa:∀x∈os,∃us,Ys H x.2 us)(hh:Ys H h hs)(hr:H r=some (.lst rn))(hk:H k=some (.dK kk_))(hw:H w=some (.dK kw)):Zkh H (t::o::h::r::k::w::os.map (·.2)):=fun c hc=>by
 simp only [List.mem_cons] at hc
 rcases hc with rfl|rfl|rfl|rfl|rfl|rfl|m
 ·obtain⟨ds,e,_⟩:=ht;exact .inl ⟨_,e⟩
 ·exact .inr ⟨_,ho⟩
 ·obtain⟨ds,e,_⟩:=hh;exact .inl ⟨_,e⟩
 ·exact .inl ⟨_,hr⟩
 ·exact .inr ⟨_,hk⟩
 ·exact .inr ⟨_,hw⟩
 ·obtain⟨x,hx,rfl⟩:=List.mem_map.mp m;obtain⟨us,ds,e,_⟩:=oa x hx;exact .inl ⟨_,e⟩
theorem Zf1{cn ca cl ce:Addr}{H H':Hp}{p:Addr}{rs:List Sr}(s1:∀b xs,H b=some (.tup xs)->H' b=some (.tup xs))(s2:∀b C dx fs,H b=some (.ins C dx fs)->H' b=some (.ins C dx fs))(s3:∀u,H p=some u->H' p=some u):Zg6 cn ca cl ce H p rs->Zg6 cn ca cl ce H' p rs
 |⟨ds,h,t⟩=>⟨ds,s3 _ h,Zd8 s1 s2 t⟩
theorem ZgU{α β:Type}:∀{os:List (α×β)} {x y:α×β},(os.map (·.1)).Nodup->x∈os->y∈os->x.1=y.1->x=y
 |z::os,x,y,nd,hx,hy,e=>by
  rw[List.map_cons] at nd
  obtain⟨off,rest⟩:=List.nodup_cons.mp nd;cases hx with
  |head=>
   cases hy with
   |head=>rfl
   |tail _ my=>exact absurd (List.mem_map.mpr ⟨y,my,e.symm⟩) off
  |tail _ mx=>
   cases hy with
   |head=>exact absurd (List.mem_map.mpr ⟨x,mx,e⟩) off
   |tail _ my=>exact ZgU rest mx my e
theorem Zki{α β:Type}:∀{os:List (α×β)} {x y:α×β},(os.map (·.2)).Nodup->x∈os->y∈os->x.2=y.2->x=y
 |z::os,x,y,nd,hx,hy,e=>by
  rw[List.map_cons] at nd
  obtain⟨off,rest⟩:=List.nodup_cons.mp nd;cases hx with
  |head=>
   cases hy with
   |head=>rfl
   |tail _ my=>exact absurd (List.mem_map.mpr ⟨y,my,e.symm⟩) off
  |tail _ mx=>
   cases hy with
   |head=>exact absurd (List.mem_map.mpr ⟨x,mx,e⟩) off
   |tail _ my=>exact Zki rest mx my e
theorem Zr7{H:Hp}{os:List (Str×Addr)}{ws:List Rw}(oa:ZpV H os ws):os.length<=ws.length:=by
 have sub:∀r∈os.map (·.1),r∈ws.map Rw.one:=fun r hr=>by
  obtain⟨w,hw⟩:=List.exists_mem_of_ne_nil _ ((oa.mem r).mp hr);obtain⟨h1,h2⟩:=List.mem_filter.mp hw;refine List.mem_map.mpr ⟨w,h1, ?_⟩;rcases Zna w with ⟨_,no⟩|⟨_,yes⟩
  ·rw[no r] at h2;cases h2
  ·rw[yes r] at h2;exact of_decide_eq_true h2
 have:=oa.one.length_le_of_subset sub
 rwa [List.length_map,List.length_map] at this
theorem Zgg:ZG ["self","row"] ["self","row"] (Zw ZaN):=⟨rfl,rfl,rfl,by decide+kernel,rfl,by decide+kernel,by decide+kernel⟩
theorem Zgh{f:Addr}{fd:FuncData}(F:Fun K "keep_row" "House.keep_row" ZaN f fd)(T:Txt K mg Zj Zg Zh Zb Zo)(n:Nat):Yn P w K mg base CX0 (0+n+1+1) f fd ["self","row"] (Zcx Zj Zg Zh Zb (n+1) Zo):=by
 refine F.ok Zgg (fun vs H Q E h=> ?_) (fun cdv A outer s H vs Q E hr h=> ?_)
 ·obtain⟨a,d,w,s,F,rfl,_⟩:=h
  rfl
 ·obtain⟨a,d,w,s,F,rfl,_,⟨dx,b,t,o,h,r,k,wd,os,kvs,ha,hb,⟨ts,ht,pt⟩,ho,oa,⟨hs,hh,ph⟩,hr',hk,pk,hw,rfl,nd,nb⟩,hd,ls,q⟩:=h;have l5:=YZ;have hd:H d=some (.tup w.vs):=hd;have ki:=Zho ⟨ts,ht,pt⟩ ho (fun x hx=>⟨_,oa.at_ x hx⟩) ⟨hs,hh,ph⟩ hr' hk hw;have lt:=Paired.length pt;refine⟨_,(Ze (YB (JG PySem.F.plainAttrs_list PySem.F.slot_list_append PySem.F.type_list_append Yk (Yi (pv 0) rfl) (Za (pv 1) Zi))) (Zn (ZS (Zq ZaK (Zr Zu (pv 1) Zd (fun _ _=>rfl)) (Yr (Za ZD (Za ZD Zi))) rfl) (Zn (YB (JG PySem.F.plainAttrs_list PySem.F.slot_list_append PySem.F.type_list_append Yk (Yi (pv 0) rfl) (Za (pv 1) Zi)))) (Zn (YB (JG PySem.F.plainAttrs_list PySem.F.slot_list_append PySem.F.type_list_append Yk (Zon (Yi (pv 0) rfl) (Zr Zu (pv 1) Zd (fun _ _=>rfl)) (ZX Zi) ⟨rfl,rfl,rfl,rfl⟩) (Za (pv 1) Zi))))))), ?_⟩
  refine⟨_,rfl,a,_,dx,_,_,rfl,ha,T.cl_House,T.n_House_told,ZnN ..,.inl ⟨rfl,_,SqL.of ht⟩,_,rfl,t,_,V.ref d,rfl,rfl,ht,by rw[List.length_map];omega, ?_⟩
  have k1:∀c u,c≠t->H c=some u->upd H t (.lst (ts.map V.ref++[.ref d])) c=some u:=fun c u n e=>by rw[Zm n];exact e
  have t1:upd H t (.lst (ts.map V.ref++[.ref d])) t=some (.lst ((ts++[d]).map V.ref)):=by rw[Zc,List.map_append];rfl
  generalize upd H t (.lst (ts.map V.ref++[.ref d]))=H1 at k1 t1
  have kn:∀c u,(∀xs,u≠.lst xs)->H c=some u->H1 c=some u:=fun c u n e=>k1 c u (fun z=>by rw[z,ht] at e;exact n _ (Option.some.inj e).symm) e
  have hd1:=kn d (.tup w.vs) (fun _ z=>nomatch z) hd;have ha1:=kn a (.ins Zo dx (fH b t o h r k wd)) (fun _ z=>nomatch z) ha;refine(ixT rfl (SqT.of hd1) (Jq w) ⟨show 2<=sizeLine from sl,fun tt htt=>⟨tt,_,rfl,.inr (SqT.of Zc),rfl,rfl,_,rfl, ?_⟩⟩);have st:=Zk htt (o:=.tup [.str "hold",.str "lift"]);have k2:∀c u,c≠t->H c=some u->upd H1 tt (.tup [.str "hold",.str "lift"]) c=some u:=fun c u n e=>st _ _ (k1 c u n e)
  have t2:=st _ _ t1;have n2:∀{c:Addr},upd H1 tt (.tup [.str "hold",.str "lift"]) c=none->H c=none:=fun{c} z=>by
   cases e:H c with
   |none=>rfl
   |some u=>
    by_cases ct:c=t
    ·rw[ct,t2] at z;cases z
    ·rw[k2 c u ct e] at z;cases z
  have hd2:=st _ _ hd1;have ha2:=st _ _ ha1;generalize upd H1 tt (.tup [.str "hold",.str "lift"])=H2 at k2 t2 n2 hd2 ha2
  simp only [List.nodup_cons,List.mem_cons,not_or] at nd
  obtain⟨⟨nto,nth,ntr,ntk,ntw,nts⟩,⟨noh,nor,nok,now_,nos⟩,⟨nhr,nhk,nhw,nhs⟩,⟨nrk,nrw,nrs⟩,⟨nkw,nks⟩,nws,ndo⟩:=nd;simp only [List.mem_cons,not_or] at nb
  obtain⟨nbt,nbo,nbh,nbr,nbk,nbw,nbs⟩:=nb;have ho2:=k2 _ _ (Ne.symm nto) ho;have hh2:=k2 _ _ (Ne.symm nth) hh;have hr2:=k2 _ _ (Ne.symm ntr) hr';have hk2:=k2 _ _ (Ne.symm ntk) hk;have hw2:=k2 _ _ (Ne.symm ntw) hw;have lh:=Paired.length ph;have lh2:(s.ws.filter Za1).length<=s.ws.length:=List.length_filter_le _ _;rcases Zna w with ⟨hl,no⟩|⟨hl,ow⟩
  ·have inn:inV (.str w.word) [.str "hold",.str "lift"]=true:=by
    cases w with
    |hold x c n d=>exact ZeZ _ _
    |lift x d=>exact Zda _ _
    |_=>cases hl
   refine(show(if inV (.str w.word) [.str "hold",.str "lift"]=true then _ else _) from ?_);rw[inn];refine XX ⟨_,rfl,a,_,dx,_,_,rfl,ha2,T.cl_House,T.n_House_holdings,Zcv ..,.inl ⟨rfl,_,SqL.of hh2⟩,_,rfl,h,_,V.ref d,rfl,rfl,hh2,by rw[List.length_map];omega, ?_⟩
   have k3:∀c u,c≠t->c≠h->H c=some u->upd H2 h (.lst (hs.map V.ref++[.ref d])) c=some u:=fun c u n1 n2 e=>by rw[Zm n2];exact k2 c u n1 e
   have h3:upd H2 h (.lst (hs.map V.ref++[.ref d])) h=some (.lst ((hs++[d]).map V.ref)):=by rw[Zc,List.map_append];rfl
   have t3:upd H2 h (.lst (hs.map V.ref++[.ref d])) t=some (.lst ((ts++[d]).map V.ref)):=by rw[Zm nth];exact t2
   have hd3:upd H2 h (.lst (hs.map V.ref++[.ref d])) d=some (.tup w.vs):=by rw[Zm (Yj hd2 hh2 (fun z=>nomatch z))];exact hd2
   generalize upd H2 h (.lst (hs.map V.ref++[.ref d]))=H3 at k3 h3 t3 hd3
   have kp:ZiN (t::o::h::r::k::wd::os.map (·.2)) H H3:=fun c u m e=>k3 c u (fun z=>m (by rw[z];exact List.mem_cons_self ..)) (fun z=>m (by rw[z];simp)) e
   have kt:=ki.tup kp;refine q H3 _ kp (fun b hb=> .inl hb) (fun b hb=>hb) ⟨dx,b,t,o,h,r,k,wd,os,kvs,ki.ins kp _ _ _ _ ha,Zf1 kt (fun b C dx fs e=>ki.ins kp _ _ _ _ e) (fun u e=>k3 _ _ nbt nbh e) hb,⟨ts++[d],t3,Paired.snoc (Xj kt pt) hd3⟩,k3 _ _ (Ne.symm nto) noh ho,⟨oa.one,fun r=> ?_,fun x hx=> ?_⟩,⟨hs++[d],h3, ?_⟩,k3 _ _ (Ne.symm ntr) (Ne.symm nhr) hr',k3 _ _ (Ne.symm ntk) (Ne.symm nhk) hk,Ja kt pk,k3 _ _ (Ne.symm ntw) (Ne.symm nhw) hw,rfl, ?_, ?_⟩
   ·rw[Zcf,no r,if_neg Bool.false_ne_true,List.append_nil];exact oa.mem r
   ·obtain⟨us,e,pu⟩:=oa.at_ x hx;rw[Zcf,no x.1,if_neg Bool.false_ne_true,List.append_nil];exact⟨us,k3 _ _ (fun z=>nts (by rw[<-z];exact List.mem_map_of_mem hx)) (fun z=>nhs (by rw[<-z];exact List.mem_map_of_mem hx)) e,Xj kt pu⟩
   ·rw[ZnO,if_pos hl];exact Paired.snoc (Xj kt ph) hd3
   ·simp only [List.nodup_cons,List.mem_cons,not_or];exact⟨⟨nto,nth,ntr,ntk,ntw,nts⟩,⟨noh,nor,nok,now_,nos⟩,⟨nhr,nhk,nhw,nhs⟩,⟨nrk,nrw,nrs⟩,⟨nkw,nks⟩,nws,ndo⟩
   ·simp only [List.mem_cons,not_or];exact⟨nbt,nbo,nbh,nbr,nbk,nbw,nbs⟩
  ·have out:inV (.str w.word) [.str "hold",.str "lift"]=false:=by
    cases w with
    |put x s d=>exact Jy Zrw Zrv
    |move x s d=>exact Jy Zte Ztc
    |deed x s d=>exact Jy Ztf Ztd
    |_=>cases hl
   refine(show(if inV (.str w.word) [.str "hold",.str "lift"]=true then _ else _) from ?_);rw[out];have hl2:∀{ws:List Rw},(ws++[w]).filter Za1=ws.filter Za1:=fun{ws}=>by rw[ZnO,if_neg (by rw[hl];exact Bool.false_ne_true),List.append_nil]
   have los:os.length<=s.ws.length:=Zr7 oa;refine ZW ⟨_,rfl,a,_,dx,_,_,rfl,ha2,T.cl_House,T.n_House_own,ZiX ..,o,rfl,.inl ⟨_,.inl ho2⟩,ixT rfl (SqT.of hd2) (ZdN w) ⟨Nat.zero_le _,fun l hl0=> ?_⟩⟩;have sl0:=Zk hl0 (o:=.lst []);have k3:∀c u,c≠t->H c=some u->upd H2 l (.lst []) c=some u:=fun c u n e=>sl0 _ _ (k2 c u n e);have t3:=sl0 _ _ t2;have hd3:=sl0 _ _ hd2;have l3:upd H2 l (.lst []) l=some (.lst []):=Zc
   have nl:H l=none:=n2 hl0;generalize upd H2 l (.lst [])=H3 at k3 t3 hd3 l3
   have ho3:=k3 _ _ (Ne.symm nto) ho;refine⟨okv os,Sum.inr w.one,ho3,by unfold okv;rw[List.length_map];omega,rfl,fun v ev=> ?_,fun ev=> ?_⟩
   ·obtain⟨x,hx,x1⟩:∃x∈os,x.1=w.one:=by
     by_cases m:w.one∈os.map (·.1)
     ·obtain⟨x,hx,e⟩:=List.mem_map.mp m;exact⟨x,hx,e⟩
     ·rw[Zi2 m] at ev
      cases ev
    rw[<-x1,ZgT oa.one x hx] at ev
    obtain rfl:=Option.some.inj ev;obtain⟨us,hu,pu⟩:=oa.at_ x hx;have xt:x.2≠t:=fun z=>nts (by rw[<-z];exact List.mem_map_of_mem hx)
    have hu3:=k3 _ _ xt hu;have lu:=Paired.length pu;have lu2:(YW s.ws x.1).length<=s.ws.length:=List.length_filter_le _ _;refine⟨.inl ⟨rfl,_,SqL.of hu3⟩,_,rfl,x.2,_,V.ref d,rfl,rfl,hu3,by rw[List.length_map];omega, ?_⟩
    have k4:∀c u,c≠t->c≠x.2->H c=some u->upd H3 x.2 (.lst (us.map V.ref++[.ref d])) c=some u:=fun c u n1 n2 e=>by rw[Zm n2];exact k3 c u n1 e
    have u4:upd H3 x.2 (.lst (us.map V.ref++[.ref d])) x.2=some (.lst ((us++[d]).map V.ref)):=by rw[Zc,List.map_append];rfl
    have t4:upd H3 x.2 (.lst (us.map V.ref++[.ref d])) t=some (.lst ((ts++[d]).map V.ref)):=by rw[Zm (Ne.symm xt)];exact t3
    have hd4:upd H3 x.2 (.lst (us.map V.ref++[.ref d])) d=some (.tup w.vs):=by rw[Zm (Yj hd3 hu3 (fun z=>nomatch z))];exact hd3
    generalize upd H3 x.2 (.lst (us.map V.ref++[.ref d]))=H4 at k4 u4 t4 hd4
    have mx:x.2∈os.map (·.2):=List.mem_map_of_mem hx;have kp:ZiN (t::o::h::r::k::wd::os.map (·.2)) H H4:=fun c u m e=>k4 c u (fun z=>m (by rw[z];exact List.mem_cons_self ..)) (fun z=>m (by rw[z];simp only [List.mem_cons];exact .inr (.inr (.inr (.inr (.inr (.inr mx))))))) e
    have kt:=ki.tup kp;have ne:∀{c:Addr},c∉os.map (·.2)->c≠x.2:=fun m z=>m (by rw[z];exact mx)
    refine q H4 _ kp (fun b hb=> .inl hb) (fun b hb=>hb) ⟨dx,b,t,o,h,r,k,wd,os,kvs,ki.ins kp _ _ _ _ ha,Zf1 kt (fun b C dx fs e=>ki.ins kp _ _ _ _ e) (fun u e=>k4 _ _ nbt (ne nbs) e) hb,⟨ts++[d],t4,Paired.snoc (Xj kt pt) hd4⟩,k4 _ _ (Ne.symm nto) (ne nos) ho,⟨oa.one,fun r=> ?_,fun y hy=> ?_⟩,⟨hs,k4 _ _ (Ne.symm nth) (ne nhs) hh,by rw[hl2];exact Xj kt ph⟩,k4 _ _ (Ne.symm ntr) (ne nrs) hr',k4 _ _ (Ne.symm ntk) (ne nks) hk,Ja kt pk,k4 _ _ (Ne.symm ntw) (ne nws) hw,rfl, ?_, ?_⟩
    ·rw[Zcf,ow r]
     by_cases z:w.one=r
     ·rw[if_pos (decide_eq_true z),<-z,<-x1];exact⟨fun _ y=>(List.append_ne_nil_of_right_ne_nil _ (List.cons_ne_nil _ _)) y,fun _=>List.mem_map_of_mem hx⟩
     ·rw[if_neg (by rw[decide_eq_false z];exact Bool.false_ne_true),List.append_nil]
      exact oa.mem r
    ·obtain⟨vs,ev2,pv⟩:=oa.at_ y hy;rw[Zcf,ow y.1]
     by_cases z:w.one=y.1
     ·obtain rfl:x=y:=ZgU oa.one hx hy (x1.trans z);rw[if_pos (decide_eq_true z)];exact⟨us++[d],u4,Paired.snoc (Xj kt pu) hd4⟩
     ·rw[if_neg (by rw[decide_eq_false z];exact Bool.false_ne_true),List.append_nil]
      exact⟨vs,k4 _ _ (fun q=>nts (by rw[<-q];exact List.mem_map_of_mem hy)) (fun q=>z (by rw[<-x1,Zki ndo hx hy q.symm])) ev2,Xj kt pv⟩
    ·simp only [List.nodup_cons,List.mem_cons,not_or];exact⟨⟨nto,nth,ntr,ntk,ntw,nts⟩,⟨noh,nor,nok,now_,nos⟩,⟨nhr,nhk,nhw,nhs⟩,⟨nrk,nrw,nrs⟩,⟨nkw,nks⟩,nws,ndo⟩
    ·simp only [List.mem_cons,not_or];exact⟨nbt,nbo,nbh,nbr,nbk,nbw,nbs⟩
   ·have m:w.one∉os.map (·.1):=fun z=>by
     obtain⟨x,hx,e⟩:=List.mem_map.mp z;rw[<-e,ZgT oa.one x hx] at ev
     cases ev
    rw[Zr6 m];have lo:l≠o:=Ne.symm (Zf ho nl);have lt_:l≠t:=Ne.symm (Zf ht nl);have l4:upd H3 o (.dK (okv (os++[(w.one,l)]))) l=some (.lst []):=by rw[Zm lo];exact l3
    refine⟨.inl ⟨rfl,_,SqL.of l4⟩,_,rfl,l,[],V.ref d,rfl,rfl,l4,by show 0<sizeLine;omega, ?_⟩
    have k4:∀c u,c≠t->c≠o->H c=some u->upd (upd H3 o (.dK (okv (os++[(w.one,l)])))) l (.lst [.ref d]) c=some u:=fun c u n1 n2 e=>by rw[Zm (Zf e nl),Zm n2];exact k3 c u n1 e
    have l5':upd (upd H3 o (.dK (okv (os++[(w.one,l)])))) l (.lst [.ref d]) l=some (.lst ([d].map V.ref)):=Zc;have o5:upd (upd H3 o (.dK (okv (os++[(w.one,l)])))) l (.lst [.ref d]) o=some (.dK (okv (os++[(w.one,l)]))):=by rw[Zm (Ne.symm lo),Zc]
    have t5:upd (upd H3 o (.dK (okv (os++[(w.one,l)])))) l (.lst [.ref d]) t=some (.lst ((ts++[d]).map V.ref)):=by rw[Zm (Ne.symm lt_),Zm nto];exact t3
    have hd5:upd (upd H3 o (.dK (okv (os++[(w.one,l)])))) l (.lst [.ref d]) d=some (.tup w.vs):=by rw[Zm (Zf hd nl),Zm (Yj hd3 ho3 (fun z=>nomatch z))];exact hd3
    show Q .non (upd (upd H3 o (.dK (okv (os++[(w.one,l)])))) l (.lst [.ref d]));generalize upd (upd H3 o (.dK (okv (os++[(w.one,l)])))) l (.lst [.ref d])=H5 at k4 l5' o5 t5 hd5
    have kp:ZiN (t::o::h::r::k::wd::os.map (·.2)) H H5:=fun c u m e=>k4 c u (fun z=>m (by rw[z];exact List.mem_cons_self ..)) (fun z=>m (by rw[z];simp)) e
    have kt:=ki.tup kp;have fre:∀{c:Addr} {u:HO},H c=some u->c≠l:=fun e=>Zf e nl;refine q H5 (t::o::h::r::k::wd::(os++[(w.one,l)]).map (·.2)) kp (fun c hc=> ?_) (fun c hc=>by simp only [List.map_append,List.mem_cons,List.mem_append] at hc⊢;rcases hc with z|z|z|z|z|z|z<;>simp[z]) ⟨dx,b,t,o,h,r,k,wd,os++[(w.one,l)],kvs,ki.ins kp _ _ _ _ ha,Zf1 kt (fun b C dx fs e=>ki.ins kp _ _ _ _ e) (fun u e=>k4 _ _ nbt nbo e) hb,⟨ts++[d],t5,Paired.snoc (Xj kt pt) hd5⟩,o5,⟨?_,fun r=> ?_,fun y hy=> ?_⟩,⟨hs,k4 _ _ (Ne.symm nth) (Ne.symm noh) hh,by rw[hl2];exact Xj kt ph⟩,k4 _ _ (Ne.symm ntr) (Ne.symm nor) hr',k4 _ _ (Ne.symm ntk) (Ne.symm nok) hk,Ja kt pk,k4 _ _ (Ne.symm ntw) (Ne.symm now_) hw,rfl, ?_, ?_⟩
    ·simp only [List.map_append,List.map_cons,List.map_nil,List.mem_cons,List.mem_append,List.mem_nil_iff,or_false] at hc⊢
     rcases hc with z|z|z|z|z|z|z|z
     ·exact .inl (.inl z)
     ·exact .inl (.inr (.inl z))
     ·exact .inl (.inr (.inr (.inl z)))
     ·exact .inl (.inr (.inr (.inr (.inl z))))
     ·exact .inl (.inr (.inr (.inr (.inr (.inl z)))))
     ·exact .inl (.inr (.inr (.inr (.inr (.inr (.inl z))))))
     ·exact .inl (.inr (.inr (.inr (.inr (.inr (.inr z))))))
     ·exact .inr (by rw[z];exact nl)
    ·rw[List.map_append];exact List.nodup_append.mpr ⟨oa.one,by simp,fun x hx y hy z=>m (by have e:y=w.one:=List.mem_singleton.mp hy;rw[<-e,<-z];exact hx)⟩
    ·rw[Zcf,ow r,List.map_append,List.mem_append,List.map_singleton,List.mem_singleton]
     by_cases z:w.one=r
     ·rw[if_pos (decide_eq_true z)];exact⟨fun _ y=>(List.append_ne_nil_of_right_ne_nil _ (List.cons_ne_nil _ _)) y,fun _=> .inr z.symm⟩
     ·rw[if_neg (by rw[decide_eq_false z];exact Bool.false_ne_true),List.append_nil]
      exact⟨fun y=>y.elim (oa.mem r).mp fun e=>absurd e.symm z,fun y=> .inl ((oa.mem r).mpr y)⟩
    ·rw[Zcf,ow y.1];rcases List.mem_append.mp hy with old|new
     ·have z:¬w.one=y.1:=fun z=>m (by rw[z];exact List.mem_map_of_mem old)
      obtain⟨vs,ev2,pv⟩:=oa.at_ y old;rw[if_neg (by rw[decide_eq_false z];exact Bool.false_ne_true),List.append_nil]
      exact⟨vs,k4 _ _ (fun q=>nts (by rw[<-q];exact List.mem_map_of_mem old)) (fun q=>nos (by rw[<-q];exact List.mem_map_of_mem old)) ev2,Xj kt pv⟩
     ·rw[List.mem_singleton.mp new];have em:YW s.ws w.one=[]:=Classical.not_not.mp fun z=>m ((oa.mem w.one).mpr z);show Ys H5 l (YW s.ws w.one++if decide (w.one=w.one)=true then[w] else[]);rw[em,if_pos (decide_eq_true rfl)];exact⟨[d],l5',.cons hd5 .nil⟩
    ·have hl':h≠l:=fre hh;have rl:r≠l:=fre hr';have kl:k≠l:=fre hk;have wl:wd≠l:=fre hw;have sl':l∉os.map (·.2):=fun z=>by
      obtain⟨x,hx,e⟩:=List.mem_map.mp z;obtain⟨us,e2,_⟩:=oa.at_ x hx;rw[e] at e2
      exact fre e2 rfl
     simp only [List.map_append,List.map_cons,List.map_nil,List.nodup_cons,List.mem_cons,List.mem_append,List.mem_nil_iff,or_false,not_or];exact⟨⟨nto,nth,ntr,ntk,ntw,nts,Ne.symm lt_⟩,⟨noh,nor,nok,now_,nos,Ne.symm lo⟩,⟨nhr,nhk,nhw,nhs,hl'⟩,⟨nrk,nrw,nrs,rl⟩,⟨nkw,nks,kl⟩,⟨nws,wl⟩,List.nodup_append.mpr ⟨ndo,by simp,fun x hx y hy z=>sl' (by rw[<-List.mem_singleton.mp hy,<-z];exact hx)⟩⟩
    ·obtain⟨bds,hbl,_⟩:=hb;simp only [List.map_append,List.map_cons,List.map_nil,List.mem_cons,List.mem_append,List.mem_nil_iff,or_false,not_or];exact⟨nbt,nbo,nbh,nbr,nbk,nbw,nbs,fre hbl⟩
theorem Zf2:∀ws:List Str,(ws.map V.str).all Xy=true
 |[]=>rfl
 |w::ws=>by rw[List.map_cons,List.all_cons,Zf2 ws];rfl
theorem Zme{K:PySem.W.Frag}{H:Hp}:∀ws:List Str,Paired (Rep K H) (ws.map fun w=>Dt.v (.str w)) (ws.map V.str)
 |[]=> .nil
 |w::ws=> .cons (.flat rfl) (Zme ws)
theorem Zl7(z:Str)(ws:List Str):inV (.str z) (ws.map V.str)=decide (z∈ws):=by
 unfold inV
 apply Bool.eq_iff_iff.mpr
 rw[List.any_eq_true,decide_eq_true_iff]
 constructor
 ·rintro⟨y,hy,e⟩;obtain⟨w,hw,rfl⟩:=List.mem_map.mp hy;have e:(w==z)=true:=e;exact eq_of_beq e▸hw
 ·exact fun h=>⟨.str z,List.mem_map.mpr ⟨z,h,rfl⟩,Jt rfl⟩
theorem Zsk(ws:List Rw)(r:Str)(x:Int):ZL (YW ws r) x=(ZL ws x).filter (Zbd r):=by
 unfold ZL YW;rw[List.filter_filter,List.filter_filter]
 congr 1
 funext w
 exact Bool.and_comm ..
theorem Zl8{r:Str}:∀{w:Rw},Zbd r w=false->Zbb r w=false/\ZaP r w=none/\∀l,Xa r l w=l
 | .put x s d,h=>by
  have h:¬x=r:=of_decide_eq_false h;exact⟨decide_eq_false h,if_neg h,fun l=>if_neg h⟩
 | .move x s d,h=>by
  have h:¬x=r:=of_decide_eq_false h;exact⟨rfl,if_neg h,fun l=>rfl⟩
 | .deed x s d,h=>by
  have h:¬x=r:=of_decide_eq_false h;exact⟨rfl,rfl,fun l=>if_neg h⟩
 | .lift _ _,_=>⟨rfl,rfl,fun _=>rfl⟩
 | .hold _ _ _ _,_=>⟨rfl,rfl,fun _=>rfl⟩
theorem Zl9(r:Str):∀us:List Rw,YL (us.filter (Zbd r)) r=YL us r
 |[]=>rfl
 |w::us=>by
  have ih:=Zl9 r us;cases e:Zbd r w with
  |true=>
   rw[List.filter_cons_of_pos e];show(Zbb r w||YL (us.filter (Zbd r)) r)=(Zbb r w||YL us r);rw[ih]
  |false=>
   rw[List.filter_cons_of_neg (by rw[e];exact Bool.false_ne_true),ih]
   show YL us r=(Zbb r w||YL us r);rw[(Zl8 e).1,Bool.false_or]
theorem Zkj(r:Str):∀us:List Rw,Ym (us.filter (Zbd r)) r=Ym us r
 |[]=>rfl
 |w::us=>by
  have ih:=Zkj r us;unfold Ym at ih⊢
  cases e:Zbd r w with
  |true=>
   rw[List.filter_cons_of_pos e];cases f:ZaP r w with
   |none=>rw[List.filterMap_cons_none f,List.filterMap_cons_none f,ih]
   |some y=>rw[List.filterMap_cons_some f,List.filterMap_cons_some f,ih]
  |false=>rw[List.filter_cons_of_neg (by rw[e];exact Bool.false_ne_true),ih,List.filterMap_cons_none (Zl8 e).2.1]
theorem ZiY(r:Str):∀(us:List Rw) (l:Tb),(us.filter (Zbd r)).foldl (Xa r) l=us.foldl (Xa r) l
 |[],_=>rfl
 |w::us,l=>by
  cases e:Zbd r w with
  |true=>
   rw[List.filter_cons_of_pos e,List.foldl_cons,List.foldl_cons];exact ZiY r us _
  |false=>
   rw[List.filter_cons_of_neg (by rw[e];exact Bool.false_ne_true),List.foldl_cons,(Zl8 e).2.2 l]
   exact ZiY r us l
theorem Zi3{ws:List Rw}{r:Str}{s x:Int}(e:ZL (YW ws r) x=ZL (YW ws r) s):YL (ZL ws x) r=YL (ZL (YW ws r) s) r/\Ym (ZL ws x) r=Ym (ZL (YW ws r) s) r/\Yc (ZL ws x) r=Yc (ZL (YW ws r) s) r:=by
 rw[<-e,Zsk];exact⟨(Zl9 r _).symm,(Zkj r _).symm,(ZiY r _ []).symm⟩
structure Zqa (s:Hs) (w:Rw):Prop where
 put:w.word="put"->YL s.ws w.one=false
 held:w.word="hold"->s.ws.any (Jj w.one)=false
 ser:∀n∈Zay w,n∈s.rs.map Sr.nm
def Zb3(cn ca cl ce:Addr)(n:Nat)(C:Addr):Sp:=fun vs H Q _=>∃(a d:Addr) (w:Rw) (s:Hs) (F:List Addr),vs=[.ref a,.ref d]/\0<n/\ZV cn ca cl ce C H a s F/\Zd5 H d w/\s.ws.length<=900/\s.rs.length<=63/\Zqa s w/\∀H',Zy H H'->Q .non H'
theorem ZhL{cn ca cl ce C:Addr}:∀vs H Q E,¬Zb3 cn ca cl ce 0 C vs H Q E:=fun _ _ _ _ ⟨_,_,_,_,_,_,z,_⟩=>Nat.lt_irrefl 0 z
theorem ZnP(h:Str):∀ws:List Rw,(ws.filter Za1).any (Jj h)=ws.any (Jj h)
 |[]=>rfl
 |w::ws=>by
  have ih:=ZnP h ws;cases e:Za1 w with
  |true=>rw[List.filter_cons_of_pos e,List.any_cons,List.any_cons,ih]
  |false=>
   rw[List.filter_cons_of_neg (by rw[e];exact Bool.false_ne_true),List.any_cons,ih]
   cases w with
   |hold _ _ _ _=>cases e
   |_=>rfl
theorem Zqb{cn ca cl ce:Addr}{H:Hp}{ds:List Addr}{rs:List Sr}(pr:Paired (Ze5 cn ca cl ce H) ds rs)(j:Nat)(d:Addr)(e:ds[j]? =some d):∃r v,rs[j]? =some r/\H d=some (.tup [.str r.nm,oS r.el,v]):=by
 obtain⟨r,er,v,row,_⟩:=Yh pr j d e;exact⟨r,v,er,row⟩
theorem Za2:ZG ["self","row","name","series"] ["self","row"] (Zw Zab):=⟨rfl,rfl,rfl,by decide+kernel,rfl,by decide+kernel,by decide+kernel⟩
theorem Zf6{f:Addr}{fd:FuncData}(F:Fun K "refuse_row" "House.refuse_row" Zab f fd)(T:Txt K mg Zj Zg Zh Zb Zo)(n:Nat)(ZgV:Cal P w K mg base CX0 1 "is_laid" ["rows","hold"] Zft)(Zaz:Cal P w K mg base CX0 1 "is_put" ["rows","record"] Zd6)(Zcg:Cal P w K mg base CX0 1 "series_named" ["row"] Zbt):Yn P w K mg base CX0 (1+n+1+1) f fd ["self","row"] (Zb3 Zj Zg Zh Zb (n+1) Zo):=by
 refine F.ok Za2 (fun vs H Q E h=> ?_) (fun cdv A outer s H vs Q E hr h=> ?_)
 ·obtain⟨a,d,w,s,F,rfl,_⟩:=h
  rfl
 ·obtain⟨a,d,w,s,F,rfl,_,⟨dx,b,t,o,h,r,k,wd,os,kvs,ha,⟨bs,hb,pb⟩,⟨ts,ht,pt⟩,ho,oa,⟨hs,hh,ph⟩,hr',hk,pk,hw,_⟩,hd,ls,lr,tk,q⟩:=h;have l5:=YZ;have hu:=ZaJ hr;have hd:H d=some (.tup w.vs):=hd;have lbs:=Paired.length pb;refine⟨_,(Ze (Zz (i:=2) Za2.nd rfl (Or.inl rfl) (Zr Zu (pv 1) Zd (fun _ _=>rfl))) (Ze (ZS (PW.pt (Xb (Zq ZZ (Zr Zu (pv 1) Zd (fun _ _=>rfl)) ZD (Zt _)) (YT (Zaq (ZQ Zaz (hr.mono (by omega)) rfl ZJ (Za (Zin hu (Yi (pv 0) rfl) (pv 2) (ZX Zi) ⟨rfl,rfl,rfl,rfl⟩) (Za (pv 2) Zi))))))) (Zn ZfO) ZF) (Ze (ZS (PW.pt (Xb (Zq ZZ (Zr Zu (pv 1) Zd (fun _ _=>rfl)) ZD (Zt _)) (YT (Zaq (ZQ ZgV (hr.mono (by omega)) rfl ZJ (Za (Yi (pv 0) rfl) (Za (pv 2) Zi))))))) (Zn ZfO) ZF) (Zn (Xw PassesOwn.never rfl (Yg (ZQ Zcg (hr.mono (by omega)) rfl ZJ (Za (pv 1) Zi))) (ZK (i:=3) Za2.nd rfl (Or.inl rfl)) (Zn (ZS (Zq Zds (pv 3) (Jh ["known"] [] rfl (Yg (Yi (pv 0) rfl)) (by rfl) (by exact trivial) (by rfl) (by exact trivial) (fun _ _ _ _=>(ZK (i:=0) (show(nmY ["known"] []).Nodup by decide+kernel) rfl (Or.inl rfl))) (fun _ _ _ _=>Zdu) (fun _ _ _ _=>(Zr (Yq (K:=K) rfl) (pv 0) Zd (fun _ _=>rfl)))) rfl) (Zn ZfO) ZF))))))), ?_⟩
  refine(ixT rfl (SqT.of hd) (ZdN w) ?_);refine(fun(rest:∀(σ':L2.St) (H1:Hp),σ'=[some (.ref a),some (.ref d),some (.str w.one),none]->Zy H H1->(_:L2.St->Hp->Prop) σ' H1)=>
   ixT rfl (SqT.of hd) (Jq w) ⟨rfl,_,rfl,Yp (fun e=> ?yes) (fun e=>ZW (rest _ H rfl (Zy.refl _)))⟩) ?rest
  case yes=>
   have e:w.word="put":=by injection of_decide_eq_true e
   have no:=tk.put e;refine⟨_,rfl,a,_,dx,_,_,rfl,ha,T.cl_House,T.n_House_own,ZiX ..,o,rfl,.inl ⟨_,.inl ho⟩,_,rfl,Nat.zero_le _,fun l hl=> ?_⟩;have sl0:=Zk hl (o:=.lst []);have ho1:=sl0 _ _ ho;refine⟨YM (okv os) (Sum.inr w.one),.inl ⟨okv os,Sum.inr w.one,.inl ho1,rfl,rfl⟩, ?_⟩
   by_cases m:w.one∈os.map (·.1)
   ·obtain⟨x,hx,e2⟩:=List.mem_map.mp m;have ev:=ZgT oa.one x hx;rw[e2] at ev
    rw[ev];have at2:=Yd sl0 (oa.at_ x hx);have lu2:(YW s.ws x.1).length<=s.ws.length:=List.length_filter_le _ _;refine⟨_,rfl,x.2,YW s.ws x.1,w.one,rfl,at2,by omega,fun H2 s2=>⟨_,rfl, ?_⟩⟩;have nu:YL (YW s.ws x.1) w.one=false:=by rw[e2];exact(Zl9 w.one s.ws).trans no
    rw[nu];exact ZW (rest _ H2 rfl (sl0.trans s2))
   ·rw[Zi2 m];exact⟨_,rfl,l,[],w.one,rfl,⟨[],Zc,.nil⟩,Nat.zero_le _,fun H2 s2=>⟨_,rfl,ZW (rest _ H2 rfl (sl0.trans s2))⟩⟩
  case rest=>
   rintro σ' H1 rfl s1;have hd1:=s1 _ _ hd;have ha1:=s1 _ _ ha;refine(fun(rest2:∀(σ':L2.St) (H2:Hp),σ'=[some (.ref a),some (.ref d),some (.str w.one),none]->Zy H H2->(_:L2.St->Hp->Prop) σ' H2)=>
    ixT rfl (SqT.of hd1) (Jq w) ⟨rfl,_,rfl,Yp (fun e=> ?yes2) (fun e=>ZW (rest2 _ H1 rfl s1))⟩) ?rest2
   case yes2=>
    have e:w.word="hold":=by injection of_decide_eq_true e
    have lh2:(s.ws.filter Za1).length<=s.ws.length:=List.length_filter_le _ _;refine⟨_,rfl,a,_,dx,_,_,rfl,ha1,T.cl_House,T.n_House_holdings,Zcv ..,_,rfl,h,_,w.one,rfl,Yd s1 ⟨hs,hh,ph⟩,by omega,fun H2 s2=>⟨_,rfl, ?_⟩⟩;rw[ZnP,tk.held e];exact ZW (rest2 _ H2 rfl (s1.trans s2))
   case rest2=>
    rintro σ' H2 rfl s2;have hd2:=s2 _ _ hd;refine⟨_,rfl,d,w,rfl,hd2,fun L H3 hL s3 hL3=> ?_⟩;have s23:=s2.trans s3;refine⟨L,rfl,⟨_,SqL.of hL3⟩,YQ (xs:=(Zay w).map V.str) (fun i σ H'=>∃v3:Option V,σ=[some (.ref a),some (.ref d),some (.str w.one),v3]/\Zy H3 H') ?_ ?_ ?_ ?_⟩
    ·exact⟨none,rfl,Zy.refl _⟩
    ·rintro i σ H4 _ ⟨v3,rfl,s4⟩;exact SqL.of (s4 _ _ hL3)
    ·rintro i x σ H4 hx ⟨v3,rfl,s4⟩;obtain⟨n,rfl,en⟩:∃n,x=V.str n/\n∈Zay w:=by
      rw[List.getElem?_map] at hx
      cases e:(Zay w)[i]? with
      |none=>rw[e] at hx;cases hx
      |some y=>rw[e] at hx;exact⟨y,(Option.some.inj hx).symm,List.mem_of_getElem? e⟩
     have s24:=s23.trans s4;have ha4:=s24 _ _ ha;have hb4:=s24 _ _ hb;refine⟨_,rfl,_,rfl,a,_,dx,_,_,rfl,ha4,T.cl_House,T.n_House_book,Zge ..,b,rfl,⟨_,SqL.of hb4⟩,Xm bs.length (fun j=>[((s.rs[j]?).map fun r=>V.str r.nm).getD .non]) (by omega) (fun j=>Nat.le_refl 1) (fun j H5 s5 lt=>⟨_,_,SqL.of (s5 _ _ hb4),List.getElem?_eq_getElem (by rw[List.length_map];exact lt)⟩) (fun H5 s5=>⟨_,SqL.of (s5 _ _ hb4),by rw[List.length_map];exact Nat.le_refl _⟩) (fun j y H5 H6 s5 lt yl RT RF rt rf=> ?_) fun D H5 hD s5 d5=> ?_⟩
     ·obtain⟨rfl,yl⟩:=yl;obtain⟨dd,rfl,ed⟩:=YX (yl _ (SqL.of (s5 _ _ hb4)));obtain⟨r1,v,er,row⟩:=Zqb (ZgP (s24.trans s5) pb) j dd ed;rw[er] at rt
      exact⟨trivial,ZlO (ixT rfl (SqT.of row) rfl (rt _ _ rfl (Zy.refl _)))⟩
     have e6:(List.range bs.length).flatMap (fun j=>[((s.rs[j]?).map fun r=>V.str r.nm).getD .non])=(s.rs.map Sr.nm).map V.str:=by
      rw[Zah,lbs,ZgB s.rs (fun r=>V.str r.nm) .non,List.map_map]
      rfl
     rw[e6] at d5
     refine⟨D,_,rfl,.inl (SqL.of d5),rfl,Zf2 _,_,rfl, ?_⟩;show if(!inV (.str n) ((s.rs.map Sr.nm).map V.str))=true then _ else _;rw[Zl7,decide_eq_true (tk.ser n en)];exact ZW ⟨_,rfl,s4.trans s5⟩
    ·rintro σ H4 ⟨v3,rfl,s4⟩;exact q H4 (s23.trans s4)
def ZbM(z:Str)(wd:List (Str×Str)):List Str:=(wd.filter fun x=>decide (x.2=z)).map (·.1)
def Zcy(s:Hs)(w:Rw):List Str:=match w with
 | .hold _ _ _ _=>ZbM "due" s.wd
 | .lift _ _=>ZbM "held" s.wd
 | .put x _ _=>if x∈s.wd.map (·.1) then[x] else[]
 | .move x _ _=>if x∈s.wd.map (·.1) then[x] else[]
 | .deed x _ _=>if x∈s.wd.map (·.1) then[x] else[]
def Zb4(cn ca cl ce:Addr)(n:Nat)(C:Addr):Sp:=fun vs H Q _=>∃(a d:Addr) (w:Rw) (s:Hs) (F:List Addr),vs=[.ref a,.ref d]/\0<n/\ZV cn ca cl ce C H a s F/\Zd5 H d w/\s.wd.length<=900/\∀L H',H L=none->Zy H H'->H' L=some (.lst ((Zcy s w).map V.str))->Q (.ref L) H'
theorem ZhM{cn ca cl ce C:Addr}:∀vs H Q E,¬Zb4 cn ca cl ce 0 C vs H Q E:=fun _ _ _ _ ⟨_,_,_,_,_,_,z,_⟩=>Nat.lt_irrefl 0 z
def ZbE(z:Str)(kv:Key×V):List V:=if kv.2=V.str z then[kV kv.1] else[]
theorem ZfB(z:Str):∀wd:List (Str×Str),(wkv wd).flatMap (ZbE z)=(ZbM z wd).map V.str
 |[]=>rfl
 |x::wd=>by
  show ZbE z (Sum.inr x.1,V.str x.2)++(wkv wd).flatMap (ZbE z)=_;rw[ZfB z wd];unfold ZbE ZbM
  by_cases e:x.2=z
  ·rw[if_pos (by rw[e]),List.filter_cons_of_pos (by exact decide_eq_true e)]
   rfl
  ·rw[if_neg (by exact vne e),List.filter_cons_of_neg (by exact fun y=>e (of_decide_eq_true y))]
   rfl
theorem Zf3:∀{wd:List (Str×Str)} {r:Str},(YM (wkv wd) (Sum.inr r)).isSome=decide (r∈wd.map (·.1))
 |[],_=>rfl
 |x::wd,r=>by
  show(YM ((Sum.inr x.1,V.str x.2)::wkv wd) (Sum.inr r)).isSome=_
  by_cases e:x.1=r
  ·rw[YF (by rw[e])];exact(decide_eq_true (by rw[List.map_cons,e];exact List.mem_cons_self ..)).symm
  ·rw[Yx (by exact fun z=>e (by injection z)),Zf3];refine decide_eq_decide.mpr ⟨fun m=> ?_,fun m=> ?_⟩
   ·rw[List.map_cons];exact List.mem_cons_of_mem _ m
   ·rw[List.map_cons] at m
    cases m with
    |head=>exact absurd rfl e
    |tail _ m=>exact m
theorem Zf7:ZG ["self","row"] ["self","row"] (Zw Zac):=⟨rfl,rfl,rfl,by decide+kernel,rfl,by decide+kernel,by decide+kernel⟩
theorem Zf8{f:Addr}{fd:FuncData}(F:Fun K "touched_by" "House.touched_by" Zac f fd)(T:Txt K mg Zj Zg Zh Zb Zo)(n:Nat):Yn P w K mg base CX0 (0+n+1+1) f fd ["self","row"] (Zb4 Zj Zg Zh Zb (n+1) Zo):=by
 refine F.ok Zf7 (fun vs H Q E h=> ?_) (fun cdv A outer s H vs Q E hr h=> ?_)
 ·obtain⟨a,d,w,s,F,rfl,_⟩:=h
  rfl
 ·obtain⟨a,d,w,s,F,rfl,_,⟨dx,b,t,o,h,r,k,wd,os,kvs,ha,_,_,_,_,_,_,_,_,hw,_⟩,hd,lw,q⟩:=h;have l5:=YZ;have hu:=ZaJ hr;have hd:H d=some (.tup w.vs):=hd;have lk1:(wkv s.wd).length<=sizeLine:=by
   unfold wkv;rw[List.length_map];omega
  have nf:∀o u,H wd≠some (.frz o u):=fun o u z=>by rw[hw] at z;cases z
  have fin:∀(z:Str) (D v:Addr) (o:Obj) (H2:Hp),H v=none->Zy (upd (upd H v (Zd2 v wd)) wd (.frz o (.dK (wkv s.wd)))) H2->upd (upd H v (Zd2 v wd)) wd (.frz o (.dK (wkv s.wd))) D=none->H2 D=some (.lst ((ZbM z s.wd).map V.str))->Zcy s w=ZbM z s.wd->∃c H3,ZrX H c H2 H3/\Q (.ref D) H3:=fun z D v o H2 hv0 s2 hD d2 e=>by
   have hva:v≠wd:=fun y=>by rw[y,hw] at hv0;cases hv0
   have hDa:D≠wd:=fun y=>by rw[y,Zc] at hD;cases hD
   have hDv:D≠v:=fun y=>by rw[y,Zm hva,Zc] at hD;cases hD
   have fs:Ziv wd (wkv s.wd) H H2:=⟨fun b u n y=>s2 b u (by rw[Zm n,Zm (Zf y hv0)];exact y),o,s2 _ _ Zc⟩
   obtain⟨t1,t2⟩:=fs.thaw hw nf;exact⟨wd,_,t1,q D _ (by rw[Zm hDa,Zm hDv] at hD;exact hD) t2 (by rw[Zm hDa,d2,e])⟩
  refine⟨_,(Ze (ZS (Zq ZZ (Zr Zu (pv 1) Zd (fun _ _=>rfl)) ZD (Zt _)) (Zn (Zx (Zg0 (Jh ["record","word"] [] rfl (Zis (Zir (Yi (pv 0) rfl))) (by rfl) (by exact trivial) (by rfl) (by exact trivial) (fun _ _ _ _=>(ZkL (K:=K) 2 rfl rfl (YC (ZK (i:=0) (show(nmY ["record","word"] []).Nodup by decide+kernel) rfl (Or.inl rfl) (Or.inr rfl)) (YC (ZK (i:=1) (show(nmY ["record","word"] []).Nodup by decide+kernel) rfl (Or.inl rfl) (Or.inr rfl)) Zdp)) rfl rfl)) (fun _ _ _ _=>(JB (Zq ZZ (pv 1) ZD (Zt _)))) (fun _ _ _ _=>(pv 0)))))) ZF) (Ze (ZS (Zq ZZ (Zr Zu (pv 1) Zd (fun _ _=>rfl)) ZD (Zt _)) (Zn (Zx (Zg0 (Jh ["record","word"] [] rfl (Zis (Zir (Yi (pv 0) rfl))) (by rfl) (by exact trivial) (by rfl) (by exact trivial) (fun _ _ _ _=>(ZkL (K:=K) 2 rfl rfl (YC (ZK (i:=0) (show(nmY ["record","word"] []).Nodup by decide+kernel) rfl (Or.inl rfl) (Or.inr rfl)) (YC (ZK (i:=1) (show(nmY ["record","word"] []).Nodup by decide+kernel) rfl (Or.inl rfl) (Or.inr rfl)) Zdp)) rfl rfl)) (fun _ _ _ _=>(JB (Zq ZZ (pv 1) ZD (Zt _)))) (fun _ _ _ _=>(pv 0)))))) ZF) (Zn (Zx (Jh ["record"] [("self",0)] rfl (Yg (ZX (Za (Zr Zu (pv 1) Zd (fun _ _=>rfl)) Zi))) (by rfl) (by exact⟨rfl,trivial⟩) (by rfl) (by exact⟨⟨rfl,rfl,rfl⟩,trivial⟩) (fun _ _ _ _=>(ZK (i:=0) (show(nmY ["record"] [("self",0)]).Nodup by decide+kernel) rfl (Or.inl rfl))) (fun _ _ _ _=>(JB (Zdo (Zim hu (pv 0) (ZkU (K:=K) rfl (pv 1) rfl))))) (fun _ _ _ _=>(pv 0))))))), ?_⟩
  cases w with
  |hold x c n y=>
   refine(ixT rfl (SqT.of hd) rfl ⟨rfl,_,rfl,Zb9 rfl ?_⟩);refine⟨_,rfl,a,_,dx,_,_,rfl,ha,T.cl_House,T.n_House_words,ZaA ..,wd,_,rfl,hw,fun v hv0=>⟨v,wd,_,rfl,Zc,by rw[Zm (Zf hw hv0)];exact hw,fun ob=> ?_⟩⟩
   refine Xm (wkv s.wd).length (fun i=>(((wkv s.wd)[i]?).map (ZbE "due")).getD []) lk1 (fun i=> ?_) (fun i H2 s lt=>⟨s _ _ Zc,lt⟩) (fun H2 s=>⟨s _ _ Zc,Nat.le_refl _⟩) (fun i x H2 H3 s2 lt y RT RF rt rf=> ?_) fun D H2 hD s2 d2=> ?_
   ·cases(wkv s.wd)[i]? with
    |none=>exact Nat.zero_le _
    |some kv=>
     show(ZbE "due" kv).length<=1;unfold ZbE
     split
     ·exact Nat.le_refl _
     ·exact Nat.zero_le _
   ·obtain⟨kv,p,e2,hp,e3,e4⟩:=y;subst e3 e4;rw[e2] at rt rf
    have rt:∀v H6,ZbE "due" kv=[v]->_:=rt;have rf:∀H5,ZbE "due" kv=[]->_:=rf;obtain⟨x0,_,rfl⟩:=List.mem_map.mp (List.mem_of_getElem? e2);have s3:Zy H2 (upd H2 p (.tup [kV (Sum.inr x0.1),V.str x0.2])):=Zk hp;exact⟨p,_,rfl,SqT.of Zc,rfl,_,_,rfl,_,_,rfl,rfl,trivial,_,rfl,rfl,_,rfl,Yp (fun e=>⟨_,rfl,rt _ _ (if_pos (of_decide_eq_true e)) s3⟩) (fun e=>rf _ (if_neg fun y=>e (decide_eq_true y)) s3)⟩
   ·rw[Xo (ZbE "due") (wkv s.wd),ZfB] at d2
    exact fin "due" D v ob H2 hv0 s2 hD d2 rfl
  |lift x y=>
   refine(ixT rfl (SqT.of hd) rfl ⟨rfl,_,rfl,Yu (vne Zm7) (ixT rfl (SqT.of hd) rfl ⟨rfl,_,rfl,Zb9 rfl ?_⟩)⟩);refine⟨_,rfl,a,_,dx,_,_,rfl,ha,T.cl_House,T.n_House_words,ZaA ..,wd,_,rfl,hw,fun v hv0=>⟨v,wd,_,rfl,Zc,by rw[Zm (Zf hw hv0)];exact hw,fun ob=> ?_⟩⟩
   refine Xm (wkv s.wd).length (fun i=>(((wkv s.wd)[i]?).map (ZbE "held")).getD []) lk1 (fun i=> ?_) (fun i H2 s lt=>⟨s _ _ Zc,lt⟩) (fun H2 s=>⟨s _ _ Zc,Nat.le_refl _⟩) (fun i x H2 H3 s2 lt y RT RF rt rf=> ?_) fun D H2 hD s2 d2=> ?_
   ·cases(wkv s.wd)[i]? with
    |none=>exact Nat.zero_le _
    |some kv=>
     show(ZbE "held" kv).length<=1;unfold ZbE
     split
     ·exact Nat.le_refl _
     ·exact Nat.zero_le _
   ·obtain⟨kv,p,e2,hp,e3,e4⟩:=y;subst e3 e4;rw[e2] at rt rf
    have rt:∀v H6,ZbE "held" kv=[v]->_:=rt;have rf:∀H5,ZbE "held" kv=[]->_:=rf;obtain⟨x0,_,rfl⟩:=List.mem_map.mp (List.mem_of_getElem? e2);have s3:Zy H2 (upd H2 p (.tup [kV (Sum.inr x0.1),V.str x0.2])):=Zk hp;exact⟨p,_,rfl,SqT.of Zc,rfl,_,_,rfl,_,_,rfl,rfl,trivial,_,rfl,rfl,_,rfl,Yp (fun e=>⟨_,rfl,rt _ _ (if_pos (of_decide_eq_true e)) s3⟩) (fun e=>rf _ (if_neg fun y=>e (decide_eq_true y)) s3)⟩
   ·rw[Xo (ZbE "held") (wkv s.wd),ZfB] at d2
    exact fin "held" D v ob H2 hv0 s2 hD d2 rfl
  |put x sr y=>
   refine(ixT rfl (SqT.of hd) rfl ⟨rfl,_,rfl,Yu (vne Zga) (ixT rfl (SqT.of hd) rfl ⟨rfl,_,rfl,Yu (vne Zhm) ?_⟩)⟩);refine(ixT rfl (SqT.of hd) rfl ⟨show 1<=sizeLine from sl,fun t1 ht1=> ?_⟩);have s1:=Zk ht1 (o:=.lst [.str x]);have g1:upd H t1 (.lst [.str x]) t1=some (.lst [.str x]):=Zc;generalize upd H t1 (.lst [.str x])=H1 at s1 g1
   refine⟨t1,rfl,⟨_,SqL.of g1⟩,Xm 1 (fun _=>if x∈s.wd.map (·.1) then[V.str x] else[]) (show 1<=sizeLine from sl) (fun _=>by split<;>simp) (fun i H2 s2 lt=>⟨_,_,SqL.of (s2 _ _ g1),List.getElem?_eq_getElem lt⟩) (fun H2 s2=>⟨_,SqL.of (s2 _ _ g1),Nat.le_refl _⟩) (fun i z H2 H3 s2 lt yl RT RF rt rf=> ?_) fun D H2 hD s2 d2=> ?_⟩
   ·obtain⟨rfl,yl⟩:=yl;have zx:=yl _ (SqL.of (s2 _ _ g1));obtain rfl:i=0:=Nat.lt_one_iff.mp lt;obtain rfl:=Option.some.inj zx;have s13:=s1.trans s2;have w3:=s13 _ _ hw;refine⟨⟨rfl,trivial⟩,_,rfl,_,rfl,a,_,dx,_,_,rfl,s13 _ _ ha,T.cl_House,T.n_House_words,ZaA ..,wd,_,rfl,.inl ⟨wkv s.wd,Sum.inr x,.inl w3,rfl,rfl⟩,_,rfl, ?_⟩;rw[Zf3];exact Yp (fun e=>⟨_,rfl,rt _ _ (if_pos (of_decide_eq_true e)) (Zy.refl _)⟩) (fun e=>rf _ (if_neg fun y=>e (decide_eq_true y)) (Zy.refl _))
   ·refine q D H2 (Xv s1 hD) (s1.trans s2) ?_;rw[d2];show some (HO.lst ((if x∈s.wd.map (·.1) then[V.str x] else[])++[]))=some (HO.lst ((if x∈s.wd.map (·.1) then[x] else[]).map V.str));rw[List.append_nil]
    split<;>rfl
  |move x sr y=>
   refine(ixT rfl (SqT.of hd) rfl ⟨rfl,_,rfl,Yu (vne ZiP) (ixT rfl (SqT.of hd) rfl ⟨rfl,_,rfl,Yu (vne Zke) ?_⟩)⟩);refine(ixT rfl (SqT.of hd) rfl ⟨show 1<=sizeLine from sl,fun t1 ht1=> ?_⟩);have s1:=Zk ht1 (o:=.lst [.str x]);have g1:upd H t1 (.lst [.str x]) t1=some (.lst [.str x]):=Zc;generalize upd H t1 (.lst [.str x])=H1 at s1 g1
   refine⟨t1,rfl,⟨_,SqL.of g1⟩,Xm 1 (fun _=>if x∈s.wd.map (·.1) then[V.str x] else[]) (show 1<=sizeLine from sl) (fun _=>by split<;>simp) (fun i H2 s2 lt=>⟨_,_,SqL.of (s2 _ _ g1),List.getElem?_eq_getElem lt⟩) (fun H2 s2=>⟨_,SqL.of (s2 _ _ g1),Nat.le_refl _⟩) (fun i z H2 H3 s2 lt yl RT RF rt rf=> ?_) fun D H2 hD s2 d2=> ?_⟩
   ·obtain⟨rfl,yl⟩:=yl;have zx:=yl _ (SqL.of (s2 _ _ g1));obtain rfl:i=0:=Nat.lt_one_iff.mp lt;obtain rfl:=Option.some.inj zx;have s13:=s1.trans s2;have w3:=s13 _ _ hw;refine⟨⟨rfl,trivial⟩,_,rfl,_,rfl,a,_,dx,_,_,rfl,s13 _ _ ha,T.cl_House,T.n_House_words,ZaA ..,wd,_,rfl,.inl ⟨wkv s.wd,Sum.inr x,.inl w3,rfl,rfl⟩,_,rfl, ?_⟩;rw[Zf3];exact Yp (fun e=>⟨_,rfl,rt _ _ (if_pos (of_decide_eq_true e)) (Zy.refl _)⟩) (fun e=>rf _ (if_neg fun y=>e (decide_eq_true y)) (Zy.refl _))
   ·refine q D H2 (Xv s1 hD) (s1.trans s2) ?_;rw[d2];show some (HO.lst ((if x∈s.wd.map (·.1) then[V.str x] else[])++[]))=some (HO.lst ((if x∈s.wd.map (·.1) then[x] else[]).map V.str));rw[List.append_nil]
    split<;>rfl
  |deed x c y=>
   refine(ixT rfl (SqT.of hd) rfl ⟨rfl,_,rfl,Yu (vne ZiQ) (ixT rfl (SqT.of hd) rfl ⟨rfl,_,rfl,Yu (vne Zm6) ?_⟩)⟩);refine(ixT rfl (SqT.of hd) rfl ⟨show 1<=sizeLine from sl,fun t1 ht1=> ?_⟩);have s1:=Zk ht1 (o:=.lst [.str x]);have g1:upd H t1 (.lst [.str x]) t1=some (.lst [.str x]):=Zc;generalize upd H t1 (.lst [.str x])=H1 at s1 g1
   refine⟨t1,rfl,⟨_,SqL.of g1⟩,Xm 1 (fun _=>if x∈s.wd.map (·.1) then[V.str x] else[]) (show 1<=sizeLine from sl) (fun _=>by split<;>simp) (fun i H2 s2 lt=>⟨_,_,SqL.of (s2 _ _ g1),List.getElem?_eq_getElem lt⟩) (fun H2 s2=>⟨_,SqL.of (s2 _ _ g1),Nat.le_refl _⟩) (fun i z H2 H3 s2 lt yl RT RF rt rf=> ?_) fun D H2 hD s2 d2=> ?_⟩
   ·obtain⟨rfl,yl⟩:=yl;have zx:=yl _ (SqL.of (s2 _ _ g1));obtain rfl:i=0:=Nat.lt_one_iff.mp lt;obtain rfl:=Option.some.inj zx;have s13:=s1.trans s2;have w3:=s13 _ _ hw;refine⟨⟨rfl,trivial⟩,_,rfl,_,rfl,a,_,dx,_,_,rfl,s13 _ _ ha,T.cl_House,T.n_House_words,ZaA ..,wd,_,rfl,.inl ⟨wkv s.wd,Sum.inr x,.inl w3,rfl,rfl⟩,_,rfl, ?_⟩;rw[Zf3];exact Yp (fun e=>⟨_,rfl,rt _ _ (if_pos (of_decide_eq_true e)) (Zy.refl _)⟩) (fun e=>rf _ (if_neg fun y=>e (decide_eq_true y)) (Zy.refl _))
   ·refine q D H2 (Xv s1 hD) (s1.trans s2) ?_;rw[d2];show some (HO.lst ((if x∈s.wd.map (·.1) then[V.str x] else[])++[]))=some (HO.lst ((if x∈s.wd.map (·.1) then[x] else[]).map V.str));rw[List.append_nil]
    split<;>rfl
def Jb(ws:List Rw)(day:Int):List Rw:=Yy (ZL (ws.filter Za1) day)
theorem Ztg(ws:List Rw)(day:Int):ZL (ws.filter Za1) day=(ZL ws day).filter Za1:=by
 unfold ZL;rw[List.filter_filter,List.filter_filter]
 congr 1
 funext w
 exact Bool.and_comm ..
theorem Zkk:∀us:List Rw,Xi (us.filter Za1)=Xi us
 |[]=>rfl
 |w::us=>by
  have ih:=Zkk us;unfold Xi at ih⊢
  cases e:Za1 w with
  |true=>
   rw[List.filter_cons_of_pos e];cases f:Zad w with
   |none=>rw[List.filterMap_cons_none f,List.filterMap_cons_none f,ih]
   |some z=>rw[List.filterMap_cons_some f,List.filterMap_cons_some f,ih]
  |false=>
   rw[List.filter_cons_of_neg (by rw[e];exact Bool.false_ne_true),ih]
   cases w with
   |lift _ _=>cases e
   |_=>rfl
theorem Zmf(us:List Rw):Yy (us.filter Za1)=Yy us:=by
 unfold Yy;rw[Zkk,List.filter_filter];refine List.filter_congr fun w _=> ?_;cases w with
 |hold a b c d=>exact Bool.and_true _
 |_=>rfl
theorem ZiZ(ws:List Rw)(day:Int):Jb ws day=Yy (ZL ws day):=by
 unfold Jb;rw[Ztg,Zmf]
theorem ZdQ{ws:List Rw}{day:Int}{w:Rw}(h:w∈Jb ws day):(∃hh c n d,w=.hold hh c n d)/\w.day<=day/\w∈ws:=by
 rw[ZiZ] at h
 obtain⟨h1,h2⟩:=List.mem_filter.mp h;obtain⟨h3,h4⟩:=List.mem_filter.mp h1;exact⟨Zcc h2,of_decide_eq_true h4,h3⟩
theorem Zgi{ws:List Rw}{r:Str}{w:Rw}(h:w∈YW ws r):Za1 w=false:=by
 have:=(List.mem_filter.mp h).2;cases w with
 |hold _ _ _ _=>cases this
 |lift _ _=>cases this
 |_=>rfl
def XJ(ws:List Rw)(r:Str)(day:Int):List Rw:=YW ws r++Jb ws day
theorem Znb(ws:List Rw)(r:Str)(day:Int):ZL (XJ ws r day) day=ZL (YW ws r) day++Jb ws day:=by
 unfold XJ;show(YW ws r++Jb ws day).filter _=(YW ws r).filter _++Jb ws day;rw[List.filter_append]
 congr 1
 exact List.filter_eq_self.mpr fun w hw=>decide_eq_true (ZdQ hw).2.1
theorem ZjH{us:List Rw}{r:Str}(h:∀w∈us,∃hh c n d,w=Rw.hold hh c n d):YL us r=false/\Ym us r=[]/\(∀l,us.foldl (Xa r) l=l)/\Xi us=[]:=by
 induction us with
 |nil=>exact⟨rfl,rfl,fun _=>rfl,rfl⟩
 |cons w us ih=>
  obtain⟨hh,c,n,d,rfl⟩:=h w (List.mem_cons_self ..);obtain⟨a1,a2,a3,a4⟩:=ih fun x hx=>h x (List.mem_cons_of_mem _ hx);exact⟨a1,a2,a3,a4⟩
theorem Zgj(ws:List Rw)(r:Str)(day:Int):YL (ZL (XJ ws r day) day) r=YL (ZL ws day) r/\Ym (ZL (XJ ws r day) day) r=Ym (ZL ws day) r/\Yc (ZL (XJ ws r day) day) r=Yc (ZL ws day) r/\∀line,Yw (ZL (XJ ws r day) day) r line=Yw (ZL ws day) r line:=by
 obtain⟨a1,a2,a3,a4⟩:=ZjH (r:=r) fun w hw=>(ZdQ (ws:=ws) (day:=day) hw).1;obtain⟨b1,b2,b3⟩:=Zi3 (ws:=ws) (r:=r) (x:=day) (s:=day) rfl;rw[Znb];refine⟨?_, ?_, ?_,fun line=> ?_⟩
 ·rw[b1];unfold YL at a1⊢
  rw[List.any_append,a1,Bool.or_false]
 ·rw[b2];unfold Ym at a2⊢
  rw[List.filterMap_append,a2,List.append_nil]
 ·rw[b3];unfold Yc;rw[List.foldl_append,a3]
 ·have own0:∀w∈ZL (YW ws r) day,Za1 w=false:=fun w hw=>Zgi (List.mem_filter.mp hw).1;have l0:Xi (ZL (YW ws r) day)=[]:=List.filterMap_eq_nil_iff.mpr fun w hw=>by
   have:=own0 w hw;cases w with
   |lift _ _=>cases this
   |_=>rfl
  have l1:Xi (ZL (YW ws r) day++Jb ws day)=[]:=by
   unfold Xi at l0 a4⊢
   rw[List.filterMap_append,l0,a4]
   rfl
  have st:Yy (ZL (YW ws r) day++Jb ws day)=Jb ws day:=by
   unfold Yy;rw[l1,List.filter_append,List.filter_eq_nil_iff.mpr fun w hw=>by
    have:=own0 w hw;cases w with
    |hold _ _ _ _=>cases this
    |_=>exact Bool.false_ne_true,List.nil_append]
   refine List.filter_eq_self.mpr fun w hw=> ?_;obtain⟨⟨hh,c,n,d,rfl⟩,_⟩:=ZdQ hw;show decide (hh∉([]:List Str))=true;exact decide_eq_true List.not_mem_nil
  unfold Yw;rw[st,ZiZ]
theorem Zkl{rs:List Sr}{ws:List Rw}{r:Str}{day:Int}{j:Jd}(is:IsJ rs (XJ ws r day) r day j):IsJ rs ws r day j:=by
 obtain⟨e1,e2,e3,e4⟩:=Zgj ws r day;refine⟨fun z=>is.no (e1.trans z),fun z=> ?_⟩;obtain⟨y,r0,t,top,ow,ht,c4,c5,c6,c7,c8,c9⟩:=is.yes (e1.trans z);rw[e2] at top
 rw[e3] at c6
 rw[e4] at c7
 exact⟨y,r0,t,top,ow,ht,c4,c5,c6,c7,c8,c9⟩
theorem Zmg{rs:List Sr}{ws:List Rw}{r:Str}{day:Int}{H:Hp}{v:V}(is:Zm2 rs (XJ ws r day) r day H v):Zm2 rs ws r day H v:=by
 obtain⟨e1,e2,e3,e4⟩:=Zgj ws r day;refine⟨fun z=>is.no (e1.trans z),fun z=> ?_⟩;obtain⟨y,r0,t,top,ow,ht,no,yes⟩:=is.yes (e1.trans z);rw[e2] at top
 rw[e3] at no yes
 exact⟨y,r0,t,top,ow,ht,no,yes⟩
theorem Zj0{rs:List Sr}{ws:List Rw}{r:Str}{day:Int}(ro:ZdI rs ws)(l:ws.length<=500):ZdI rs (XJ ws r day):=by
 have l1:(YW ws r).length<=ws.length:=List.length_filter_le _ _;have l2:(Jb ws day).length<=(ws.filter JH).length:=by
  rw[ZiZ];have:(Yy (ZL ws day)).length<=((ZL ws day).filter JH).length:=by
   unfold Yy;rw[<-List.countP_eq_length_filter,<-List.countP_eq_length_filter];refine List.countP_mono_left fun w _ h=> ?_;obtain⟨a,b,c,d,rfl⟩:=Zcc h
   rfl
  refine Nat.le_trans this ?_;unfold ZL;rw[List.filter_filter,<-List.countP_eq_length_filter,<-List.countP_eq_length_filter];exact List.countP_mono_left fun w _ h=>(Bool.and_eq_true_iff.mp h).1
 have l3:=ro.held;have l4:(ws.filter JH).length<=ws.length:=List.length_filter_le _ _;refine⟨?_, ?_,fun q y hy=> ?_⟩
 ·unfold XJ;rw[List.length_append];omega
 ·unfold XJ;rw[List.filter_append,List.length_append,List.filter_eq_nil_iff.mpr fun w hw=>by
   have:=Zgi hw;cases w with
   |hold _ _ _ _=>cases this
   |_=>exact Bool.false_ne_true]
  have:=List.length_filter_le JH (Jb ws day);rw[List.length_nil];omega
 ·obtain⟨w,hw,e⟩:=List.mem_filterMap.mp hy;refine ro.ser q y (List.mem_filterMap.mpr ⟨w, ?_,e⟩);rcases List.mem_append.mp hw with z|z
  ·exact(List.mem_filter.mp z).1
  ·exact(ZdQ z).2.2
structure ZgW (rs:List Sr) (ws:List Rw) (r:Str) (day:Int) (z:Str):Prop where
 no:YL (ZL ws day) r=false->z="absent"
 yes:YL (ZL ws day) r=true->∃(y:ZaI) (r0:Sr) (t:Tr),Top (Ym (ZL ws day) r) y/\Zer rs.reverse (some y.2)=some r0/\r0.tm=some t/\z=JD (t.due (Yc (ZL ws day) r)) (Yw (ZL ws day) r (Jg rs.reverse (some y.2))).length day
theorem IsJ.word{rs:List Sr}{ws:List Rw}{r:Str}{day:Int}{j:Jd}(is:IsJ rs ws r day j):ZgW rs ws r day j.word:=by
 refine⟨fun z=>by rw[is.no z];rfl,fun z=> ?_⟩
 obtain⟨y,r0,t,top,ow,ht,c4,c5,c6,c7,c8,c9⟩:=is.yes z;exact⟨y,r0,t,top,ow,ht,by rw[c9,c6,c7.length_eq]⟩
def Zla(s:Hs)(f:Str×Str):Prop:=∃n day,(f.1,n,day)∈s.gs/\ZgW s.rs s.ws f.1 day f.2
def ZoE(H:Hp)(f:Str×Str)(v:V):Prop:=∃p,v=.ref p/\H p=some (.tup [.str f.1,.str f.2])
structure ZoF (s:Hs):Prop where
 bk:Jx [] s.rs
 lr:s.rs.length<=63
 rows:ZdI s.rs s.ws
 few:s.ws.length<=400
 one:(s.gs.map (·.1)).Nodup
 own:∀g∈s.gs,YW s.ws g.1≠[]
def ZbN(cn ca cl ce:Addr)(n:Nat)(C:Addr):Sp:=fun vs H Q _=>∃(a l:Addr) (recs:List Str) (s:Hs) (F:List Addr),vs=[.ref a,.ref l]/\0<n/\ZV cn ca cl ce C H a s F/\ZoF s/\H l=some (.lst (recs.map V.str))/\recs.length<=900/\(∀r∈recs,r∈s.gs.map (·.1))/\
 ∀L us fs H',H L=none->Zy H H'->H' L=some (.lst us)->Paired (ZoE H') fs us->fs.map (·.1)=recs->(∀f∈fs,Zla s f)->Q (.ref L) H'
theorem Zj1{cn ca cl ce C:Addr}:∀vs H Q E,¬ZbN cn ca cl ce 0 C vs H Q E:=fun _ _ _ _ ⟨_,_,_,_,_,_,z,_⟩=>Nat.lt_irrefl 0 z
theorem Znc{H:Hp}:∀{gs:List Gn} {kvs:List (Key×V)},Paired (Zg7 H) gs kvs->(gs.map (·.1)).Nodup->∀g∈gs,∃p,YM kvs (Sum.inr g.1)=some (.ref p)/\H p=some (.tup [.int g.2.1,.int g.2.2])
 |_,_,.nil,_,g,h=>nomatch h
 |_,_,.cons (a:=y) ⟨p,e,hp⟩ t,nd,g,h=>by
  rw[List.map_cons] at nd
  obtain⟨off,rest⟩:=List.nodup_cons.mp nd;subst e;cases h with
  |head=>exact⟨p,YF rfl,hp⟩
  |tail _ m=>
   obtain⟨p',e',h'⟩:=Znc t rest g m;have ne:¬(Sum.inr y.1:Key)=Sum.inr g.1:=fun z=>off (List.mem_map.mpr ⟨g,m,by injection z with z;exact z.symm⟩)
   exact⟨p',(Yx (p:=(Sum.inr y.1,V.ref p)) ne).trans e',h'⟩
theorem Zlb{H H':Hp}(s:∀b xs,H b=some (.tup xs)->H' b=some (.tup xs)):∀{fs:List (Str×Str)} {us:List V},Paired (ZoE H) fs us->Paired (ZoE H') fs us
 |_,_,.nil=> .nil
 |_,_,.cons ⟨p,e,h⟩ t=> .cons ⟨p,e,s _ _ h⟩ (Zlb s t)
def Zr8(H:Hp)(S D:Addr)(ws:List Rw)(n:Nat):Prop:=∃kvs:List (Key×V),H S=some (.dK kvs)/\kvs.length<=n/\∀day v,YM kvs (Sum.inl day)=some v->∃l,v=.ref l/\l≠D/\Ys H l (Jb ws day)
theorem ZfS{kvs:List (Key×V)}{k j:Key}{y:V}:YM (Jw kvs k y) j=if j=k then some y else YM kvs j:=by
 unfold Jw;cases e:(kvs.any fun kv=>decide (kv.1=k)) with
 |true=>
  rw[if_pos rfl,Zij]
  by_cases z:j=k
  ·subst z;rw[Zar] at e
   obtain⟨v,ev⟩:=Option.isSome_iff_exists.mp e;rw[if_pos rfl,ev];exact congrArg some (if_pos rfl)
  ·rw[if_neg z];cases YM kvs j with
   |none=>rfl
   |some v=>exact congrArg some (if_neg z)
 |false=>
  rw[if_neg Bool.false_ne_true];have no:YM kvs k=none:=by
   rw[Zar] at e
   cases q:YM kvs k with
   |none=>rfl
   |some v=>rw[q] at e;cases e
  have app:∀l:List (Key×V),YM (l++[(k,y)]) j=match YM l j with|some v=>some v|none=>if j=k then some y else none:=fun l=>by
   induction l with
   |nil=>
    by_cases z:k=j
    ·show YM [(k,y)] j=_;rw[YF z,if_pos z.symm]
     rfl
    ·show YM [(k,y)] j=_;rw[Yx z,if_neg (Ne.symm z)]
     rfl
   |cons p l ih=>
    by_cases z:p.1=j
    ·rw[List.cons_append,YF z,YF z]
    ·rw[List.cons_append,Yx z,Yx z,ih]
  rw[app]
  by_cases z:j=k
  ·rw[z,no,if_pos rfl]
  ·rw[if_neg z,if_neg z];cases YM kvs j<;>rfl
theorem Zqc(kvs:List (Key×V))(k:Key)(v:V):(Jw kvs k v).length<=kvs.length+1:=by
 unfold Jw
 split
 ·rw[List.length_map];exact Nat.le_succ _
 ·rw[List.length_append];exact Nat.le_refl _
theorem Xc:ZG ["self","records","found","stays","record","day","rows"] ["self","records"] (Zw Zav):=⟨rfl,rfl,rfl,by decide+kernel,rfl,by decide+kernel,by decide+kernel⟩
theorem ZfC{f:Addr}{fd:FuncData}(F:Fun K "words_now" "House.words_now" Zav f fd)(T:Txt K mg Zj Zg Zh Zb Zo)(n:Nat)(XR:Cal P w K mg base CX0 1 "counted" ["rows","day"] ZaR)(Zdd:Cal P w K mg base CX0 14 "judged" ["book","rows","record","day"] (ZeW Zj Zg Zh Zb))(Jr:Cal P w K mg base CX0 1 "standing" ["rows"] Zbc):Yn P w K mg base CX0 (14+n+1+1) f fd ["self","records"] (ZbN Zj Zg Zh Zb (n+1) Zo):=by
 refine F.ok Xc (fun vs H Q E h=> ?_) (fun cdv A outer s H vs Q E hr h=> ?_)
 ·obtain⟨a,l,recs,s,F,rfl,_⟩:=h
  rfl
 ·obtain⟨a,l,recs,s,F,rfl,_,⟨dx,b,t,o,h,r,k,wd,os,kvs,ha,hb,⟨ts,ht,pt⟩,ho,oa,hh,hr',hk,pk,hw,_⟩,ok,hl,lrc,sub,q⟩:=h;have l5:=YZ;have hu:=ZaJ hr;have few:=ok.few;refine⟨_,(Ze (Zz (i:=2) Xc.nd rfl (Or.inl rfl) (ZX Zi)) (Ze (Zz (i:=3) Xc.nd rfl (Or.inl rfl) Za4) (Ze (Xw PassesOwn.never rfl (Yg (pv 1)) (ZK (i:=4) Xc.nd rfl (Or.inl rfl)) (Ze (Zz (i:=5) Xc.nd rfl (Or.inl rfl) (Zr Zu (Za9 hu (Yi (pv 0) rfl) (pv 4) (fun _ _=>rfl)) Zd (fun _ _=>rfl))) (Ze (ZS (Zdo (Zd1 hu (pv 5) (pv 3))) (Zn (ZbG hu (pv 3) (pv 5) (ZQ Jr (hr.mono (by omega)) rfl ZJ (Za (ZQ XR (hr.mono (by omega)) rfl ZJ (Za (Yi (pv 0) rfl) (Za (pv 5) Zi))) Zi)) rfl)) ZF) (Ze (Zz (i:=6) Xc.nd rfl (Or.inl rfl) (ZC ZeS (Za9 hu (Yi (pv 0) rfl) (pv 4) (fun _ _=>rfl)) (Za9 hu (pv 3) (pv 5) (fun _ _=>rfl)))) (Zn (YB (JG PySem.F.plainAttrs_list PySem.F.slot_list_append PySem.F.type_list_append Yk (pv 2) (Za (Yr (Za (pv 4) (Za (Zr Zu (ZQ Zdd (hr.mono (by omega)) rfl ZJ (Za (Yi (pv 0) rfl) (Za (pv 6) (Za (pv 4) (Za (pv 5) Zi))))) Zd (fun _ _=>rfl)) Zi))) Zi)))))))) (Zn (Zx (pv 2)))))), ?_⟩
  refine⟨Nat.zero_le _,fun Fd hFd=> ?_⟩;have sF:=Zk hFd (o:=.lst []);refine(fun S hS=> ?_);have sS:=Zk hS (o:=.dK []);have nFS:Fd≠S:=Zf (show upd H Fd (.lst []) Fd=some (.lst []) from Zc) hS;have nS:H S=none:=Xv sF hS;refine⟨_,rfl,l,rfl,⟨_,SqL.of ((sF.trans sS) _ _ hl)⟩,YQ (xs:=recs.map V.str) (fun i σ H'=>∃(v4 v5 v6:Option V) (us:List V) (fs:List (Str×Str)),σ=[some (.ref a),some (.ref l),some (.ref Fd),some (.ref S),v4,v5,v6]/\H' Fd=some (.lst us)/\Paired (ZoE H') fs us/\fs.map (·.1)=recs.take i/\(∀f∈fs,Zla s f)/\Zr8 H' S Fd s.ws i/\Zy H H') ?_ ?_ ?_ ?_⟩
  ·exact⟨none,none,none,[],[],rfl,by rw[Zm nFS];exact Zc,.nil,rfl,(fun f hf=>nomatch hf),⟨[],Zc,Nat.le_refl _,fun d v z=>nomatch z⟩,sF.trans sS⟩
  ·rintro i σ H1 _ ⟨v4,v5,v6,us,fs,rfl,_,_,_,_,_,s1⟩;exact SqL.of (s1 _ _ hl)
  ·rintro i x σ H1 hx ⟨v4,v5,v6,us,fs,rfl,hF1,pf,ef,wf,⟨ks,hS1,lks,st⟩,s1⟩;have hi:i<recs.length:=by
    have:=(List.getElem?_eq_some_iff.mp hx).1
    rwa [List.length_map] at this
   obtain⟨rc,rfl,erc⟩:∃rc,x=V.str rc/\recs[i]? =some rc:=by
    rw[List.getElem?_map] at hx
    cases e:recs[i]? with
    |none=>rw[e] at hx;cases hx
    |some y=>rw[e] at hx;exact⟨y,(Option.some.inj hx).symm,rfl⟩
   obtain⟨⟨g1,n,day⟩,hg,e1⟩:=List.mem_map.mp (sub rc (List.mem_of_getElem? erc));have e1:g1=rc:=e1;subst e1;obtain⟨pg,vg,hpg⟩:=Znc (Ja (fun b xs e=>s1 _ _ e) pk) ok.one _ hg;have hk1:=s1 _ _ hk;have ha1:=s1 _ _ ha;have lfs:us.length<=900:=by
    have h1:=Paired.length pf;have h2:=congrArg List.length ef;rw[List.length_map,List.length_take] at h2
    omega
   refine⟨_,rfl,a,_,dx,_,_,rfl,ha1,T.cl_House,T.n_House_taken,Zgf ..,_,rfl,k,_,rfl,.inl ⟨kvs,Sum.inr g1,.inl hk1,rfl,vg.symm⟩,pg,_,_,_,rfl,rfl,SqT.of hpg,rfl, ?_⟩;refine(fun(rest:∀(σ':L2.St) (H2:Hp),σ'=[some (.ref a),some (.ref l),some (.ref Fd),some (.ref S),some (.str g1),some (.int day),v6]->H2 Fd=some (.lst us)->Paired (ZoE H2) fs us->(∃ks:List (Key×V),H2 S=some (.dK ks)/\ks.length<=i+1/\(∀day v,YM ks (Sum.inl day)=some v->∃l,v=.ref l/\l≠Fd/\Ys H2 l (Jb s.ws day))/\YM ks (Sum.inl day)≠none)->Zy H H2->(_:L2.St->Hp->Prop) σ' H2)=>
    ⟨_,rfl,_,rfl,S,_,rfl,.inl ⟨ks,Sum.inl day,.inl hS1,rfl,rfl⟩,_,rfl,Yp (fun e=> ?yes) (fun e=>rest _ H1 rfl hF1 pf ⟨ks,hS1,by omega,st,fun z=>e (by rw[z];rfl)⟩ s1)⟩) ?rest
   case yes=>
    have lh:(s.ws.filter Za1).length<=s.ws.length:=List.length_filter_le _ _;refine⟨_,rfl,a,_,dx,_,_,rfl,ha1,T.cl_House,T.n_House_holdings,Zcv ..,_,rfl,h,s.ws.filter Za1,day,rfl,Yd s1 hh,by omega,fun C H2 hC s2 rc=> ?_⟩;have lu:(ZL (s.ws.filter Za1) day).length<=(s.ws.filter Za1).length:=List.length_filter_le _ _;refine⟨C,_,rfl,rc,by omega,fun L H3 hL s3 rl=> ?_⟩;have s23:=s2.trans s3;have hS3:=s23 _ _ hS1
    have hF3:=s23 _ _ hF1;have nLF:L≠Fd:=fun z=>by rw[z,s2 _ _ hF1] at hL;cases hL
    have kp:∀c u,c≠S->H3 c=some u->upd H3 S (.dK (Jw ks (Sum.inl day) (.ref L))) c=some u:=fun c u n e=>by rw[Zm n];exact e
    have kt:∀c xs,H3 c=some (.tup xs)->upd H3 S (.dK (Jw ks (Sum.inl day) (.ref L))) c=some (.tup xs):=fun c xs e=>kp c _ (Yj e hS3 (fun z=>nomatch z)) e;have krw:∀{p:Addr} {us:List Rw},Ys H3 p us->Ys (upd H3 S (.dK (Jw ks (Sum.inl day) (.ref L)))) p us:=fun{p us} ⟨ds,e,pp⟩=>⟨ds,kp _ _ (Yj e hS3 (fun z=>nomatch z)) e,Xj kt pp⟩
    refine⟨_,rfl,_,rfl,S,_,rfl,Zgz.k (k:=Sum.inl day) hS3 (by omega),rest _ _ rfl (kp _ _ nFS hF3) (Zlb (fun b xs e=>kt _ _ (s23 _ _ e)) pf) ⟨Jw ks (Sum.inl day) (.ref L),Zc,Nat.le_trans (Zqc ks _ _) (by omega),fun d v ev=> ?_, ?_⟩ fun c u e=>kp c u (Zf e nS) (s23 _ _ (s1 _ _ e))⟩
    ·rw[ZfS] at ev
     by_cases z:(Sum.inl d:Key)=Sum.inl day
     ·rw[if_pos z] at ev
      obtain rfl:=Option.some.inj ev;obtain rfl:d=day:=by injection z
      exact⟨L,rfl,nLF,krw rl⟩
     ·rw[if_neg z] at ev
      obtain⟨l',e,nl,at_⟩:=st d v ev;exact⟨l',e,nl,krw (Yd s23 at_)⟩
    ·rw[ZfS,if_pos rfl];exact fun z=>nomatch z
   case rest=>
    rintro σ' H2 rfl hF2 pf2 ⟨ks2,hS2,lk2,st2,has⟩ s2;obtain⟨v,ev⟩:=Option.ne_none_iff_exists'.mp has;obtain⟨ly,rfl,nly,at_⟩:=st2 day v ev;obtain⟨ys,hy,py⟩:=at_;have m:g1∈os.map (·.1):=(oa.mem g1).mpr (ok.own _ hg);obtain⟨⟨xo,xl⟩,hxo,e2⟩:=List.mem_map.mp m;have e2:xo=g1:=e2;subst e2;obtain⟨zs,hz,pz⟩:=Yd s2 (oa.at_ _ hxo);have vo:=ZgT oa.one _ hxo;have lz:zs.length=(YW s.ws xo).length:=Paired.length pz
    have lz2:(YW s.ws xo).length<=s.ws.length:=List.length_filter_le _ _;have ly1:=Paired.length py;have rof:=Zj0 (r:=xo) (day:=day) ok.rows (by omega);have lyr:=rof.len;have elen:(XJ s.ws xo day).length=(YW s.ws xo).length+(Jb s.ws day).length:=List.length_append;have ha2:=s2 _ _ ha;refine⟨_,rfl,a,_,dx,_,_,rfl,ha2,T.cl_House,T.n_House_own,ZiX ..,_,rfl,o,_,rfl,.inl ⟨okv os,Sum.inr xo,.inl (s2 _ _ ho),rfl,vo.symm⟩,_,rfl,_,rfl,S,_,rfl,.inl ⟨ks2,Sum.inl day,.inl hS2,rfl,ev.symm⟩,xl,ly,_,_,rfl,rfl,SqL.of hz,SqL.of hy,by rw[List.length_map,List.length_map];omega,fun R hR=> ?_⟩
    have s3:=Zk hR (o:=.lst (zs.map V.ref++ys.map V.ref));have hR3:Ys (upd H2 R (.lst (zs.map V.ref++ys.map V.ref))) R (XJ s.ws xo day):=⟨zs++ys,by rw[Zc,List.map_append],Zex (ZR s3 pz) (ZR s3 py)⟩
    have hF3:=s3 _ _ hF2;generalize upd H2 R (.lst (zs.map V.ref++ys.map V.ref))=H3 at s3 hR3 hF3
    have s23:=s2.trans s3;refine⟨_,rfl,.inl ⟨rfl,_,SqL.of hF3⟩,_,rfl,_,rfl,a,_,dx,_,_,rfl,s23 _ _ ha,T.cl_House,T.n_House_book,Zge ..,_,rfl,_,rfl,_,rfl,b,R,s.rs,XJ s.ws xo day,xo,day,rfl,ZbL s23 hb,ok.bk,ok.lr,hR3,rof,fun ja j H4 hja0 s4 ⟨Lh,hja,_⟩ _ is=>⟨ja,_,_,_,rfl,rfl,SqT.of hja,rfl,show 2<=sizeLine from sl,fun tt htt=> ?_⟩⟩;have hF4:=s4 _ _ hF3;have s5:=Zk htt (o:=.tup [.str xo,.str j.word]);refine⟨Fd,_,V.ref tt,rfl,rfl,s5 _ _ hF4,by omega, ?_⟩
    have nF:Fd≠tt:=Zf hF4 htt;have kp:∀c u,c≠Fd->H4 c=some u->upd (upd H4 tt (.tup [.str xo,.str j.word])) Fd (.lst (us++[.ref tt])) c=some u:=fun c u n e=>by rw[Zm n,Zm (Zf e htt)];exact e
    have kt:∀c xs,H4 c=some (.tup xs)->upd (upd H4 tt (.tup [.str xo,.str j.word])) Fd (.lst (us++[.ref tt])) c=some (.tup xs):=fun c xs e=>kp c _ (Yj e hF4 (fun z=>nomatch z)) e;have s34:=s3.trans s4;refine⟨_,_,_,us++[.ref tt],fs++[(xo,j.word)],rfl,Zc,Paired.snoc (Zlb (fun b xs e=>kt _ _ (s34 _ _ e)) pf2) ⟨tt,rfl,by rw[Zm (Ne.symm nF),Zc]⟩,by rw[List.map_append,ef,List.take_add_one,erc];rfl,fun f hf=> ?_,⟨ks2,kp _ _ (Ne.symm nFS) (s34 _ _ hS2),lk2,fun d v ev2=> ?_⟩,fun c u e=>kp c u (Zf e hFd) (s34 _ _ (s2 _ _ e))⟩
    ·rcases List.mem_append.mp hf with old|new
     ·exact wf f old
     ·rw[List.mem_singleton.mp new];exact⟨n,day,hg,(Zkl is).word⟩
    ·obtain⟨l',e,nl,ds,hd',pd⟩:=st2 d v ev2;exact⟨l',e,nl,ds,kp _ _ nl (s34 _ _ hd'),Xj (fun c xs e=>kt _ _ (s34 _ _ e)) pd⟩
  ·rintro σ H1 ⟨v4,v5,v6,us,fs,rfl,hF1,pf,ef,wf,_,s1⟩;rw[List.length_map,List.take_length] at ef
   exact⟨_,rfl,q Fd us fs H1 hFd s1 hF1 pf ef wf⟩
theorem Zmh{o:Option Int}{m n:Nat}{x:Int}:(JD o m x≠"due"->m<=n->JD o n x=JD o m x)/\(JD o m x≠"held"->n<=m->JD o n x=JD o m x):=by
 cases o with
 |none=>exact⟨fun _ _=>rfl,fun _ _=>rfl⟩
 |some D=>
  show((if x<D then Str.ofString "kept" else if 0<m then Str.ofString "held" else Str.ofString "due")≠Str.ofString "due"->m<=n->(if x<D then Str.ofString "kept" else if 0<n then Str.ofString "held" else Str.ofString "due")=(if x<D then Str.ofString "kept" else if 0<m then Str.ofString "held" else Str.ofString "due"))/\((if x<D then Str.ofString "kept" else if 0<m then Str.ofString "held" else Str.ofString "due")≠Str.ofString "held"->n<=m->(if x<D then Str.ofString "kept" else if 0<n then Str.ofString "held" else Str.ofString "due")=(if x<D then Str.ofString "kept" else if 0<m then Str.ofString "held" else Str.ofString "due"))
  by_cases h:x<D
  ·simp only [if_pos h];exact⟨fun _ _=>trivial,fun _ _=>trivial⟩
  ·simp only [if_neg h]
   constructor
   ·intro a b
    by_cases g:0<m
    ·rw[if_pos g,if_pos (by omega)]
    ·rw[if_neg g] at a
     exact absurd rfl a
   ·intro a b
    by_cases g:0<m
    ·rw[if_pos g] at a
     exact absurd rfl a
    ·rw[if_neg g,if_neg (by omega)]
theorem ZoG{rs:List Sr}{ws:List Rw}{w:Rw}{r:Str}{day:Int}{z:Str}(no:Zbd r w=false)(h:ZgW rs ws r day z)
  (f:∀(o:Option Int) (line:List Str),z=JD o (Yw (ZL ws day) r line).length day->JD o (Yw (ZL (ws++[w]) day) r line).length day=z):ZgW rs (ws++[w]) r day z:=by
 have e:ZL (YW (ws++[w]) r) day=ZL (YW ws r) day:=by rw[Zcf,no,if_neg Bool.false_ne_true,List.append_nil]
 obtain⟨a1,a2,a3⟩:=Zi3 (ws:=ws) (r:=r) (x:=day) (s:=day) rfl;obtain⟨b1,b2,b3⟩:=Zi3 (ws:=ws++[w]) (r:=r) (x:=day) (s:=day) rfl;rw[e] at b1 b2 b3
 rw[<-a1] at b1
 rw[<-a2] at b2
 rw[<-a3] at b3
 refine⟨fun y=>h.no (b1.symm.trans y),fun y=> ?_⟩;obtain⟨y0,r0,t,top,ow,ht,ez⟩:=h.yes (b1.symm.trans y);refine⟨y0,r0,t,by rw[b2];exact top,ow,ht, ?_⟩
 rw[b3];exact(f _ _ ez).symm
theorem Zr9(ws:List Rw)(w:Rw)(day:Int):ZL (ws++[w]) day=if w.day<=day then ZL ws day++[w] else ZL ws day:=by
 unfold ZL;rw[List.filter_append]
 by_cases h:w.day<=day
 ·simp[h]
 ·simp[h]
theorem ZoH{us:List Rw}{w:Rw}{r:Str}{line:List Str}:(Za1 w=false->Yw (us++[w]) r line=Yw us r line)/\(Zad w=none->(Yw us r line).length<=(Yw (us++[w]) r line).length)/\(JH w=false->(Yw (us++[w]) r line).length<=(Yw us r line).length):=by
 have lf:Xi (us++[w])=Xi us++(match Zad w with|some h=>[h]|none=>[]):=Zhn;refine⟨fun h=> ?_,fun h=> ?_,fun h=> ?_⟩
 ·have l0:Zad w=none:=by cases w<;>first|rfl|cases h
  have s0:∀ls,Jp ls w=false:=fun ls=>by cases w<;>first|rfl|cases h
  unfold Yw Yy;rw[lf,l0,List.append_nil,List.filter_append,List.filter_cons_of_neg (by rw[s0];exact Bool.false_ne_true),List.filter_nil,List.append_nil]
 ·unfold Yw Yy;rw[lf,h,List.append_nil,List.filter_append,List.filter_append,List.map_append,List.length_append];exact Nat.le_add_right _ _
 ·have s0:∀ls,Jp ls w=false:=fun ls=>by cases w<;>first|rfl|cases h
  unfold Yw Yy;rw[List.length_map,List.length_map,List.filter_append,List.filter_cons_of_neg (by rw[s0];exact Bool.false_ne_true),List.filter_nil,List.append_nil,lf,List.filter_filter,List.filter_filter,<-List.countP_eq_length_filter,<-List.countP_eq_length_filter]
  refine List.countP_mono_left fun x _ hx=> ?_;obtain⟨h1,h2⟩:=Bool.and_eq_true_iff.mp hx;refine Bool.and_eq_true_iff.mpr ⟨h1, ?_⟩;obtain⟨a,b,c,d,rfl⟩:=Zcc h2;have h2:a∉Xi us++_:=of_decide_eq_true h2;exact decide_eq_true fun y=>h2 (List.mem_append_left _ y)
theorem Znd{rs:List Sr}{ws:List Rw}{w:Rw}{r:Str}{day:Int}{z:Str}(no:Zbd r w=false)(h1:JH w=true->z≠"due")(h2:(Zad w).isSome=true->z≠"held")(h:ZgW rs ws r day z):ZgW rs (ws++[w]) r day z:=by
 refine ZoG no h fun o line ez=> ?_;rw[Zr9]
 by_cases le:w.day<=day
 ·rw[if_pos le];obtain⟨a1,a2,a3⟩:=ZoH (us:=ZL ws day) (w:=w) (r:=r) (line:=line);cases w with
  |hold a b c d=>rw[(Zmh (n:=_)).1 (by rw[<-ez];exact h1 rfl) (a2 rfl),ez]
  |lift a d=>rw[(Zmh (n:=_)).2 (by rw[<-ez];exact h2 rfl) (a3 rfl),ez]
  |put a b c=>rw[a1 rfl,ez]
  |move a b c=>rw[a1 rfl,ez]
  |deed a b c=>rw[a1 rfl,ez]
 ·rw[if_neg le,ez]
theorem Zbg{b t o h r k w:Addr}{m:Str}(c:¬m="words"/\¬m="taken"/\¬m="run_days"/\¬m="holdings"/\¬m="own"/\¬m="told"/\¬m="book"):(fH b t o h r k w).lookup m=none:=by
 unfold fH;rw[Zv,if_neg c.1,Zv,if_neg c.2.1,Zv,if_neg c.2.2.1,Zv,if_neg c.2.2.2.1,Zv,if_neg c.2.2.2.2.1,Zv,if_neg c.2.2.2.2.2.1,Zv,if_neg c.2.2.2.2.2.2]
 rfl
theorem ZV.kinds{cn ca cl ce C a:Addr}{H:Hp}{s:Hs}{F:List Addr}:ZV cn ca cl ce C H a s F->Zkh H F
 |⟨dx,b,t,o,h,r,k,w,os,kvs,ha,hb,ht,ho,oa,hh,hr,hk,pk,hw,e,_,_⟩=>by
  subst e;exact Zho ht ho (fun x hx=>⟨_,oa.at_ x hx⟩) hh hr hk hw
theorem ZV.same{cn ca cl ce C a:Addr}{H H':Hp}{s:Hs}{F:List Addr}(sm:Zy H H'):ZV cn ca cl ce C H a s F->ZV cn ca cl ce C H' a s F
 |⟨dx,b,t,o,h,r,k,w,os,kvs,ha,hb,ht,ho,oa,hh,hr,hk,pk,hw,e,nd,nb⟩=>
  ⟨dx,b,t,o,h,r,k,w,os,kvs,sm _ _ ha,ZbL sm hb,Yd sm ht,sm _ _ ho,⟨oa.one,oa.mem,fun x hx=>Yd sm (oa.at_ x hx)⟩,Yd sm hh,sm _ _ hr,sm _ _ hk,Ja (fun b xs e=>sm _ _ e) pk,sm _ _ hw,e,nd,nb⟩
theorem ZV.ins{cn ca cl ce C a:Addr}{H:Hp}{s:Hs}{F:List Addr}:ZV cn ca cl ce C H a s F->∃dx b t o h r k w,H a=some (.ins C dx (fH b t o h r k w))/\H w=some (.dK (wkv s.wd))/\w∈F
 |⟨dx,b,t,o,h,r,k,w,os,kvs,ha,hb,ht,ho,oa,hh,hr,hk,pk,hw,e,nd,nb⟩=>⟨dx,b,t,o,h,r,k,w,ha,hw,by rw[e];simp⟩
structure ZnQ (s:Hs):Prop where
 keys:s.wd.map (·.1)=s.gs.map (·.1)
 ok:∀f∈s.wd,Zla s f
def ZjI(wd:List (Str×Str))(f:Str×Str):List (Str×Str):=wd.map fun x=>if x.1=f.1 then(x.1,f.2) else x
theorem ZoI(wd:List (Str×Str))(f:Str×Str):(ZjI wd f).map (·.1)=wd.map (·.1):=by
 unfold ZjI;rw[List.map_map];refine List.map_congr_left fun x _=> ?_;show(if x.1=f.1 then(x.1,f.2) else x).1=x.1
 split<;>rfl
theorem Zqd{wd:List (Str×Str)}{f:Str×Str}(m:f.1∈wd.map (·.1)):Jw (wkv wd) (Sum.inr f.1) (.str f.2)=wkv (ZjI wd f):=by
 unfold Jw;rw[Zar,Zf3,if_pos (decide_eq_true m)];unfold wkv ZjI;rw[List.map_map,List.map_map];refine List.map_congr_left fun x _=> ?_;show(if(Sum.inr x.1:Key)=Sum.inr f.1 then((Sum.inr x.1:Key),V.str f.2) else(Sum.inr x.1,V.str x.2))=(Sum.inr (if x.1=f.1 then(x.1,f.2) else x).1,V.str (if x.1=f.1 then(x.1,f.2) else x).2)
 by_cases e:x.1=f.1
 ·rw[if_pos (by rw[e]),if_pos e]
 ·rw[if_neg (by exact fun z=>e (by injection z)),if_neg e]
theorem ZnR:∀{wd:List (Str×Str)},(wd.map (·.1)).Nodup->∀x∈wd,YM (wkv wd) (Sum.inr x.1)=some (.str x.2)
 |[],_,x,h=>nomatch h
 |y::wd,nd,x,h=>by
  rw[List.map_cons] at nd
  obtain⟨off,rest⟩:=List.nodup_cons.mp nd;cases h with
  |head=>exact YF rfl
  |tail _ m=>
   have ne:¬(Sum.inr y.1:Key)=Sum.inr x.1:=fun z=>off (List.mem_map.mpr ⟨x,m,by injection z with z;exact z.symm⟩)
   exact(Yx (p:=(Sum.inr y.1,V.str y.2)) ne).trans (ZnR rest x m)
def Zae(wd fs:List (Str×Str)):List (Str×Str):=fs.foldl ZjI wd
theorem Zal:∀(fs wd:List (Str×Str)),(Zae wd fs).map (·.1)=wd.map (·.1)
 |[],_=>rfl
 |f::fs,wd=>(Zal fs (ZjI wd f)).trans (ZoI wd f)
theorem Zqe{wd:List (Str×Str)}{f x:Str×Str}(h:x∈ZjI wd f):(x.1=f.1/\x.2=f.2)\/(x∈wd/\¬x.1=f.1):=by
 obtain⟨y,hy,e⟩:=List.mem_map.mp h
 by_cases z:y.1=f.1
 ·rw[if_pos z] at e
  exact .inl ⟨by rw[<-e];exact z,by rw[<-e]⟩
 ·rw[if_neg z] at e
  exact .inr ⟨e▸hy,e▸z⟩
theorem Zj2:∀{fs wd:List (Str×Str)} {x:Str×Str},x∈Zae wd fs->x∈fs\/(x∈wd/\x.1∉fs.map (·.1))
 |[],wd,x,h=> .inr ⟨h,fun z=>nomatch z⟩
 |f::fs,wd,x,h=>by
  rcases Zj2 (fs:=fs) (wd:=ZjI wd f) h with a|⟨a,b⟩
  ·exact .inl (List.mem_cons_of_mem _ a)
  ·rcases Zqe a with ⟨c,d⟩|⟨c,d⟩
   ·exact .inl (by rw[show x=f from Prod.ext c d];exact List.mem_cons_self ..)
   ·exact .inr ⟨c,fun z=>by
     rw[List.map_cons] at z
     exact(List.mem_cons.mp z).elim d b⟩
def Zaa(wd:List (Str×Str))(f:Str×Str):Bool:=decide ((f.1,Str.ofString "due")∈wd)&& !decide (f.2=Str.ofString "due")
def JF(wd fs:List (Str×Str)):List Str:=(fs.filter (Zaa wd)).map (·.1)
def Zi4(cn ca cl ce:Addr)(n:Nat)(C:Addr):Sp:=fun vs H Q _=>∃(a d:Addr) (w:Rw) (s:Hs) (F:List Addr),vs=[.ref a,.ref d]/\0<n/\ZV cn ca cl ce C H a s F/\Zd5 H d w/\Zqa s w/\s.rs.length<=63/\ZoF {s with ws:=s.ws++[w]}/\ZnQ s/\s.gs.length<64/\
 ∀L zs wd H' F',ZiN F H H'->(∀b∈F',b∈F\/H b=none)->(∀b∈F,b∈F')->ZV cn ca cl ce C H' a {s with ws:=s.ws++[w],wd:=wd} F'->ZnQ {s with ws:=s.ws++[w],wd:=wd}->H L=none->L∉F'->H' L=some (.lst (zs.map V.str))->sortedS zs=true->(∃fs,(fs.map (·.1)).Nodup/\(∀f∈fs,f.1∈s.wd.map (·.1))/\zs.Perm (JF s.wd fs)/\wd=Zae s.wd fs)->Q (.ref L) H'
theorem ZoJ{cn ca cl ce C:Addr}:∀vs H Q E,¬Zi4 cn ca cl ce 0 C vs H Q E:=fun _ _ _ _ ⟨_,_,_,_,_,_,z,_⟩=>Nat.lt_irrefl 0 z
theorem Zez{s:Hs}{w:Rw}:∀r∈Zcy s w,r∈s.wd.map (·.1):=by
 have go:∀z,∀r∈ZbM z s.wd,r∈s.wd.map (·.1):=fun z r hr=>by
  obtain⟨x,hx,e⟩:=List.mem_map.mp hr;exact List.mem_map.mpr ⟨x,(List.mem_filter.mp hx).1,e⟩
 have one:∀x,∀r∈(if x∈s.wd.map (·.1) then[x] else[]),r∈s.wd.map (·.1):=fun x r hr=>by
  by_cases m:x∈s.wd.map (·.1)
  ·rw[if_pos m] at hr
   rw[List.mem_singleton.mp hr];exact m
  ·rw[if_neg m] at hr
   cases hr
 cases w with
 |hold a b c d=>exact go "due"
 |lift a d=>exact go "held"
 |put x b c=>exact one x
 |move x b c=>exact one x
 |deed x b c=>exact one x
theorem ZjJ{s:Hs}{w:Rw}(nd:(s.wd.map (·.1)).Nodup):(Zcy s w).Nodup:=by
 have go:∀z,(ZbM z s.wd).Nodup:=fun z=>List.Nodup.sublist (List.Sublist.map _ List.filter_sublist) nd;have one:∀x,(if x∈s.wd.map (·.1) then[x] else[]:List Str).Nodup:=fun x=>by split<;>simp
 cases w with
 |hold a b c d=>exact go "due"
 |lift a d=>exact go "held"
 |put x b c=>exact one x
 |move x b c=>exact one x
 |deed x b c=>exact one x
theorem ZoK{s:Hs}{w:Rw}{f:Str×Str}(h:f∈s.wd)(no:f.1∉Zcy s w):Zbd f.1 w=false/\(JH w=true->f.2≠"due")/\((Zad w).isSome=true->f.2≠"held"):=by
 have k:f.1∈s.wd.map (·.1):=List.mem_map_of_mem h;have one:∀x,f.1∉(if x∈s.wd.map (·.1) then[x] else[]:List Str)->decide (x=f.1)=false:=fun x n=>decide_eq_false fun z=>n (by rw[z,if_pos k];exact List.mem_singleton_self _)
 have are:∀z:Str,f.1∉ZbM z s.wd->f.2≠z:=fun z n e=>n (List.mem_map.mpr ⟨f,List.mem_filter.mpr ⟨h,decide_eq_true e⟩,rfl⟩);cases w with
 |hold a b c d=>exact⟨rfl,fun _=>are _ no,(fun z=>nomatch z)⟩
 |lift a d=>exact⟨rfl,(fun z=>nomatch z),fun _=>are _ no⟩
 |put x b c=>exact⟨one x no,(fun z=>nomatch z),(fun z=>nomatch z)⟩
 |move x b c=>exact⟨one x no,(fun z=>nomatch z),(fun z=>nomatch z)⟩
 |deed x b c=>exact⟨one x no,(fun z=>nomatch z),(fun z=>nomatch z)⟩
theorem Zne{s:Hs}{w:Rw}{fs:List (Str×Str)}(wo:ZnQ s)(ef:fs.map (·.1)=Zcy s w)(wf:∀f∈fs,Zla {s with ws:=s.ws++[w]} f):ZnQ {s with ws:=s.ws++[w],wd:=Zae s.wd fs}:=by
 refine⟨(Zal fs s.wd).trans wo.keys,fun f hf=> ?_⟩;rcases Zj2 hf with a|⟨a,b⟩
 ·exact wf f a
 ·rw[ef] at b
  obtain⟨n,day,hg,wi⟩:=wo.ok f a;obtain⟨c1,c2,c3⟩:=ZoK a b;exact⟨n,day,hg,Znd c1 c2 c3 wi⟩
theorem ZoL{wd:List (Str×Str)}{f x:Str×Str}(h:x∈wd)(n:¬x.1=f.1):x∈ZjI wd f:=List.mem_map.mpr ⟨x,h,if_neg n⟩
theorem Zhp:∀{fs wd:List (Str×Str)} {x:Str×Str},x∈wd->x.1∉fs.map (·.1)->x∈Zae wd fs
 |[],_,_,h,_=>h
 |f::fs,wd,x,h,n=>by
  rw[List.map_cons,List.mem_cons,not_or] at n
  exact Zhp (fs:=fs) (ZoL h n.1) n.2
theorem Zmi(wd fs:List (Str×Str))(f:Str×Str):Zae wd (fs++[f])=ZjI (Zae wd fs) f:=by
 unfold Zae;rw[List.foldl_append]
 rfl
theorem Znf(wd fs:List (Str×Str))(f:Str×Str):JF wd (fs++[f])=JF wd fs++(if Zaa wd f=true then[f.1] else[]):=by
 unfold JF;rw[List.filter_append,List.map_append]
 congr 1
 by_cases h:Zaa wd f=true
 ·rw[if_pos h,List.filter_cons_of_pos h]
  rfl
 ·rw[if_neg h,List.filter_cons_of_neg h]
  rfl
theorem Zrz{H:Hp}:∀{fs:List (Str×Str)} {us:List V},Paired (ZoE H) fs us->∀(i:Nat) (u:V),us[i]? =some u->∃f p,fs[i]? =some f/\u=.ref p/\H p=some (.tup [.str f.1,.str f.2])
 |_,_,.nil,i,u,h=>by simp at h
 |_,_,.cons (a:=f) (b:=v) ⟨p,e,r⟩ t,0,u,h=>by
  have h:v=u:=by simpa using h
  subst h;exact⟨f,p,rfl,e,r⟩
 |_,_,.cons _ t,i+1,u,h=>by
  obtain⟨f,p,e,z⟩:=Zrz t i u (by simpa using h);exact⟨f,p,by simpa using e,z⟩
theorem Za6:ZG ["self","row","found","fresh","record","word"] ["self","row"] (Zw ZdD):=⟨rfl,rfl,rfl,by decide+kernel,rfl,by decide+kernel,by decide+kernel⟩
theorem ZjK{f:Addr}{fd:FuncData}(F:Fun K "tell" "House.tell" ZdD f fd)(T:Txt K mg Zj Zg Zh Zb Zo)(n:Nat)(ZfD:Zap P w K mg base CX0 13 "keep_row" ["self","row"] (Zcx Zj Zg Zh Zb 12) (fun C=>C=Zo))(ZdR:Zap P w K mg base CX0 14 "refuse_row" ["self","row"] (Zb3 Zj Zg Zh Zb 12) (fun C=>C=Zo))(ZdS:Zap P w K mg base CX0 13 "touched_by" ["self","row"] (Zb4 Zj Zg Zh Zb 12) (fun C=>C=Zo))(ZeA:Zap P w K mg base CX0 27 "words_now" ["self","records"] (ZbN Zj Zg Zh Zb 12) (fun C=>C=Zo)):Yn P w K mg base CX0 (27+n+1+1) f fd ["self","row"] (Zi4 Zj Zg Zh Zb (n+1) Zo):=by
 refine F.ok Za6 (fun vs H Q E h=> ?_) (fun cdv A outer s H vs Q E hr h=> ?_)
 ·obtain⟨a,d,w,s,F,rfl,_⟩:=h
  rfl
 ·obtain⟨a,d,w,s,F,rfl,_,hA,hd,tk,lrs,ok,wo,lg,q⟩:=h;have l5:=YZ;have hu:=ZaJ hr;have few:(s.ws++[w]).length<=400:=ok.few;rw[List.length_append,List.length_singleton] at few
  have kw:s.wd.length=s.gs.length:=by
   have:=congrArg List.length wo.keys
   rwa [List.length_map,List.length_map] at this
  have ndw:(s.wd.map (·.1)).Nodup:=by rw[wo.keys];exact ok.one
  have hd:H d=some (.tup w.vs):=hd;refine⟨_,(Ze (YB (Zau (pv 0) ZdR (hr.mono (by omega)) ZJ (Za (pv 1) Zi))) (Ze (YB (Zau (pv 0) ZfD (hr.mono (by omega)) ZJ (Za (JT Zjt (by rfl) T.z_tuple Zit (Za (pv 1) Zi)) Zi))) (Ze (Zz (i:=2) Za6.nd rfl (Or.inl rfl) (Zau (pv 0) ZeA (hr.mono (by omega)) ZJ (Za (Zau (pv 0) ZdS (hr.mono (by omega)) ZJ (Za (pv 1) Zi)) Zi))) (Ze (Zz (i:=3) Za6.nd rfl (Or.inl rfl) (ZX Zi)) (Ze (Xw PassesOwn.never rfl (Yg (pv 2)) (Zic rfl (YC (ZK (i:=4) Za6.nd rfl (Or.inl rfl)) (YC (ZK (i:=5) Za6.nd rfl (Or.inl rfl)) Zdp))) (Ze (ZS (PW.pt (Xb (Zq ZZ (Za9 hu (Yi (pv 0) rfl) (pv 4) (fun _ _=>rfl)) ZD (Zt _)) (YT (Zq Znx (pv 5) ZD (Zt _))))) (Zn (YB (JG PySem.F.plainAttrs_list PySem.F.slot_list_append PySem.F.type_list_append Yk (pv 3) (Za (pv 4) Zi)))) ZF) (Zn (ZbG hu (Yi (pv 0) rfl) (pv 4) (pv 5) rfl)))) (Zn (Zx (ZM JV (by rfl) T.z_sorted Zai (Za (pv 3) Zi))))))))), ?_⟩
  obtain⟨dx,b,t,o,h,r,k,wa,ha,_⟩:=hA.ins;refine⟨_,rfl,a,_,dx,_,rfl,ha,rfl,Zbg (by decide+kernel),_,rfl,a,d,w,s,F,rfl,by decide,hA,hd,by omega,lrs,tk,fun H1 s1=> ?_⟩;have hA1:=hA.same s1;have hd1:=s1 _ _ hd;refine⟨_,rfl,a,_,dx,_,rfl,s1 _ _ ha,rfl,Zbg (by decide+kernel),_,rfl,d,_,rfl,.inr ⟨SqT.of hd1,a,d,w,s,F,rfl,by decide,hA1,hd1,by omega,fun H2 F2 kp2 sub2 sup2 hA2=> ?_⟩⟩;have hd2:=hA1.kinds.tup kp2 _ _ hd1
  obtain⟨dx2,b2,t2,o2,h2,r2,k2,wa2,os2,kvs2,ha2,hb2,ht2,ho2,oa2,hh2,hr2,hk2,pk2,hw2,eF2,nd2,nb2⟩:=id hA2;have tsub:∀r∈Zcy {s with ws:=s.ws++[w]} w,r∈s.gs.map (·.1):=fun r hr=>by
   rw[<-wo.keys];exact Zez (s:={s with ws:=s.ws++[w]}) r hr
  have tnd:=ZjJ (s:={s with ws:=s.ws++[w]}) (w:=w) ndw;have tlen:(Zcy {s with ws:=s.ws++[w]} w).length<=s.gs.length:=by
   have:=tnd.length_le_of_subset tsub
   rwa [List.length_map] at this
  refine⟨_,rfl,a,_,dx2,_,rfl,ha2,rfl,Zbg (by decide+kernel),_,rfl,a,_,dx2,_,rfl,ha2,rfl,Zbg (by decide+kernel),_,rfl,a,d,w,{s with ws:=s.ws++[w]},F2,rfl,by decide,hA2,hd2,by show s.wd.length<=900;omega,fun L3 H3 hL3 s3 hl3=> ?_⟩
  have hA3:=hA2.same s3;refine⟨a,L3,_,{s with ws:=s.ws++[w]},F2,rfl,by decide,hA3,ok,hl3,by omega,tsub,fun L4 us fs H4 hL4 s4 hl4 pf ef wf=> ?_⟩;have s24:=s3.trans s4;have lfs:fs.length<64:=by
   have:=congrArg List.length ef;rw[List.length_map] at this
   omega
  have lus:=Paired.length pf;refine⟨Nat.zero_le _,fun Fr hFr=> ?_⟩;have sFr:=Zk hFr (o:=.lst []);have hw4:=s24 _ _ hw2;have nWF:wa2≠Fr:=Zf hw4 hFr;have nfs:(fs.map (·.1)).Nodup:=by rw[ef];exact tnd
  refine⟨_,rfl,L4,rfl,⟨_,SqL.of (sFr _ _ hl4)⟩,YQ (xs:=us) (fun i σ H'=>∃v4 v5:Option V,σ=[some (.ref a),some (.ref d),some (.ref L4),some (.ref Fr),v4,v5]/\H' Fr=some (.lst ((JF s.wd (fs.take i)).map V.str))/\H' wa2=some (.dK (wkv (Zae s.wd (fs.take i))))/\∀c u,c≠Fr->c≠wa2->H4 c=some u->H' c=some u) ?_ ?_ ?_ ?_⟩
  ·exact⟨none,none,rfl,Zc,by rw[Zm nWF];exact hw4,fun c u n1 n2 e=>by rw[Zm n1];exact e⟩
  ·rintro i σ H5 _ ⟨v4,v5,rfl,_,_,fr⟩;exact SqL.of (fr _ _ (Zf hl4 hFr) (Yj hl4 hw4 (fun z=>nomatch z)) hl4)
  ·rintro i x σ H5 hx ⟨v4,v5,rfl,hf5,hw5,fr⟩;obtain⟨f,p,ei,rfl,row4⟩:=Zrz pf i x hx;have row:H5 p=some (.tup [.str f.1,.str f.2]):=fr _ _ (Zf row4 hFr) (Yj row4 hw4 (fun z=>nomatch z)) row4;have ha5:=fr _ _ (Zf (s24 _ _ ha2) hFr) (Yj (s24 _ _ ha2) hw4 (fun z=>nomatch z)) (s24 _ _ ha2);have tkf:fs.take (i+1)=fs.take i++[f]:=by rw[List.take_add_one,ei];rfl
   have fin:f.1∈s.wd.map (·.1):=Zez (s:={s with ws:=s.ws++[w]}) (w:=w) f.1 (by rw[<-ef];exact List.mem_map_of_mem (List.mem_of_getElem? ei))
   obtain⟨x0,hx0,ex0⟩:=List.mem_map.mp fin;have nin:x0.1∉(fs.take i).map (·.1):=fun z=>by
    rw[ex0] at z
    have hi:i<fs.length:=(List.getElem?_eq_some_iff.mp ei).1;have ei2:fs[i]=f:=(List.getElem?_eq_some_iff.mp ei).2;obtain⟨y,hy,ey⟩:=List.mem_map.mp z;obtain⟨m,hm,em⟩:=List.getElem_of_mem hy;have hm2:m<i:=by rw[List.length_take] at hm;omega
    rw[List.getElem_take] at em
    have:=(List.pairwise_iff_getElem.mp (List.nodup_iff_pairwise_ne.mp nfs)) m i (by rw[List.length_map];omega) (by rw[List.length_map];exact hi) hm2
    rw[List.getElem_map,List.getElem_map,em,ei2] at this
    exact this ey
   have xin:x0∈Zae s.wd (fs.take i):=Zhp hx0 nin;have ndk:((Zae s.wd (fs.take i)).map (·.1)).Nodup:=by rw[Zal];exact ndw
   have val:=ZnR ndk x0 xin;rw[ex0] at val
   have due_in:decide ((f.1,Str.ofString "due")∈s.wd)=decide (x0.2=Str.ofString "due"):=decide_eq_decide.mpr ⟨fun m=>by rw[ZgU ndw hx0 m ex0],fun e=>by rw[<-ex0,<-e];exact hx0⟩
   have lwd:(wkv (Zae s.wd (fs.take i))).length<sizeLine:=by
    have:=congrArg List.length (Zal (fs.take i) s.wd);rw[List.length_map,List.length_map] at this
    unfold wkv;rw[List.length_map];omega
   rw[tkf];simp only [Zmi,Znf];rw[<-Zqd (by rw[Zal];exact fin)]
   have lfr:(JF s.wd (fs.take i)).length<=64:=by
    unfold JF;rw[List.length_map];have h1:=List.length_filter_le (Zaa s.wd) (fs.take i);have h2:=List.length_take_le' i fs;omega
   refine⟨p,_,rfl,SqT.of row,rfl,_,_,rfl,_,_,rfl,rfl, ?_⟩;refine(fun(rest:∀(σ':L2.St) (H6:Hp),σ'=[some (.ref a),some (.ref d),some (.ref L4),some (.ref Fr),some (.str f.1),some (.str f.2)]->H6 Fr=some (.lst ((JF s.wd (fs.take i)++(if Zaa s.wd f=true then[f.1] else[])).map V.str))->(∀c u,c≠Fr->H5 c=some u->H6 c=some u)->(_:L2.St->Hp->Prop) σ' H6)=>
    ⟨_,rfl,a,_,dx2,_,_,rfl,ha5,T.cl_House,T.n_House_words,ZaA ..,_,rfl,wa2,_,rfl,.inl ⟨_,Sum.inr f.1,.inl hw5,rfl,val.symm⟩,rfl,_,rfl,Yp (fun e=> ?yes) (fun e=>ZW (rest _ H5 rfl (by unfold Zaa;rw[due_in,Bool.eq_false_iff.mpr (show¬decide (x0.2=Str.ofString "due")=true from fun y=>e (decide_eq_true (congrArg V.str (of_decide_eq_true y)))),Bool.false_and,if_neg Bool.false_ne_true,List.append_nil];exact hf5) (fun c u _ y=>y)))⟩) ?rest
   case yes=>
    have e:x0.2=Str.ofString "due":=by injection of_decide_eq_true e
    refine⟨_,rfl,rfl,_,rfl,Yp (fun e2=> ?_) (fun e2=>rest _ H5 rfl ?_ (fun c u _ y=>y))⟩
    ·have gd:Zaa s.wd f=true:=by
      unfold Zaa;rw[due_in,decide_eq_true e,Bool.true_and];cases q2:decide (f.2=Str.ofString "due") with
      |false=>rfl
      |true=>
       rw[decide_eq_true (congrArg V.str (of_decide_eq_true q2))] at e2
       cases e2
     refine⟨_,rfl,.inl ⟨rfl,_,SqL.of hf5⟩,_,rfl,Fr,_,V.str f.1,rfl,rfl,hf5,by rw[List.length_map];omega,rest _ _ rfl (by rw[Zc,if_pos gd,List.map_append];rfl) fun c u n y=>by rw[Zm n];exact y⟩
    ·have gd:Zaa s.wd f=false:=by
      unfold Zaa;cases q2:decide (f.2=Str.ofString "due") with
      |true=>exact Bool.and_false _
      |false=>
       refine absurd ?_ e2;rw[decide_eq_false (vne (of_decide_eq_false q2))]
       rfl
     rw[gd,if_neg Bool.false_ne_true,List.append_nil];exact hf5
   case rest=>
    rintro σ' H6 rfl hf6 k6;have hw6:=k6 _ _ nWF hw5;refine⟨_,rfl,_,rfl,a,_,dx2,_,_,rfl,k6 _ _ (Yj ha5 hf5 (fun z=>nomatch z)) ha5,T.cl_House,T.n_House_words,ZaA ..,_,rfl,wa2,_,rfl,Zgz.k (k:=Sum.inr f.1) hw6 lwd,_,_,rfl,by rw[Zm (Ne.symm nWF)];exact hf6,Zc,fun c u n1 n2 y=>by rw[Zm n2];exact k6 _ _ n1 (fr c u n1 n2 y)⟩
  ·rintro σ H5 ⟨v4,v5,rfl,hf5,hw5,fr⟩;rw[<-lus,List.take_length] at hf5 hw5
   have lfr:(JF s.wd fs).length<64:=by
    unfold JF;rw[List.length_map];have h1:=List.length_filter_le (Zaa s.wd) fs;omega
   refine⟨_,rfl,Fr,JF s.wd fs,rfl,SqL.of hf5,lfr,fun zs pz sz D hD=> ?_⟩;have s6:=Zk hD (o:=.lst (zs.map V.str));have fr6:∀c u,c≠Fr->c≠wa2->H4 c=some u->upd H5 D (.lst (zs.map V.str)) c=some u:=fun c u n1 n2 e=>s6 _ _ (fr c u n1 n2 e);have hw6:=s6 _ _ hw5;have d6:upd H5 D (.lst (zs.map V.str)) D=some (.lst (zs.map V.str)):=Zc;have n4:∀{c:Addr},H5 c=none->H4 c=none:=fun{c} z=>by
    cases e:H4 c with
    |none=>rfl
    |some u=>
     by_cases c1:c=Fr
     ·rw[c1,hf5] at z;cases z
     ·by_cases c2:c=wa2
      ·rw[c2,hw5] at z;cases z
      ·rw[fr c u c1 c2 e] at z;cases z
   have nD4:=n4 hD;generalize upd H5 D (.lst (zs.map V.str))=H6 at fr6 hw6 d6
   have hA4:=hA2.same s24;have ki4:=hA4.kinds;have inF:∀{c:Addr},c∈F2->c≠Fr:=fun m z=>by
    rcases ki4 _ m with ⟨_,y⟩|⟨_,y⟩<;>rw[z,hFr] at y<;>cases y
   have kp46:ZiN F2 H4 H6:=fun c u m e=>fr6 c u (Zf e hFr) (fun z=>m (by rw[z,eF2];simp)) e
   have t6:=ki4.tup kp46;have i6:=ki4.ins kp46;have none2:∀{c:Addr},H4 c=none->H1 c=none\/c∈F:=fun{c} z=>by
    have z2:=Xv s24 z;cases e:H1 c with
    |none=>exact .inl rfl
    |some u=>
     by_cases m:c∈F
     ·exact .inr m
     ·rw[kp2 c u m e] at z2;cases z2
   have kinds1:=hA1.kinds;have noneH:∀{c:Addr},H4 c=none->H c=none:=fun{c} z=>by
    rcases none2 z with e|m
    ·exact Xv s1 e
    ·rcases ki4 c (sup2 c m) with ⟨_,y⟩|⟨_,y⟩<;>rw[y] at z<;>cases z
   have k5:∀{c:Addr},c∈F2->c≠wa2->∀u,H4 c=some u->H6 c=some u:=fun m n u e=>fr6 _ _ (inF m) n e;have nd:=nd2;rw[eF2] at nd
   simp only [List.nodup_cons,List.mem_cons,not_or] at nd
   obtain⟨⟨nto,nth,ntr,ntk,ntw,nts⟩,⟨noh,nor,nok,now_,nos⟩,⟨nhr,nhk,nhw,nhs⟩,⟨nrk,nrw,nrs⟩,⟨nkw,nks⟩,nws,ndo⟩:=nd;have mt:t2∈F2:=by rw[eF2];simp
   have mo:o2∈F2:=by rw[eF2];simp
   have mh:h2∈F2:=by rw[eF2];simp
   have mr:r2∈F2:=by rw[eF2];simp
   have mk:k2∈F2:=by rw[eF2];simp
   have mx:∀x∈os2,x.2∈F2:=fun x hx=>by
    rw[eF2];simp only [List.mem_cons];exact .inr (.inr (.inr (.inr (.inr (.inr (List.mem_map_of_mem hx))))))
   have rw6:∀{c:Addr} {rows:List Rw},c∈F2->c≠wa2->Ys H2 c rows->Ys H6 c rows:=fun m n ⟨ds,e,pp⟩=>⟨ds,k5 m n _ (s24 _ _ e),Xj t6 (ZR s24 pp)⟩
   refine q D zs (Zae s.wd fs) H6 F2 (fun c u m e=> ?_) (fun c m=> ?_) sup2 ⟨dx2,b2,t2,o2,h2,r2,k2,wa2,os2,kvs2,i6 _ _ _ _ (s24 _ _ ha2),Zf1 t6 (fun c C dx fs e=>i6 _ _ _ _ e) (fun u e=>fr6 _ _ (Zf e hFr) (fun z=>nb2 (by rw[z,eF2];simp)) e) (ZbL s24 hb2),rw6 mt ntw ht2,k5 mo now_ _ (s24 _ _ ho2),⟨oa2.one,oa2.mem,fun x hx=>rw6 (mx x hx) (fun z=>nws (by rw[<-z];exact List.mem_map_of_mem hx)) (oa2.at_ x hx)⟩,rw6 mh nhw hh2,k5 mr nrw _ (s24 _ _ hr2),k5 mk nkw _ (s24 _ _ hk2),Ja t6 (Ja (fun c xs e=>s24 _ _ e) pk2),hw6,eF2,nd2,nb2⟩ (Zne wo ef wf) (noneH nD4) (fun m=> ?_) d6 sz ⟨fs,nfs,(fun f hf=>Zez (s:={s with ws:=s.ws++[w]}) (w:=w) f.1 (by rw[<-ef];exact List.mem_map_of_mem hf)),pz,rfl⟩
   ·have c2:c∉F2:=fun y=>by
     rcases sub2 c y with z|z
     ·exact m z
     ·rw[s1 _ _ e] at z;cases z
    exact kp46 c u c2 (s24 _ _ (kp2 c u m (s1 _ _ e)))
   ·rcases sub2 c m with z|z
    ·exact .inl z
    ·exact .inr (Xv s1 z)
   ·rcases ki4 _ m with ⟨_,y⟩|⟨_,y⟩<;>rw[nD4] at y<;>cases y
theorem Zj3:∀(xs:List Str) (p:Str),risingS p xs=true->(∀x∈xs,XD x p=false)/\M4.Asc XD xs
 |[],_,_=>⟨(fun _ h=>nomatch h),.nil⟩
 |x::r,p,h=>by
  have h:(!ltCps x.cps.toList p.cps.toList&&risingS x r)=true:=h;rw[ltCps_eq] at h
  have h:(!XD x p&&risingS x r)=true:=h;rw[Bool.and_eq_true] at h
  have hx:XD x p=false:=by simpa using h.1
  obtain⟨k1,k2⟩:=Zj3 r x h.2;refine⟨fun y hy=> ?_,List.pairwise_cons.mpr ⟨fun y hy=>k1 y hy,k2⟩⟩;obtain rfl|hr:=List.mem_cons.mp hy
  ·exact hx
  ·cases e:XD y p with
   |false=>rfl
   |true=>
    rcases XN.tri x y with a|a|a
    ·rw[XN.tr _ _ _ a e] at hx;cases hx
    ·subst a;rw[e] at hx;cases hx
    ·rw[k1 y hr] at a;cases a
theorem ZdT{zs:List Str}(h:sortedS zs=true):M4.Asc XD zs:=by
 cases zs with
 |nil=>exact .nil
 |cons x r=>
  obtain⟨k1,k2⟩:=Zj3 r x h;exact List.pairwise_cons.mpr ⟨k1,k2⟩
theorem Zng{a b c:List Str}(pa:a.Perm c)(pb:b.Perm c)(ha:sortedS a=true)(hb:sortedS b=true):a=b:=M4.ZkS XN (pa.trans pb.symm) (ZdT ha) (ZdT hb)
theorem IsJ.one{rs:List Sr}{ws:List Rw}{rec:Str}{day:Int}{j k:Jd}(h:IsJ rs ws rec day j)(h':IsJ rs ws rec day k):j=k:=by
 cases e:YL (ZL ws day) rec with
 |false=>rw[h.no e,h'.no e]
 |true=>
  obtain⟨y,r0,t,a1,a2,a3,a4,a5,a6,a7,a8,a9⟩:=h.yes e;obtain⟨y',r0',t',b1,b2,b3,b4,b5,b6,b7,b8,b9⟩:=h'.yes e;obtain rfl:=a1.one b1;rw[a2] at b2
  cases b2;rw[a3] at b3
  cases b3;have eh:=Zng a7 b7 a8 b8;obtain⟨jw,js,jo,jd,jh⟩:=j;obtain⟨kw,ks,ko,kd,kh⟩:=k;simp only at a4 a5 a6 a9 b4 b5 b6 b9 eh
  subst a4 a5 a6 b4 b5 b6 eh;rw[a9,b9]
def Zch(s:Hs)(day:Int)(r:Str):Prop:=∃j,IsJ s.rs s.ws r day j/\j.word="due"
def ZbF(s:Hs)(day:Int)(H:Hp)(r:Str)(v:V):Prop:=∃p j v5,v=.ref p/\H p=some (.tup [.str r,oS j.ser,oS j.own,oV j.due,v5])/\IsJ s.rs s.ws r day j/\j.word="due"/\Zm2 s.rs s.ws r day H v5
def Znh(ws:List Rw):Prop:=∃ns:List Str,ns.length<64/\∀r,YW ws r≠[]->r∈ns
def Zf4(cn ca cl ce:Addr)(n:Nat)(C:Addr):Sp:=fun vs H Q _=>∃(a:Addr) (day:Int) (s:Hs) (F:List Addr),vs=[.ref a,.int day]/\0<n/\ZV cn ca cl ce C H a s F/\ZoF s/\Znh s.ws/\
 ∀L us zs H',H L=none->Zy H H'->H' L=some (.lst us)->Paired (ZbF s day H') zs us->zs.Pairwise (fun a b=>XD a b=true)->(∀r,r∈zs↔r∉s.gs.map (·.1)/\Zch s day r)->Q (.ref L) H'
theorem Zmj{cn ca cl ce C:Addr}:∀vs H Q E,¬Zf4 cn ca cl ce 0 C vs H Q E:=fun _ _ _ _ ⟨_,_,_,_,_,z,_⟩=>Nat.lt_irrefl 0 z
def Zgk(gs:List Gn)(kv:Key×V):List V:=match kv.1 with
 | .inr r=>if r∈gs.map (·.1) then[] else[V.str r]
 | .inl _=>[]
theorem Zj4(gs:List Gn):∀os:List (Str×Addr),(okv os).flatMap (Zgk gs)=((os.map (·.1)).filter fun r=> !decide (r∈gs.map (·.1))).map V.str
 |[]=>rfl
 |x::os=>by
  show Zgk gs (Sum.inr x.1,V.ref x.2)++(okv os).flatMap (Zgk gs)=_;rw[Zj4 gs os,List.map_cons];show(if x.1∈gs.map (·.1) then[] else[V.str x.1])++_=_
  by_cases h:x.1∈gs.map (·.1)
  ·rw[if_pos h,List.filter_cons_of_neg (by rw[decide_eq_true h];exact Bool.false_ne_true)]
   rfl
  ·rw[if_neg h,List.filter_cons_of_pos (by rw[decide_eq_false h];rfl)]
   rfl
theorem Zlc{H:Hp}:∀{gs:List Gn} {kvs:List (Key×V)},Paired (Zg7 H) gs kvs->∀r,(YM kvs (Sum.inr r)).isSome=decide (r∈gs.map (·.1))
 |_,_,.nil,r=>rfl
 |_,_,.cons (a:=g) ⟨p,e,hp⟩ t,r=>by
  subst e
  by_cases z:g.1=r
  ·rw[YF (by rw[z])];exact(decide_eq_true (by rw[List.map_cons,z];exact List.mem_cons_self ..)).symm
  ·rw[Yx (by exact fun y=>z (by injection y)),Zlc t r];refine decide_eq_decide.mpr ⟨fun m=> ?_,fun m=> ?_⟩
   ·rw[List.map_cons];exact List.mem_cons_of_mem _ m
   ·rw[List.map_cons] at m
    exact(List.mem_cons.mp m).elim (fun y=>absurd y.symm z) id
theorem JK{s:Hs}{day:Int}{H H':Hp}(sm:∀b xs,H b=some (.tup xs)->H' b=some (.tup xs)):∀{zs:List Str} {us:List V},Paired (ZbF s day H) zs us->Paired (ZbF s day H') zs us
 |_,_,.nil=> .nil
 |_,_,.cons ⟨p,j,v5,e,h,is,wd,wy⟩ t=> .cons ⟨p,j,v5,e,sm _ _ h,is,wd,⟨wy.no,fun z=>by
   obtain⟨y,r0,t,top,ow,ht,no,yes⟩:=wy.yes z;refine⟨y,r0,t,top,ow,ht,no,fun D e=> ?_⟩;obtain⟨a,k,d,n,e1,ha,r⟩:=yes D e;exact⟨a,k,d,n,e1,sm _ _ ha,r⟩⟩⟩ (JK sm t)
theorem Zi5{s:Hs}{day:Int}{r:Str}(h:Zch s day r):YW s.ws r≠[]:=fun z=>by
 obtain⟨j,is,e⟩:=h;have np:YL (ZL s.ws day) r=false:=by
  obtain⟨a1,_⟩:=Zi3 (ws:=s.ws) (r:=r) (x:=day) (s:=day) rfl;rw[a1,z]
  rfl
 rw[is.no np] at e
 exact absurd e (by decide+kernel:¬Str.ofString "absent"=Str.ofString "due")
theorem Zhq{zs xs:List Str}(p:zs.Perm xs)(nd:xs.Nodup)(h:M4.Asc XD zs):zs.Pairwise fun a b=>XD a b=true:=by
 have nz:zs.Pairwise (· ≠ ·):=List.nodup_iff_pairwise_ne.mp (p.nodup_iff.mpr nd);have h:zs.Pairwise fun a b=>XD b a=false:=h;refine(h.and nz).imp fun{a b} ⟨h1,h2⟩=> ?_;rcases XN.tri a b with q|q|q
 ·exact q
 ·exact absurd q h2
 ·rw[h1] at q;cases q
theorem ZaW{α:Type}{zs:List α}{i:Nat}{x:α}(nd:zs.Nodup)(e:zs[i]? =some x):x∉zs.take i:=fun m=>by
 obtain⟨hi,ei⟩:=List.getElem?_eq_some_iff.mp e;obtain⟨k,hk,ek⟩:=List.getElem_of_mem m;have hk2:k<i:=by rw[List.length_take] at hk;omega
 rw[List.getElem_take] at ek
 have:=(List.pairwise_iff_getElem.mp (List.nodup_iff_pairwise_ne.mp nd)) k i (by omega) hi hk2;rw[ek,ei] at this
 exact this rfl
theorem XS:ZG ["self","day","found","stays","record","rows","told"] ["self","day"] (Zw Zc6):=⟨rfl,rfl,rfl,by decide+kernel,rfl,by decide+kernel,by decide+kernel⟩
theorem ZhN{f:Addr}{fd:FuncData}(F:Fun K "due_on" "House.due_on" Zc6 f fd)(T:Txt K mg Zj Zg Zh Zb Zo)(n:Nat)(XR:Cal P w K mg base CX0 1 "counted" ["rows","day"] ZaR)(Zdd:Cal P w K mg base CX0 14 "judged" ["book","rows","record","day"] (ZeW Zj Zg Zh Zb))(Zj5:Cal P w K mg base CX0 14 "reason" ["book","rows","record","day"] (ZgN Zj Zg Zh Zb))(Jr:Cal P w K mg base CX0 1 "standing" ["rows"] Zbc):Yn P w K mg base CX0 (14+n+1+1) f fd ["self","day"] (Zf4 Zj Zg Zh Zb (n+1) Zo):=by
 refine F.ok XS (fun vs H Q E h=> ?_) (fun cdv A outer s H vs Q E hr h=> ?_)
 ·obtain⟨a,day,s,F,rfl,_⟩:=h
  rfl
 ·obtain⟨a,day,s,F,rfl,_,⟨dx,b,t,o,h,r,k,wd,os,kvs,ha,hb,ht,ho,oa,hh,hr',hk,pk,hw,eF,nd,nb⟩,ok,l64,q⟩:=h;have l5:=YZ;have hu:=ZaJ hr;have few:=ok.few;refine⟨_,(Ze (Zz (i:=2) XS.nd rfl (Or.inl rfl) (ZX Zi)) (Ze (Zz (i:=3) XS.nd rfl (Or.inl rfl) (ZQ Jr (hr.mono (by omega)) rfl ZJ (Za (ZQ XR (hr.mono (by omega)) rfl ZJ (Za (Yi (pv 0) rfl) (Za (pv 1) Zi))) Zi))) (Ze (Xw PassesOwn.never rfl (Yg (ZM JV (by rfl) T.z_sorted Zai (Za (Zg0 (Jh ["name"] [("self",0)] rfl (ZqQ (Yi (pv 0) rfl)) (by rfl) (by exact⟨rfl,trivial⟩) (by rfl) (by exact⟨⟨rfl,rfl,rfl⟩,trivial⟩) (fun _ _ _ _=>(ZK (i:=0) (show(nmY ["name"] [("self",0)]).Nodup by decide+kernel) rfl (Or.inl rfl))) (fun _ _ _ _=>(JB (Zdo (Zd1 hu (pv 0) (ZkU (K:=K) rfl (pv 1) rfl))))) (fun _ _ _ _=>(pv 0)))) Zi))) (ZK (i:=4) XS.nd rfl (Or.inl rfl)) (Ze (Zz (i:=5) XS.nd rfl (Or.inl rfl) (ZC ZeS (Za9 hu (Yi (pv 0) rfl) (pv 4) (fun _ _=>rfl)) (pv 3))) (Ze (Zz (i:=6) XS.nd rfl (Or.inl rfl) (ZQ Zdd (hr.mono (by omega)) rfl ZJ (Za (Yi (pv 0) rfl) (Za (pv 5) (Za (pv 4) (Za (pv 1) Zi)))))) (Zn (ZS (Zq ZZ (Zr Zu (pv 6) Zd (fun _ _=>rfl)) ZD (Zt _)) (Zn (YB (JG PySem.F.plainAttrs_list PySem.F.slot_list_append PySem.F.type_list_append Yk (pv 2) (Za (Yr (Za (pv 4) (Za (Zr Zu (pv 6) Zd (fun _ _=>rfl)) (Za (Zr Zu (pv 6) Zd (fun _ _=>rfl)) (Za (Zr Zu (pv 6) Zd (fun _ _=>rfl)) (Za (ZQ Zj5 (hr.mono (by omega)) rfl ZJ (Za (Yi (pv 0) rfl) (Za (pv 5) (Za (pv 4) (Za (pv 1) Zi))))) Zi)))))) Zi)))) ZF))))) (Zn (Zx (pv 2)))))), ?_⟩
  refine⟨Nat.zero_le _,fun Fd hFd=> ?_⟩;have sF:=Zk hFd (o:=.lst []);have hF1:upd H Fd (.lst []) Fd=some (.lst []):=Zc;generalize upd H Fd (.lst [])=H1 at sF hF1
  have lh:(s.ws.filter Za1).length<=s.ws.length:=List.length_filter_le _ _;refine⟨_,rfl,a,_,dx,_,_,rfl,sF _ _ ha,T.cl_House,T.n_House_holdings,Zcv ..,_,rfl,h,s.ws.filter Za1,day,rfl,Yd sF hh,by omega,fun C H2 hC s2 rc=> ?_⟩;have lu:(ZL (s.ws.filter Za1) day).length<=(s.ws.filter Za1).length:=List.length_filter_le _ _;refine⟨C,_,rfl,rc,by omega,fun St H3 hSt s3 rl=> ?_⟩;have s03:=sF.trans (s2.trans s3)
  have hF3:=s3 _ _ (s2 _ _ hF1);have ho3:=s03 _ _ ho;have los:os.length<64:=by
   obtain⟨ns,l,sub⟩:=l64;have:=oa.one.length_le_of_subset fun r hr=>sub r ((oa.mem r).mp hr);rw[List.length_map] at this
   omega
  have nSF:St≠Fd:=fun z=>by rw[z,s2 _ _ hF1] at hSt;cases hSt
  have lok:(okv os).length=os.length:=List.length_map ..;refine⟨_,rfl,a,_,dx,_,_,rfl,s03 _ _ ha,T.cl_House,T.n_House_own,ZiX ..,o,okv os,rfl,ho3,fun ob=> ?_⟩;refine Xm (okv os).length (fun i=>(((okv os)[i]?).map (Zgk s.gs)).getD []) (by omega) (fun i=> ?_) (fun i H2 s lt=>⟨s _ _ Zc,lt⟩) (fun H2 s=>⟨s _ _ Zc,Nat.le_refl _⟩) (fun i x H4 H5 s4 lt y RT RF rt rf=> ?_) fun D H4 hD s4 d4=> ?_
  ·cases(okv os)[i]? with
   |none=>exact Nat.zero_le _
   |some kv=>
    show(Zgk s.gs kv).length<=1;unfold Zgk;cases kv.1 with
    |inl _=>exact Nat.zero_le _
    |inr z=>
     show(if z∈s.gs.map (·.1) then[] else[V.str z]).length<=1
     split
     ·exact Nat.zero_le _
     ·exact Nat.le_refl _
  ·obtain⟨rfl,kv,e2,rfl⟩:=y;rw[e2] at rt rf
   have rt:∀v H6,Zgk s.gs kv=[v]->_:=rt;have rf:∀H5,Zgk s.gs kv=[]->_:=rf;obtain⟨x0,_,rfl⟩:=List.mem_map.mp (List.mem_of_getElem? e2);have nko:k≠o:=by
    rw[eF] at nd
    simp only [List.nodup_cons,List.mem_cons,not_or] at nd
    exact Ne.symm nd.2.1.2.2.1
   have hk5:=s4 _ _ (show upd H3 o (.frz ob (.dK (okv os))) k=some (.dK kvs) by rw[Zm nko];exact s03 _ _ hk)
   have ha5:=s4 _ _ (show upd H3 o (.frz ob (.dK (okv os))) a=some (.ins Zo dx (fH b t o h r k wd)) by rw[Zm (Yj ha ho (fun z=>nomatch z))];exact s03 _ _ ha)
   refine⟨⟨rfl,trivial⟩,_,rfl,_,rfl,a,_,dx,_,_,rfl,ha5,T.cl_House,T.n_House_taken,Zgf ..,k,_,rfl,.inl ⟨kvs,Sum.inr x0.1,.inl hk5,rfl,rfl⟩,_,rfl, ?_⟩;rw[Zlc pk]
   by_cases z:x0.1∈s.gs.map (·.1)
   ·rw[decide_eq_true z];exact ZW (rf _ (if_pos z) (Zy.refl _))
   ·rw[decide_eq_false z];exact XX ⟨_,rfl,rt _ _ (if_neg z) (Zy.refl _)⟩
  ·rw[Xo (Zgk s.gs) (okv os),Zj4] at d4
   have hDo:D≠o:=fun e=>by rw[e,Zc] at hD;cases hD
   obtain⟨t1,t2⟩:=(Ziv.of s4).thaw (H₀:=H) ho3 (fun ob u z=>by rw[ho] at z;cases z)
   have hD3:H3 D=none:=by rw[Zm hDo] at hD;exact hD
   have dD:upd H4 o (.dK (okv os)) D=some (.lst (((os.map (·.1)).filter fun r=> !decide (r∈s.gs.map (·.1))).map V.str)):=by rw[Zm hDo];exact d4
   refine⟨o,_,t1, ?_⟩;generalize upd H4 o (.dK (okv os))=H5 at t1 t2 dD
   have ln:((os.map (·.1)).filter fun r=> !decide (r∈s.gs.map (·.1))).length<=(os.map (·.1)).length:=List.length_filter_le _ _;rw[List.length_map] at ln
   refine⟨D,_,rfl,SqL.of dD,by omega,fun zs pz sz D2 hD2=> ?_⟩;have s05:=s03.trans (t2.trans (Zk hD2 (o:=.lst (zs.map V.str))));have hF6:=(t2.trans (Zk hD2 (o:=.lst (zs.map V.str)))) _ _ hF3;have rl6:=Yd (t2.trans (Zk hD2 (o:=.lst (zs.map V.str)))) rl;have z6:upd H5 D2 (.lst (zs.map V.str)) D2=some (.lst (zs.map V.str)):=Zc;have nD2F:D2≠Fd:=fun y=>by rw[y,t2 _ _ hF3] at hD2;cases hD2
   generalize upd H5 D2 (.lst (zs.map V.str))=H6 at s05 hF6 rl6 z6
   have nds:((os.map (·.1)).filter fun r=> !decide (r∈s.gs.map (·.1))).Nodup:=oa.one.filter _;have strict:=Zhq pz nds (ZdT sz);have lzs:zs.length<=64:=by rw[pz.length_eq];omega
   have mz:∀rc,rc∈zs↔rc∈os.map (·.1)/\rc∉s.gs.map (·.1):=fun rc=>by
    rw[pz.mem_iff,List.mem_filter];exact⟨fun⟨x,y⟩=>⟨x,fun z=>by rw[decide_eq_true z] at y;cases y⟩,fun⟨x,y⟩=>⟨x,by rw[decide_eq_false y];rfl⟩⟩
   refine⟨D2,rfl,⟨_,SqL.of z6⟩,YQ (xs:=zs.map V.str) (fun i σ H'=>∃(v4 v5 v6:Option V) (us:List V) (ys:List Str),σ=[some (.ref a),some (.int day),some (.ref Fd),some (.ref St),v4,v5,v6]/\H' Fd=some (.lst us)/\Paired (ZbF s day H') ys us/\ys.Sublist (zs.take i)/\(∀rc∈zs.take i,rc∈ys↔Zch s day rc)/\∀c u,c≠Fd->H6 c=some u->H' c=some u) ?_ ?_ ?_ ?_⟩
   ·exact⟨none,none,none,[],[],rfl,hF6,.nil,List.Sublist.refl _,(fun rc hrc=>nomatch hrc),fun c u _ e=>e⟩
   ·rintro i σ H7 _ ⟨v4,v5,v6,us,ys,rfl,_,_,_,_,fr⟩;exact SqL.of (fr _ _ nD2F z6)
   ·rintro i x σ H7 hx ⟨v4,v5,v6,us,ys,rfl,hF7,po,sl1,iff,fr⟩;obtain⟨rc,rfl,erc⟩:∃rc,x=V.str rc/\zs[i]? =some rc:=by
     rw[List.getElem?_map] at hx
     cases e:zs[i]? with
     |none=>rw[e] at hx;cases hx
     |some y=>rw[e] at hx;exact⟨y,(Option.some.inj hx).symm,rfl⟩
    have hrc:=(mz rc).mp (List.mem_of_getElem? erc);obtain⟨⟨xo,xl⟩,hxo,e2⟩:=List.mem_map.mp hrc.1;have e2:xo=rc:=e2;subst e2;have tkz:zs.take (i+1)=zs.take i++[xo]:=by rw[List.take_add_one,erc];rfl
    have s07:Zy H H7:=fun c u e=>fr c u (Zf e hFd) (s05 _ _ e);obtain⟨ps,hz,pz2⟩:=Yd s07 (oa.at_ _ hxo);obtain⟨yy,hy,py⟩:=rl6;have hy7:=fr _ _ nSF hy;have py7:Paired (Zd5 H7) yy (Jb s.ws day):=Xj (fun c xs e=>fr _ _ (fun z=>by rw[z,hF6] at e;cases e) e) py
    have vo:=ZgT oa.one _ hxo;have lz2:(YW s.ws xo).length<=s.ws.length:=List.length_filter_le _ _;have lps:ps.length=(YW s.ws xo).length:=Paired.length pz2;have lyy:=Paired.length py7;have rof:=Zj0 (r:=xo) (day:=day) ok.rows (by omega);have lyr:=rof.len;have elen:(XJ s.ws xo day).length=(YW s.ws xo).length+(Jb s.ws day).length:=List.length_append;refine⟨_,rfl,a,_,dx,_,_,rfl,s07 _ _ ha,T.cl_House,T.n_House_own,ZiX ..,_,rfl,o,_,rfl,.inl ⟨okv os,Sum.inr xo,.inl (s07 _ _ ho),rfl,vo.symm⟩,_,rfl,xl,St,_,_,rfl,rfl,SqL.of hz,SqL.of hy7,by rw[List.length_map,List.length_map];omega,fun R hR=> ?_⟩
    have s8:=Zk hR (o:=.lst (ps.map V.ref++yy.map V.ref));have hR8:Ys (upd H7 R (.lst (ps.map V.ref++yy.map V.ref))) R (XJ s.ws xo day):=⟨ps++yy,by rw[Zc,List.map_append],Zex (ZR s8 pz2) (ZR s8 py7)⟩
    generalize upd H7 R (.lst (ps.map V.ref++yy.map V.ref))=H8 at s8 hR8
    have s08:=s07.trans s8;refine⟨_,rfl,a,_,dx,_,_,rfl,s08 _ _ ha,T.cl_House,T.n_House_book,Zge ..,_,rfl,_,rfl,_,rfl,b,R,s.rs,XJ s.ws xo day,xo,day,rfl,ZbL s08 hb,ok.bk,ok.lr,hR8,rof,fun ja j H9 hja0 s9 ⟨Lh,hja,_⟩ _ is=> ?_⟩;have isj:=Zkl is;have s89:=s8.trans s9;have next:(Zch s day xo->False)->∃(v4 v5 v6:Option V) (us:List V) (ys:List Str),[some (V.ref a),some (.int day),some (.ref Fd),some (.ref St),some (.str xo),some (.ref R),some (.ref ja)]=[some (V.ref a),some (.int day),some (.ref Fd),some (.ref St),v4,v5,v6]/\H9 Fd=some (.lst us)/\Paired (ZbF s day H9) ys us/\ys.Sublist (zs.take (i+1))/\(∀rc∈zs.take (i+1),rc∈ys↔Zch s day rc)/\∀c u,c≠Fd->H6 c=some u->H9 c=some u:=fun no=>by
     refine⟨_,_,_,us,ys,rfl,s89 _ _ hF7,JK (fun c xs e=>s89 _ _ e) po,by rw[tkz];exact sl1.trans (List.sublist_append_left _ _),fun rc m=> ?_,fun c u n e=>s89 _ _ (fr c u n e)⟩
     rw[tkz] at m
     rcases List.mem_append.mp m with old|new
     ·exact iff rc old
     ·rw[List.mem_singleton.mp new];exact⟨fun y=>absurd (sl1.subset y) (ZaW (pz.nodup_iff.mpr nds) erc),fun y=>(no y).elim⟩
    refine(ixT rfl (SqT.of hja) rfl ⟨rfl,_,rfl,Yp (fun e=> ?_) (fun e=>next fun⟨j',is',e'⟩=>e (decide_eq_true (by rw[isj.one is',e'])))⟩);have e:j.word="due":=by injection of_decide_eq_true e
    have s09:=s08.trans s9;have hF9:=s89 _ _ hF7;have lus:us.length<=64:=by
     have h1:=Paired.length po;have h2:=sl1.length_le;have h3:=List.length_take_le' i zs;omega
    refine⟨_,rfl,.inl ⟨rfl,_,SqL.of hF9⟩,_,rfl,ixT rfl (SqT.of hja) rfl (ixT rfl (SqT.of hja) rfl (ixT rfl (SqT.of hja) rfl ⟨_,rfl,a,_,dx,_,_,rfl,s09 _ _ ha,T.cl_House,T.n_House_book,Zge ..,_,rfl,_,rfl,_,rfl,b,R,s.rs,XJ s.ws xo day,xo,day,rfl,ZbL s09 hb,ok.bk,ok.lr,Yd s9 hR8,rof,fun v5 H10 s10 why=>⟨show 5<=sizeLine from sl,fun tt htt=> ?_⟩⟩))⟩;have hF10:=s10 _ _ hF9;have s810:=s89.trans s10;refine⟨Fd,_,V.ref tt,rfl,rfl,Zk htt _ _ hF10,by omega, ?_⟩
    have nF:Fd≠tt:=Zf hF10 htt;have kp:∀c u,c≠Fd->H10 c=some u->upd (upd H10 tt (.tup [.str xo,oS j.ser,oS j.own,oV j.due,v5])) Fd (.lst (us++[.ref tt])) c=some u:=fun c u n e=>by rw[Zm n,Zm (Zf e htt)];exact e
    have kt:∀c xs,H10 c=some (.tup xs)->upd (upd H10 tt (.tup [.str xo,oS j.ser,oS j.own,oV j.due,v5])) Fd (.lst (us++[.ref tt])) c=some (.tup xs):=fun c xs e=>kp c _ (Yj e hF10 (fun z=>nomatch z)) e;have why2:=Zmg why;refine⟨_,_,_,us++[.ref tt],ys++[xo],rfl,Zc,Paired.snoc (JK (fun c xs e=>kt _ _ (s810 _ _ e)) po) ⟨tt,j,v5,rfl,by rw[Zm (Ne.symm nF),Zc],isj,e,⟨why2.no,fun z=> ?_⟩⟩,by rw[tkz];exact List.Sublist.append sl1 (List.Sublist.refl _),fun rc m=> ?_,fun c u n y=>kp c u n (s810 _ _ (fr c u n y))⟩
    ·obtain⟨y,r0,t,top,ow,ht,no,yes⟩:=why2.yes z;refine⟨y,r0,t,top,ow,ht,no,fun D e=> ?_⟩;obtain⟨a,k,d,n,e1,ha,r⟩:=yes D e;exact⟨a,k,d,n,e1,kt _ _ ha,r⟩
    ·rw[tkz] at m
     rcases List.mem_append.mp m with old|new
     ·have ne:rc≠xo:=fun z=>ZaW (pz.nodup_iff.mpr nds) erc (z▸old);rw[List.mem_append,iff rc old];exact⟨fun y=>y.elim id fun z=>absurd (List.mem_singleton.mp z) ne,fun y=> .inl y⟩
     ·rw[List.mem_singleton.mp new];exact⟨fun _=>⟨j,isj,e⟩,fun _=>List.mem_append_right _ (List.mem_singleton_self _)⟩
   ·rintro σ H7 ⟨v4,v5,v6,us,ys,rfl,hF7,po,sl1,iff,fr⟩;rw[List.length_map,List.take_length] at sl1 iff
    refine⟨_,rfl,q Fd us ys H7 hFd (fun c u e=>fr c u (Zf e hFd) (s05 _ _ e)) hF7 po (strict.sublist sl1) fun rc=> ?_⟩
    constructor
    ·intro m;have mzs:=sl1.subset m;exact⟨((mz rc).mp mzs).2,(iff rc mzs).mp m⟩
    ·rintro⟨n1,dn⟩;exact(iff rc ((mz rc).mpr ⟨(oa.mem rc).mpr (Zi5 dn),n1⟩)).mpr dn
def Zam(s:Hs)(day:Int)(zs:List Str):Hs:={s with runs:=s.runs++[day],gs:=s.gs++zs.map fun r=>(r,((s.runs.length+1:Nat):Int),day),wd:=s.wd++zs.map fun r=>(r,Str.ofString "due")}
def Zld(cn ca cl ce:Addr)(n:Nat)(C:Addr):Sp:=fun vs H Q _=>∃(a:Addr) (day:Int) (s:Hs) (F:List Addr),vs=[.ref a,.int day]/\0<n/\ZV cn ca cl ce C H a s F/\ZoF s/\Znh s.ws/\s.wd.map (·.1)=s.gs.map (·.1)/\s.runs.length<=900/\s.gs.length<=900/\(∀d,s.runs.getLast? =some d->d<=day)/\
 ∀L us zs H',ZiN F H H'->ZV cn ca cl ce C H' a (Zam s day zs) F->H L=none->L∉F->H' L=some (.lst us)->Paired (ZbF s day H') zs us->zs.Pairwise (fun a b=>XD a b=true)->(∀r,r∈zs↔r∉s.gs.map (·.1)/\Zch s day r)->Q (.ref L) H'
theorem Zqf{cn ca cl ce C:Addr}:∀vs H Q E,¬Zld cn ca cl ce 0 C vs H Q E:=fun _ _ _ _ ⟨_,_,_,_,_,z,_⟩=>Nat.lt_irrefl 0 z
theorem Zj6{kvs:List (Key×V)}{k:Key}{v:V}(h:(YM kvs k).isSome=false):Jw kvs k v=kvs++[(k,v)]:=by
 unfold Jw;rw[Zar,h,if_neg Bool.false_ne_true]
theorem Zra{xs:List Int}{x:Int}(h:xs.getLast? =some x):atI (xs.map V.int) (-1)=some (.int x):=by
 obtain⟨ys,rfl⟩:=List.getLast?_eq_some_iff.mp h;rw[List.map_append];exact Zp9 _ _
theorem Zkm{cn ca cl ce C a dx b t o h r k w:Addr}{H H':Hp}{s:Hs}{F:List Addr}{os:List (Str×Addr)}{kvs kvs':List (Key×V)}{rn':List Int}{gs':List Gn}{wd':List (Str×Str)}
  (ha:H a=some (.ins C dx (fH b t o h r k w)))(hb:Zg6 cn ca cl ce H b s.rs)(ht:Ys H t s.ws)(ho:H o=some (.dK (okv os)))(oa:ZpV H os s.ws)(hh:Ys H h (s.ws.filter Za1))(hr:H r=some (.lst (s.runs.map V.int)))(hk:H k=some (.dK kvs))(hw:H w=some (.dK (wkv s.wd)))
  (eF:F=t::o::h::r::k::w::os.map (·.2))(nd:F.Nodup)(nb:b∉F)(mv:∀c u,c≠r->c≠k->c≠w->H c=some u->H' c=some u)(hr':H' r=some (.lst (rn'.map V.int)))(hk':H' k=some (.dK kvs'))(pk':Paired (Zg7 H') gs' kvs')(hw':H' w=some (.dK (wkv wd'))):
  ZV cn ca cl ce C H' a {s with runs:=rn',gs:=gs',wd:=wd'} F:=by
 subst eF;have n:=nd;simp only [List.nodup_cons,List.mem_cons,not_or] at n
 obtain⟨⟨_,_,ntr,ntk,ntw,nts⟩,⟨_,nor,nok,now_,nos⟩,⟨nhr,nhk,nhw,nhs⟩,⟨nrk,nrw,nrs⟩,⟨nkw,nks⟩,nws,ndo⟩:=n;have n2:=nb;simp only [List.mem_cons,not_or] at n2
 obtain⟨_,_,_,nbr,nbk,nbw,_⟩:=n2;have kt:∀c xs,H c=some (.tup xs)->H' c=some (.tup xs):=fun c xs e=>mv c _ (Yj e hr (fun z=>nomatch z)) (Yj e hk (fun z=>nomatch z)) (Yj e hw (fun z=>nomatch z)) e;have ki:∀c C dx fs,H c=some (.ins C dx fs)->H' c=some (.ins C dx fs):=fun c C dx fs e=>mv c _ (Yj e hr (fun z=>nomatch z)) (Yj e hk (fun z=>nomatch z)) (Yj e hw (fun z=>nomatch z)) e;have rw_:∀{p:Addr} {us:List Rw},p≠r->p≠k->p≠w->Ys H p us->Ys H' p us:=fun n1 n2 n3 ⟨ds,e,pp⟩=>⟨ds,mv _ _ n1 n2 n3 e,Xj kt pp⟩
 exact⟨dx,b,t,o,h,r,k,w,os,kvs',ki _ _ _ _ ha,Zf1 kt ki (fun u e=>mv _ _ nbr nbk nbw e) hb,rw_ ntr ntk ntw ht,mv _ _ nor nok now_ ho,⟨oa.one,oa.mem,fun x hx=>rw_ (fun z=>nrs (z▸List.mem_map_of_mem hx)) (fun z=>nks (z▸List.mem_map_of_mem hx)) (fun z=>nws (z▸List.mem_map_of_mem hx)) (oa.at_ x hx)⟩,rw_ nhr nhk nhw hh,hr',hk',pk',hw',rfl,nd,nb⟩
theorem Zle{s:Hs}{day:Int}{H:Hp}:∀{zs:List Str} {us:List V},Paired (ZbF s day H) zs us->∀(i:Nat) (u:V),us[i]? =some u->∃r,zs[i]? =some r/\ZbF s day H r u
 |_,_,.nil,i,u,h=>by simp at h
 |_,_,.cons (a:=r) (b:=v) x t,0,u,h=>by
  have h:v=u:=by simpa using h
  subst h;exact⟨r,rfl,x⟩
 |_,_,.cons _ t,i+1,u,h=>by
  obtain⟨r,e,z⟩:=Zle t i u (by simpa using h);exact⟨r,by simpa using e,z⟩
theorem ZdU:ZG ["self","day","leaving","told"] ["self","day"] (Zw Zep):=⟨rfl,rfl,rfl,by decide+kernel,rfl,by decide+kernel,by decide+kernel⟩
theorem Zlf{f:Addr}{fd:FuncData}(F:Fun K "run" "House.run" Zep f fd)(T:Txt K mg Zj Zg Zh Zb Zo)(n:Nat)(Zj7:Zap P w K mg base CX0 27 "due_on" ["self","day"] (Zf4 Zj Zg Zh Zb 12) (fun C=>C=Zo)):Yn P w K mg base CX0 (27+n+1+1) f fd ["self","day"] (Zld Zj Zg Zh Zb (n+1) Zo):=by
 refine F.ok ZdU (fun vs H Q E h=> ?_) (fun cdv A outer s H vs Q E hr h=> ?_)
 ·obtain⟨a,day,s,F,rfl,_⟩:=h
  rfl
 ·obtain⟨a,day,s,F,rfl,_,hA,ok,l64,ek,lru,lgs,lst_,q⟩:=h;have l5:=YZ;have hu:=ZaJ hr;obtain⟨dx,b,t,o,h,r,k,wd,os,kvs,ha,hb,ht,ho,oa,hh,hr',hk,pk,hw,eF,nd,nb⟩:=id hA;have ki:=hA.kinds;refine⟨_,(Ze (ZS (PW.pt (Xb (Zq Zhh (ZM Js (by rfl) T.z_len Zbm (Za (Yi (pv 0) rfl) Zi)) Zd (Zt _)) (YT (Zq Ze9 (pv 1) (Zr YJ (Yi (pv 0) rfl) (Znt Zky Zd) (fun _ _=>rfl)) (Zt _))))) (Zn ZfO) ZF) (Ze (YB (JG PySem.F.plainAttrs_list PySem.F.slot_list_append PySem.F.type_list_append Yk (Yi (pv 0) rfl) (Za (pv 1) Zi))) (Ze (Zz (i:=2) ZdU.nd rfl (Or.inl rfl) (Zau (pv 0) Zj7 (hr.mono (by omega)) ZJ (Za (pv 1) Zi))) (Ze (Xw PassesOwn.never rfl (Yg (pv 2)) (ZK (i:=3) ZdU.nd rfl (Or.inl rfl)) (Ze (ZbG hu (Yi (pv 0) rfl) (Zr Zu (pv 3) Zd (fun _ _=>rfl)) (Yr (Za (ZM Js (by rfl) T.z_len Zbm (Za (Yi (pv 0) rfl) Zi)) (Za (pv 1) Zi))) rfl) (Zn (ZbG hu (Yi (pv 0) rfl) (Zr Zu (pv 3) Zd (fun _ _=>rfl)) ZD rfl)))) (Zn (Zx (pv 2))))))), ?_⟩
  refine(fun(rest:∀σ':L2.St,σ'=[some (.ref a),some (.int day),none,none]->(_:L2.St->Hp->Prop) σ' H)=>
   ⟨_,rfl,a,_,dx,_,_,rfl,ha,T.cl_House,T.n_House_run_days,Zcw ..,_,_,rfl,.inl ⟨_,SqL.of hr',rfl⟩,_,_,rfl,rfl,_,rfl,Yp (fun e=> ?yes) (fun e=>ZW (rest _ rfl))⟩) ?rest
  case yes=>
   have ne:s.runs≠[]:=fun z=>by rw[z] at e;cases e
   obtain⟨d,ed⟩:∃d,s.runs.getLast? =some d:=⟨_,List.getLast?_eq_some_getLast ne⟩
   have le:=lst_ d ed;refine⟨_,rfl,_,rfl,a,_,dx,_,_,rfl,ha,T.cl_House,T.n_House_run_days,Zcw ..,_,rfl,r,_,_,_,rfl,rfl,SqL.of hr',Zra ed,_,_,rfl,rfl,_,rfl, ?_⟩;rw[decide_eq_false (by omega)];exact ZW (rest _ rfl)
  case rest=>
   rintro σ' rfl;refine⟨_,rfl,a,_,dx,_,_,rfl,ha,T.cl_House,T.n_House_run_days,Zcw ..,.inl ⟨rfl,_,SqL.of hr'⟩,_,rfl,r,_,V.int day,rfl,rfl,hr',by rw[List.length_map];omega, ?_⟩
   have n:=nd;rw[eF] at n
   simp only [List.nodup_cons,List.mem_cons,not_or] at n
   obtain⟨⟨_,_,ntr,ntk,ntw,nts⟩,⟨_,nor,nok,now_,nos⟩,⟨nhr,nhk,nhw,nhs⟩,⟨nrk,nrw,nrs⟩,⟨nkw,nks⟩,nws,ndo⟩:=n;have e1:s.runs.map V.int++[V.int day]=(s.runs++[day]).map V.int:=by rw[List.map_append];rfl
   rw[e1];have fr1:∀c u,c≠r->H c=some u->upd H r (.lst ((s.runs++[day]).map V.int)) c=some u:=fun c u n e=>by rw[Zm n];exact e
   have hr1:upd H r (.lst ((s.runs++[day]).map V.int)) r=some (.lst ((s.runs++[day]).map V.int)):=Zc;have bk1:∀{c:Addr},upd H r (.lst ((s.runs++[day]).map V.int)) c=none->H c=none:=fun{c} z=>by
    by_cases y:c=r
    ·rw[y,hr1] at z;cases z
    ·rwa [Zm y] at z
   show Zkx _ _ _ _ (upd H r (.lst ((s.runs++[day]).map V.int)));generalize upd H r (.lst ((s.runs++[day]).map V.int))=H1 at fr1 hr1 bk1
   have k1:=fr1 _ _ (Ne.symm nrk) hk;have w1:=fr1 _ _ (Ne.symm nrw) hw;have kt1:∀c xs,H c=some (.tup xs)->H1 c=some (.tup xs):=fun c xs e=>fr1 c _ (Yj e hr' (fun z=>nomatch z)) e;have hA1:ZV Zj Zg Zh Zb Zo H1 a {s with runs:=s.runs++[day]} F:=Zkm ha hb ht ho oa hh hr' hk hw eF nd nb (fun c u n _ _ e=>fr1 c u n e) hr1 k1 (Ja kt1 pk) w1;have ha1:=fr1 _ _ (Yj ha hr' (fun z=>nomatch z)) ha;refine⟨_,rfl,a,_,dx,_,rfl,ha1,rfl,Zbg (by decide+kernel),_,rfl,a,day,{s with runs:=s.runs++[day]},F,rfl,by decide,hA1,⟨ok.bk,ok.lr,ok.rows,ok.few,ok.one,ok.own⟩,l64,fun L us zs H2 hL s2 hl2 po st iff=> ?_⟩
   have po:Paired (ZbF s day H2) zs us:=po;have ndz:zs.Nodup:=List.nodup_iff_pairwise_ne.mpr (st.imp fun{x y} h z=>by rw[z,XN.irr] at h;cases h)
   have h2:∀c u,c≠r->H c=some u->H2 c=some u:=fun c u n e=>s2 _ _ (fr1 c u n e);have hk2:=s2 _ _ k1;have hw2:=s2 _ _ w1;have hr2:=s2 _ _ hr1;have ha2:=s2 _ _ ha1;have lz:=Paired.length po;have lzs:zs.length<=64:=by
    obtain⟨ns,l,sub⟩:=l64;have:=ndz.length_le_of_subset fun x hx=>sub x (Zi5 ((iff x).mp hx).2);omega
   have lwd:s.wd.length=s.gs.length:=by
    have:=congrArg List.length ek
    rwa [List.length_map,List.length_map] at this
   have lkv:=Paired.length pk;have nL:H L=none:=bk1 hL;have nLF:L∉F:=fun m=>by
    rcases ki L m with ⟨_,y⟩|⟨_,y⟩<;>rw[nL] at y<;>cases y
   refine⟨_,rfl,L,rfl,⟨_,SqL.of hl2⟩,YQ (xs:=us) (fun i σ H'=>∃(v3:Option V) (kv:List (Key×V)),σ=[some (.ref a),some (.int day),some (.ref L),v3]/\H' k=some (.dK kv)/\Paired (Zg7 H') (s.gs++(zs.take i).map fun r=>(r,((s.runs.length+1:Nat):Int),day)) kv/\H' wd=some (.dK (wkv (s.wd++(zs.take i).map fun r=>(r,Str.ofString "due"))))/\∀c u,c≠k->c≠wd->H2 c=some u->H' c=some u) ?_ ?_ ?_ ?_⟩
   ·exact⟨none,kvs,rfl,hk2,by rw[List.take_zero,List.map_nil,List.append_nil];exact Ja (fun b xs e=>s2 _ _ (kt1 _ _ e)) pk,by rw[List.take_zero,List.map_nil,List.append_nil];exact hw2,fun c u _ _ e=>e⟩
   ·rintro i σ H3 _ ⟨v3,kv,rfl,_,_,_,fr⟩;exact SqL.of (fr _ _ (Yj hl2 hk2 (fun z=>nomatch z)) (Yj hl2 hw2 (fun z=>nomatch z)) hl2)
   ·rintro i x σ H3 hx ⟨v3,kv,rfl,hk3,pk3,hw3,fr⟩;obtain⟨rc,erc,p,j,v5,rfl,hp,_⟩:=Zle po i x hx;have hi:i<zs.length:=(List.getElem?_eq_some_iff.mp erc).1;have tkz:zs.take (i+1)=zs.take i++[rc]:=by rw[List.take_add_one,erc];rfl
    have nin:rc∉zs.take i:=ZaW ndz erc;have ngs:rc∉s.gs.map (·.1):=((iff rc).mp (List.mem_of_getElem? erc)).1;have ha3:=fr _ _ (Yj ha2 hk2 (fun z=>nomatch z)) (Yj ha2 hw2 (fun z=>nomatch z)) ha2;have hr3:=fr _ _ nrk nrw hr2;have hp3:=fr _ _ (Yj hp hk2 (fun z=>nomatch z)) (Yj hp hw2 (fun z=>nomatch z)) hp;have l3:=Paired.length pk3;have ltk:=List.length_take_le' i zs;rw[List.length_append,List.length_map] at l3
    have nk:(YM kv (Sum.inr rc)).isSome=false:=by
     rw[Zlc pk3];refine decide_eq_false fun m=> ?_;rw[List.map_append,List.map_map] at m
     rcases List.mem_append.mp m with m|m
     ·exact ngs m
     ·obtain⟨y,hy,e⟩:=List.mem_map.mp m;exact nin (e▸hy)
    have nw:(YM (wkv (s.wd++(zs.take i).map fun r=>(r,Str.ofString "due"))) (Sum.inr rc)).isSome=false:=by
     rw[Zf3];refine decide_eq_false fun m=> ?_;rw[List.map_append,List.map_map] at m
     rcases List.mem_append.mp m with m|m
     ·exact ngs (ek▸m)
     ·obtain⟨y,hy,e⟩:=List.mem_map.mp m;exact nin (e▸hy)
    refine⟨_,rfl,a,_,dx,_,_,rfl,ha3,T.cl_House,T.n_House_run_days,Zcw ..,_,_,rfl,.inl ⟨_,SqL.of hr3,rfl⟩,_,rfl,show 2<=sizeLine by omega,fun tt htt=> ?_⟩;have s4:=Zk htt (o:=.tup [.int ((s.runs++[day]).map V.int).length,.int day]);have ht4:upd H3 tt (.tup [.int ((s.runs++[day]).map V.int).length,.int day]) tt=some (.tup [.int ((s.runs++[day]).map V.int).length,.int day]):=Zc;show ZrM _ _ _ _ (upd H3 tt (.tup [.int ((s.runs++[day]).map V.int).length,.int day])) _
    generalize upd H3 tt (.tup [.int ((s.runs++[day]).map V.int).length,.int day])=H4 at s4 ht4
    have hk4:=s4 _ _ hk3;have ha4:=s4 _ _ ha3;refine⟨_,rfl,a,_,dx,_,_,rfl,ha4,T.cl_House,T.n_House_taken,Zgf ..,ixT rfl (SqT.of (s4 _ _ hp3)) rfl ⟨k,_,rfl,Zgz.k (k:=Sum.inr rc) hk4 (by omega), ?_⟩⟩;rw[Zj6 nk];have fr5:∀c u,c≠k->H4 c=some u->upd H4 k (.dK (kv++[(Sum.inr rc,V.ref tt)])) c=some u:=fun c u n e=>by rw[Zm n];exact e
    have hk5:upd H4 k (.dK (kv++[(Sum.inr rc,V.ref tt)])) k=some (.dK (kv++[(Sum.inr rc,V.ref tt)])):=Zc;generalize upd H4 k (.dK (kv++[(Sum.inr rc,V.ref tt)]))=H5 at fr5 hk5
    have kt5:∀c xs,H4 c=some (.tup xs)->H5 c=some (.tup xs):=fun c xs e=>fr5 c _ (Yj e hk4 (fun z=>nomatch z)) e;have hw5:=fr5 _ _ (Ne.symm nkw) (s4 _ _ hw3);refine⟨_,rfl,a,_,dx,_,_,rfl,fr5 _ _ (Yj ha4 hk4 (fun z=>nomatch z)) ha4,T.cl_House,T.n_House_words,ZaA ..,ixT rfl (SqT.of (kt5 _ _ (s4 _ _ hp3))) rfl ⟨wd,_,rfl,Zgz.k (k:=Sum.inr rc) hw5 (by unfold wkv;rw[List.length_map,List.length_append,List.length_map];omega), ?_⟩⟩
    rw[Zj6 nw];have kt6:∀c xs,H5 c=some (.tup xs)->upd H5 wd (.dK (wkv (s.wd++(zs.take i).map fun r=>(r,Str.ofString "due"))++[(Sum.inr rc,V.str (Str.ofString "due"))])) c=some (.tup xs):=fun c xs e=>by rw[Zm (Yj e hw5 (fun z=>nomatch z))];exact e
    refine⟨_,_,rfl,by rw[Zm nkw];exact hk5, ?_, ?_,fun c u n1 n2 e=>by rw[Zm n2];exact fr5 _ _ n1 (s4 _ _ (fr c u n1 n2 e))⟩
    ·rw[tkz,List.map_append,<-List.append_assoc];refine Paired.snoc (Ja (fun b xs e=>kt6 _ _ (kt5 _ _ (s4 _ _ e))) pk3) ⟨tt,rfl, ?_⟩;rw[kt6 _ _ (kt5 _ _ ht4),List.length_map,List.length_append]
     rfl
    ·rw[tkz,Zc,List.map_append,<-List.append_assoc];unfold wkv;rw[List.map_append (l₁:=s.wd++_)]
     rfl
   ·rintro σ H3 ⟨v3,kv,rfl,hk3,pk3,hw3,fr⟩;rw[<-lz,List.take_length] at pk3 hw3
    refine⟨_,rfl,q L us zs H3 (fun c u m e=> ?_) ?_ nL nLF (fr _ _ (Yj hl2 hk2 (fun z=>nomatch z)) (Yj hl2 hw2 (fun z=>nomatch z)) hl2) ?_ st iff⟩
    ·rw[eF] at m
     simp only [List.mem_cons,not_or] at m
     exact fr c u m.2.2.2.2.1 m.2.2.2.2.2.1 (h2 c u m.2.2.2.1 e)
    ·exact Zkm ha hb ht ho oa hh hr' hk hw eF nd nb (fun c u n1 n2 n3 e=>fr c u n2 n3 (h2 c u n1 e)) (fr _ _ nrk nrw hr2) hk3 pk3 hw3
    ·exact JK (fun b xs e=>fr _ _ (Yj e hk2 (fun z=>nomatch z)) (Yj e hw2 (fun z=>nomatch z)) e) po
def ZdV(cn ca cl ce:Addr)(n:Nat)(C:Addr):Sp:=fun vs H Q _=>∃(a:Addr) (s:Hs) (F:List Addr),vs=[.ref a]/\0<n/\ZV cn ca cl ce C H a s F/\(∀f∈s.wd,f.2=Str.ofString "due")/\s.wd.length<=900/\∀L H',H L=none->Zy H H'->H' L=some (.lst [])->Q (.ref L) H'
theorem Zlg{cn ca cl ce C:Addr}:∀vs H Q E,¬ZdV cn ca cl ce 0 C vs H Q E:=fun _ _ _ _ ⟨_,_,_,_,z,_⟩=>Nat.lt_irrefl 0 z
theorem ZgX:ZG ["self"] ["self"] (Zw Zbs):=⟨rfl,rfl,rfl,by decide+kernel,rfl,by decide+kernel,by decide+kernel⟩
theorem ZgY{f:Addr}{fd:FuncData}(F:Fun K "regrets" "House.regrets" Zbs f fd)(T:Txt K mg Zj Zg Zh Zb Zo)(n:Nat):Yn P w K mg base CX0 (0+n+1+1) f fd ["self"] (ZdV Zj Zg Zh Zb (n+1) Zo):=by
 refine F.ok ZgX (fun vs H Q E h=> ?_) (fun cdv A outer s H vs Q E hr h=> ?_)
 ·obtain⟨a,s,F,rfl,_⟩:=h
  rfl
 ·obtain⟨a,s,F,rfl,_,⟨dx,b,t,o,h,r,k,wd,os,kvs,ha,_,_,_,_,_,_,_,_,hw,_⟩,due,lw,q⟩:=h;have l5:=YZ;have hu:=ZaJ hr;have hu3:=ZlQ hr;have lk1:(wkv s.wd).length<=sizeLine:=by
   unfold wkv;rw[List.length_map];omega
  have nf:∀o u,H wd≠some (.frz o u):=fun o u z=>by rw[hw] at z;cases z
  refine⟨_,(Zn (Zx (ZM (ZkR hu3) (by rfl) T.z_sorted Zai (Za (Zg0 (Jh ["record","word"] [("self",0)] rfl (Zis (Zir (Yi (pv 0) rfl))) (by rfl) (by exact⟨rfl,trivial⟩) (by rfl) (by exact⟨⟨rfl,rfl,rfl⟩,trivial⟩) (fun _ _ _ _=>(ZkL (K:=K) 2 rfl rfl (YC (ZK (i:=0) (show(nmY ["record","word"] [("self",0)]).Nodup by decide+kernel) rfl (Or.inl rfl) (Or.inr rfl)) (YC (ZK (i:=1) (show(nmY ["record","word"] [("self",0)]).Nodup by decide+kernel) rfl (Or.inl rfl) (Or.inr rfl)) Zdp)) rfl rfl)) (fun _ _ _ _=>(JB (Zq Znx (pv 1) ZD (Zt _)))) (fun _ _ _ _=>(Yr (Za (pv 0) (Za (Zr (Yq (K:=K) rfl) (Za9 hu (ZkU (K:=K) rfl (pv 2) rfl) (pv 0) (fun _ _=>rfl)) Zd (fun _ _=>rfl)) (Za (pv 1) Zi))))))) Zi)))), ?_⟩
  refine⟨_,rfl,a,_,dx,_,_,rfl,ha,T.cl_House,T.n_House_words,ZaA ..,wd,_,rfl,hw,fun v hv0=>⟨v,wd,_,rfl,Zc,by rw[Zm (Zf hw hv0)];exact hw,fun ob=> ?_⟩⟩
  refine Xm (wkv s.wd).length (fun _=>[]) lk1 (fun i=>Nat.zero_le _) (fun i H2 s lt=>⟨s _ _ Zc,lt⟩) (fun H2 s=>⟨s _ _ Zc,Nat.le_refl _⟩) (fun i x H2 H3 s2 lt y RT RF rt rf=> ?_) fun D H2 hD s2 d2=> ?_
  ·obtain⟨kv,p,e2,hp,e3,e4⟩:=y;subst e3 e4;obtain⟨⟨r0,w0⟩,hx0,rfl⟩:=List.mem_map.mp (List.mem_of_getElem? e2);obtain rfl:w0=Str.ofString "due":=due _ hx0;have s3:Zy H2 (upd H2 p (.tup [kV (Sum.inr r0),V.str (Str.ofString "due")])):=Zk hp;refine⟨p,_,rfl,SqT.of Zc,rfl,_,_,rfl,_,_,rfl,rfl,⟨rfl,trivial⟩,_,rfl,rfl,_,rfl, ?_⟩;rw[decide_eq_true rfl];exact ZW (rf _ rfl s3)
  ·have hva:v≠wd:=fun y=>by rw[y,hw] at hv0;cases hv0
   have hDa:D≠wd:=fun y=>by rw[y,Zc] at hD;cases hD
   have hDv:D≠v:=fun y=>by rw[y,Zm hva,Zc] at hD;cases hD
   have fs:Ziv wd (wkv s.wd) H H2:=⟨fun b u n y=>s2 b u (by rw[Zm n,Zm (Zf y hv0)];exact y),ob,s2 _ _ Zc⟩
   obtain⟨t1,t2⟩:=fs.thaw hw nf;have d3:upd H2 wd (.dK (wkv s.wd)) D=some (.lst []):=by
    rw[Zm hDa,d2]
    congr 2
    exact List.flatMap_eq_nil_iff.mpr fun _ _=>rfl
   refine⟨wd,_,t1,D,[],[],rfl,SqL.of d3,by decide,.nil,fun zs pz _ D2 hD2=> ?_⟩;obtain rfl:=List.Perm.eq_nil pz;exact q D2 _ (Xv t2 hD2) (t2.trans (Zk hD2)) Zc
theorem Zlh:(Str.ofString "abcdefghijklmnopqrstuvwxyz").length=26:=by decide+kernel
theorem Zkn{c:Bool}{A B:Prop}(hb:¬c=true->B)(ha:c=true->A):if c=true then A else B:=Yp ha hb
theorem Zrb:∀k<26,(Str.ofString "abcdefghijklmnopqrstuvwxyz").cps.toList[k]? =some (97+k):=by decide+kernel
theorem Zqg{i:Int}(h0:0<=i)(h1:i<26):atI (Str.ofString "abcdefghijklmnopqrstuvwxyz").cps.toList i=some (97+i.toNat):=by
 have l:(Str.ofString "abcdefghijklmnopqrstuvwxyz").cps.toList.length=26:=by rw[Array.length_toList];exact Zlh
 unfold atI ixN;rw[if_pos h0,l,if_pos (by omega)];exact Zrb i.toNat (by omega)
theorem Zko(f:Nat->Nat):∀l:List Nat,((l.map fun j=>(⟨#[f j]⟩:Str)).map cs).flatten=l.map f
 |[]=>rfl
 |j::l=>by
  rw[List.map_cons,List.map_cons,List.flatten_cons,Zko f l,Zpl]
  rfl
theorem Zmk(f:Nat->Nat):∀l:List Nat,((l.map fun j=>(⟨#[f j]⟩:Str)).map (·.length)).sum=l.length
 |[]=>rfl
 |j::l=>by
  rw[List.map_cons,List.map_cons,List.sum_cons,Zmk f l,List.length_cons];show 1+_=_;omega
theorem Yt:ZG ["_law_cell","_law_k","_law_letters","_law_size","_law_at","_law_way","_law_name","_law_j","_law_place"] ["_law_cell","_law_k"] (Zw ZcE):=⟨rfl,rfl,rfl,by decide+kernel,rfl,by decide+kernel,by decide+kernel⟩
theorem Zj8{f:Addr}{fd:FuncData}(F:Fun K "_law_name_by" "_law_name_by" ZcE f fd)(T:Txt K mg Zj Zg Zh Zb Zo):Yn P w K mg base CX0 1 f fd ["_law_cell","_law_k"] Ji:=by
 refine F.ok Yt (fun vs H Q E h=> ?_) (fun cdv A outer s H vs Q E hr h=> ?_)
 ·obtain⟨n,k,rfl,_⟩:=h
  rfl
 ·obtain⟨n,k,rfl,q⟩:=h;have l5:=YZ;have m1:=Int.emod_nonneg n (show(12:Int)≠0 by decide);have m2:=Int.emod_lt_of_pos n (show(0:Int)<12 by decide);have m3:=Int.emod_nonneg k (show(12:Int)≠0 by decide);have m4:=Int.emod_lt_of_pos k (show(0:Int)<12 by decide);have q:∀z:Str,cs z=Zg3 n k->∀H',Zy H H'->Q (.str z) H':=fun z e H' s=>by
   have e:z=ZbD n k:=ext (e.trans (Zg4 n k).symm);rw[e];exact q H' s
  unfold Zg3 at q
  refine⟨_,(Ze (Zz (i:=2) Yt.nd rfl (Or.inr rfl) ZD) (Ze (Zz (i:=3) Yt.nd rfl (Or.inl rfl) (ZC XM Zd (ZC Yb (pv 0) Zd))) (Ze (Zz (i:=4) Yt.nd rfl (Or.inl rfl) (ZC Yb (ZC Yv (pv 0) Zd) (pv 3))) (Ze (Zz (i:=5) Yt.nd rfl (Or.inl rfl) (ZC Yb (ZC Yv (pv 0) Zd) Zd)) (Ze (ZS (Zq ZZ (pv 5) Zd (Zt _)) (Ze (Zz (i:=3) Yt.nd rfl (Or.inl rfl) (ZC XM Zd (ZC Yb (pv 1) Zd))) (Zn (Zz (i:=4) Yt.nd rfl (Or.inl rfl) Zd))) ZF) (Ze (ZS (Zq ZZ (pv 5) Zd (Zt _)) (Zn (Zx (JG PySem.F.plainAttrs_str PySem.F.slot_str_join PySem.F.type_str_join Zoh ZD (Za (Jh ["_law_j"] [("_law_letters",2),("_law_k",1),("_law_cell",0)] rfl (ZcY rfl T.z_range (Za Zd Zi)) (by rfl) (by exact⟨rfl,⟨rfl,⟨rfl,trivial⟩⟩⟩) (by rfl) (by exact⟨⟨rfl,rfl,rfl⟩,⟨⟨rfl,rfl,rfl⟩,⟨⟨rfl,rfl,rfl⟩,trivial⟩⟩⟩) (fun _ _ _ _=>(ZK (i:=0) (show(nmY ["_law_j"] [("_law_letters",2),("_law_k",1),("_law_cell",0)]).Nodup by decide+kernel) rfl (Or.inl rfl))) (fun _ _ _ _=>Zdu) (fun _ _ _ _=>(Zr ZkC (pv 1) (ZC XM (ZC Yb (ZC XM (pv 0) (pv 2)) Zd) (ZC Yb (ZC Yv (pv 3) Zd) Zd)) (fun _ _=>rfl)))) Zi)))) ZF) (Ze (Zz (i:=6) Yt.nd rfl (Or.inl rfl) ZD) (Ze (Xw PassesOwn.never rfl (ZcY rfl T.z_range (Za (pv 3) Zi)) (ZK (i:=7) Yt.nd rfl (Or.inl rfl)) (Ze (Zz (i:=8) Yt.nd rfl (Or.inl rfl) (ZC XM (ZC XM (ZC Yv (pv 0) (ZC XM (pv 7) Zd)) (ZC ZbH (pv 7) (pv 7))) (ZC ZbH (pv 1) (JT ZcZ (by rfl) T.z_int ZgA (Za (Jz ZZ (pv 7) (pv 4) (Zt _)) Zi))))) (Zn (Zz (i:=6) Yt.nd rfl (Or.inl rfl) (ZC Zff (pv 6) (Zr ZkC (pv 2) (ZC Yb (pv 8) Zd) (fun _ _=>rfl))))))) (Zn (Zx (pv 6))))))))))), ?_⟩
  refine(vI rfl (by show(0:Int)<12;decide) ⟨_,_,rfl,rfl, ?_⟩)
  refine(vI rfl ⟨by decide,by decide⟩ ⟨_,rfl,_,_,rfl,rfl,(by show 0<1+n%12;omega), ?_⟩)
  refine(vI rfl ⟨by decide,by decide⟩ ⟨_,_,rfl,rfl,(by show(0:Int)<3;decide), ?_⟩)
  refine(fun(rest:∀σ':L2.St,(∃sz at_:Int,1<=sz/\sz<=12/\(n/144%3=0->sz=1+k%12/\at_=12)/\(¬n/144%3=0->sz=1+n%12/\at_=n/12%(1+n%12))/\σ'=[some (.int n),some (.int k),some (.str (Str.ofString "abcdefghijklmnopqrstuvwxyz")),some (.int sz),some (.int at_),some (.int (n/144%3)),none,none,none])->(_:L2.St->Hp->Prop) σ' H)=>
   ⟨_,rfl,rfl,_,rfl,Zkn (fun e=>rest _ ⟨1+n%12,_,by omega,by omega,fun z=>absurd (decide_eq_true (congrArg V.int z)) e,fun _=>⟨rfl,rfl⟩,rfl⟩) (fun e=>(vI rfl (by show(0:Int)<12;decide) ⟨_,_,rfl,rfl,rest _ ⟨1+k%12,12,by omega,by omega,fun _=>⟨rfl,rfl⟩,fun z=>absurd (by injection of_decide_eq_true e) z,rfl⟩⟩))⟩) ?rest
  case rest=>
   rintro σ' ⟨sz,at_,p1,p2,ez,enz,rfl⟩;refine⟨_,rfl,rfl,_,rfl,Yp (fun e=> ?_) (fun e=> ?_)⟩
   ·have e:n/144%3=1:=by injection of_decide_eq_true e
    rw[if_pos e] at q
    refine⟨rfl,12,rfl,by decide,by decide,Xm 12 (fun j=>[V.str ⟨#[Zeq n k j]⟩]) (by omega) (fun j=>Nat.le_refl 1) (fun j H2 s2 lt=>lt) (fun H2 s2=>Nat.le_refl _) (fun j y H2 H3 s2 lt yl RT RF rt rf=> ?_) fun D H2 hD s2 d2=> ?_⟩
    ·obtain⟨rfl,rfl⟩:=yl;have a1:=Int.emod_nonneg (0+(j:Int)+k) (show(12:Int)≠0 by decide);have a2:=Int.emod_lt_of_pos (0+(j:Int)+k) (show(0:Int)<12 by decide);have a3:=Int.emod_nonneg (n/432) (show(14:Int)≠0 by decide);have a4:=Int.emod_lt_of_pos (n/432) (show(0:Int)<14 by decide);have ec:=Zqg (i:=(0+(j:Int)+k)%12+n/432%14) (by omega) (by omega);refine⟨⟨rfl,rfl,rfl,trivial⟩,ZlO ?_⟩;refine⟨_,rfl,_,rfl,_,rfl,_,_,rfl,rfl,_,_,rfl,rfl,(by show(0:Int)<12;decide),vI rfl ⟨by decide,by decide⟩ ⟨_,_,rfl,rfl,(by show(0:Int)<14;decide),_,_,rfl,rfl,_,_,_,rfl,rfl, ?_,ec,rt _ _ ?_ (Zy.refl _)⟩⟩
     ·rw[Zlh];omega
     ·unfold Zeq;rw[show(0:Int)+(j:Int)=(j:Int) by omega]
    ·rw[Zah] at d2
     have d3:H2 D=some (.lst (((List.range 12).map fun j=>(⟨#[Zeq n k j]⟩:Str)).map V.str)):=by rw[d2,List.map_map];rfl
     refine⟨Str.empty,D,(List.range 12).map fun j=>(⟨#[Zeq n k j]⟩:Str),rfl,rfl,SqL.of d3, ?_,q _ ?_ H2 s2⟩
     ·rw[Zmk,List.length_map,List.length_range]
      decide
     ·rw[Zpw,Zko]
   ·have e:¬n/144%3=1:=fun z=>e (decide_eq_true (congrArg V.int z));rw[if_neg e] at q
    refine⟨_,rfl,_,rfl,by omega,by omega,ZjR (fun i σ H'=>∃(x:Str) (s3 s5 v v8:Option V),σ=[some (.int n),some (.int k),some (.str (Str.ofString "abcdefghijklmnopqrstuvwxyz")),s3,some (.int at_),s5,some (.str x),v,v8]/\cs x=(List.range i).map (Zd4 n k at_)/\H'=H) ?_ ?_ ?_⟩
    ·exact⟨Str.empty,_,_,none,none,rfl,rfl,rfl⟩
    ·rintro i σ H1 hi ⟨x,s3,s5,v,v8,rfl,hc,rfl⟩;have hi':(i:Int)<12:=by omega
     have lx:x.length=i:=by rw[ZmL,hc,List.length_map,List.length_range]
     have ib:Builtin.Int.intBits (0+(i:Int))<=64:=intBits_le_64 (by omega) (by omega);refine⟨_,rfl,_,rfl,_,_,rfl,rfl,_,_,rfl,rfl,⟨by omega,by omega⟩,_,rfl,_,rfl,_,_,rfl,rfl,IntMulOk.of_left ib,_,_,rfl,rfl,_,rfl,_,rfl,_,rfl,rfl,.inr ⟨_,rfl,_,_,rfl,rfl,IntMulOk.of_right (intBits_le_64 (by split<;>decide) (by split<;>decide)),_,_,rfl,rfl, ?_⟩⟩
     have ec:=Zqg (i:=(n/(0+(i:Int)+3)+(0+(i:Int))*(0+(i:Int))+k*if decide (V.int (0+(i:Int))=V.int at_)=true then 1 else 0)%26) (Int.emod_nonneg _ (by decide)) (Int.emod_lt_of_pos _ (by decide));refine⟨_,rfl,_,rfl,vI rfl (by show(0:Int)<26;decide) ⟨_,_,_,rfl,rfl, ?_,ec,_,_,rfl,rfl, ?_, ?_⟩⟩
     ·rw[Zlh];omega
     ·show x.length+1<=sizeLine;omega
     ·refine⟨_,_,_,_,_,rfl, ?_,rfl⟩;rw[ZmK,Zpl,hc,List.range_succ,List.map_append]
      congr 1
      show[97+_]=[Zd4 n k at_ i];unfold Zd4;rw[show(0:Int)+(i:Int)=(i:Int) by omega]
      by_cases z:(i:Int)=at_
      ·rw[if_pos z,if_pos (decide_eq_true (congrArg V.int z))]
      ·rw[if_neg z,if_neg (fun w=>z (by injection of_decide_eq_true w))]
    ·rintro σ H1 ⟨x,s3,s5,v,v8,rfl,hc,rfl⟩;refine⟨_,rfl,q x ?_ _ (Zy.refl _)⟩
     by_cases z:n/144%3=0
     ·obtain⟨rfl,rfl⟩:=ez z;rw[if_pos z];exact hc
     ·obtain⟨rfl,rfl⟩:=enz z;rw[if_neg z];exact hc
theorem Jf.same{H H':Hp}(s:Zy H H'):∀{t:Tr} {a:Addr},Jf H t a->Jf H' t a
 | .never,a,h=>s _ _ h
 | .after k d,a,h=>s _ _ h
 | .later x y,a,⟨p,q,h,h1,h2⟩=>⟨p,q,s _ _ h,h1.same s,h2.same s⟩
 | .earlier x y,a,⟨p,q,h,h1,h2⟩=>⟨p,q,s _ _ h,h1.same s,h2.same s⟩
theorem w1:¬V.str (Str.ofString "after")=V.str (Str.ofString "never"):=by decide+kernel
theorem w2:¬V.str (Str.ofString "later")=V.str (Str.ofString "never"):=by decide+kernel
theorem w3:¬V.str (Str.ofString "earlier")=V.str (Str.ofString "never"):=by decide+kernel
theorem w4:¬V.str (Str.ofString "later")=V.str (Str.ofString "after"):=by decide+kernel
theorem w5:¬V.str (Str.ofString "earlier")=V.str (Str.ofString "after"):=by decide+kernel
theorem w6:¬V.str (Str.ofString "earlier")=V.str (Str.ofString "later"):=by decide+kernel
theorem Zml:ZG ["_law_tree"] ["_law_tree"] (Zw Zfo):=⟨rfl,rfl,rfl,by decide+kernel,rfl,by decide+kernel,by decide+kernel⟩
theorem Zmm{f:Addr}{fd:FuncData}(F:Fun K "_law_made" "_law_made" Zfo f fd)(T:Txt K mg Zj Zg Zh Zb Zo)(n:Nat)(JL:Cal P w K mg base CX0 (3+n+1) "_law_made" ["_law_tree"] (Zba Zj Zg Zh Zb n))(Zli:Cal P w K mg base CX0 3 "after" ["kind","days"] (ZiK Zj Zg Zh Zb))(ZgZ:Cal P w K mg base CX0 3 "earlier" ["one","other"] (Zfr Zj Zg Zh Zb))(Zlj:Cal P w K mg base CX0 3 "later" ["one","other"] (ZiL Zj Zg Zh Zb))(Zlk:Cal P w K mg base CX0 1 "never" [] (ZiJ Zj Zg Zh Zb)):Yn P w K mg base CX0 (3+n+1+1) f fd ["_law_tree"] (Zba Zj Zg Zh Zb (n+1)):=by
 refine F.ok Zml (fun vs H Q E h=> ?_) (fun cdv A outer s H vs Q E hr h=> ?_)
 ·obtain⟨a,t,rfl,_⟩:=h
  rfl
 ·obtain⟨a,t,rfl,ht,hd,q⟩:=h;refine⟨_,(Ze (ZS (Zq ZZ (Zr Zu (pv 0) Zd (fun _ _=>rfl)) ZD (Zt _)) (Zn (Zx (ZrU Zlk (hr.mono (by omega)) rfl ZJ))) ZF) (Ze (ZS (Zq ZZ (Zr Zu (pv 0) Zd (fun _ _=>rfl)) ZD (Zt _)) (Zn (Zx (ZQ Zli (hr.mono (by omega)) rfl ZJ (Za (Zr Zu (pv 0) Zd (fun _ _=>rfl)) (Za (Zr Zu (pv 0) Zd (fun _ _=>rfl)) Zi))))) ZF) (Ze (ZS (Zq ZZ (Zr Zu (pv 0) Zd (fun _ _=>rfl)) ZD (Zt _)) (Zn (Zx (ZQ Zlj (hr.mono (by omega)) rfl ZJ (Za (ZQ JL (hr.mono (by omega)) rfl ZJ (Za (Zr Zu (pv 0) Zd (fun _ _=>rfl)) Zi)) (Za (ZQ JL (hr.mono (by omega)) rfl ZJ (Za (Zr Zu (pv 0) Zd (fun _ _=>rfl)) Zi)) Zi))))) ZF) (Zn (Zx (ZQ ZgZ (hr.mono (by omega)) rfl ZJ (Za (ZQ JL (hr.mono (by omega)) rfl ZJ (Za (Zr Zu (pv 0) Zd (fun _ _=>rfl)) Zi)) (Za (ZQ JL (hr.mono (by omega)) rfl ZJ (Za (Zr Zu (pv 0) Zd (fun _ _=>rfl)) Zi)) Zi)))))))), ?_⟩
  cases t with
  |never=>
   have ha:H a=some _:=ht;exact(ixT rfl (SqT.of ha) rfl ⟨rfl,_,rfl,Zb9 rfl ⟨rfl,fun p H' s _ t=>q p H' s t⟩⟩)
  |after k d=>
   have ha:H a=some _:=ht;refine(ixT rfl (SqT.of ha) rfl ⟨rfl,_,rfl,Yu w1 (ixT rfl (SqT.of ha) rfl ⟨rfl,_,rfl,Zb9 rfl ?_⟩)⟩);exact(ixT rfl (SqT.of ha) rfl (ixT rfl (SqT.of ha) rfl ⟨k,d,rfl,fun p H' s _ t=>q p H' s t⟩))
  |later x y=>
   obtain⟨p1,p2,ha,t1,t2⟩:=ht;have hdeep:max x.deep y.deep+1<n+1:=hd;refine(ixT rfl (SqT.of ha) rfl ⟨rfl,_,rfl,Yu w2 (ixT rfl (SqT.of ha) rfl ⟨rfl,_,rfl,Yu w4 (ixT rfl (SqT.of ha) rfl ⟨rfl,_,rfl,Zb9 rfl ?_⟩)⟩)⟩);refine(ixT rfl (SqT.of ha) rfl ⟨p1,x,rfl,t1,by omega,fun m1 H1 s1 tm1=> ?_⟩);refine(ixT rfl (SqT.of (s1 _ _ ha)) rfl ⟨p2,y,rfl,t2.same s1,by omega,fun m2 H2 s2 tm2=> ?_⟩);exact⟨m1,m2,x,y,rfl,tm1.same s2,tm2,fun p H3 s3 _ t3=>q p H3 (s1.trans (s2.trans s3)) t3⟩
  |earlier x y=>
   obtain⟨p1,p2,ha,t1,t2⟩:=ht;have hdeep:max x.deep y.deep+1<n+1:=hd;refine(ixT rfl (SqT.of ha) rfl ⟨rfl,_,rfl,Yu w3 (ixT rfl (SqT.of ha) rfl ⟨rfl,_,rfl,Yu w5 (ixT rfl (SqT.of ha) rfl ⟨rfl,_,rfl,Yu w6 ?_⟩)⟩)⟩);refine(ixT rfl (SqT.of ha) rfl ⟨p1,x,rfl,t1,by omega,fun m1 H1 s1 tm1=> ?_⟩);refine(ixT rfl (SqT.of (s1 _ _ ha)) rfl ⟨p2,y,rfl,t2.same s1,by omega,fun m2 H2 s2 tm2=> ?_⟩);exact⟨m1,m2,x,y,rfl,tm1.same s2,tm2,fun p H3 s3 _ t3=>q p H3 (s1.trans (s2.trans s3)) t3⟩
theorem Zsl(k:Int)(h0:0<=k)(h1:k<3):∃m u:Int,atI [V.int 40,.int 12,.int 9] k=some (.int m)/\atI [V.int 1,.int 30,.int 360] k=some (.int u)/\0<m/\m<=40/\0<=u/\u<=360:=by
 have e:k=0\/k=1\/k=2:=by omega
 rcases e with rfl|rfl|rfl
 ·exact⟨40,1,rfl,rfl,by decide,by decide,by decide,by decide⟩
 ·exact⟨12,30,rfl,rfl,by decide,by decide,by decide,by decide⟩
 ·exact⟨9,360,rfl,rfl,by decide,by decide,by decide,by decide⟩
theorem Zde:ZG ["_law_cell","_law_way"] ["_law_cell"] (Zw Zbo):=⟨rfl,rfl,rfl,by decide+kernel,rfl,by decide+kernel,by decide+kernel⟩
theorem Zh0{f:Addr}{fd:FuncData}(F:Fun K "_law_length_by" "_law_length_by" Zbo f fd)(T:Txt K mg Zj Zg Zh Zb Zo):Yn P w K mg base CX0 1 f fd ["_law_cell"] ZaO:=by
 refine F.ok Zde (fun vs H Q E h=> ?_) (fun cdv A outer s H vs Q E hr h=> ?_)
 ·obtain⟨c,rfl,_⟩:=h
  rfl
 ·obtain⟨c,rfl,q⟩:=h;have l5:=YZ;have m0:=Int.emod_nonneg c (show(4:Int)≠0 by decide);have m1:=Int.emod_lt_of_pos c (show(0:Int)<4 by decide);refine⟨_,(Ze (Zz (i:=1) Zde.nd rfl (Or.inl rfl) (ZC Yb (pv 0) Zd)) (Ze (ZS (Zq ZZ (pv 1) Zd (Zt _)) (Zn (Zx (ZC Yb (ZC ZbH (ZC Yv (pv 0) Zd) Zd) (ZC Zp0 Zd Zd)))) ZF) (Zn (Zx (ZC ZbH (ZC Yb (ZC Yv (pv 0) Zd) (Zr YJ (ZX (Za Zd (Za Zd (Za Zd Zi)))) (pv 1) (fun _ _=>rfl))) (Zr YJ (ZX (Za Zd (Za Zd (Za Zd Zi)))) (pv 1) (fun _ _=>rfl))))))), ?_⟩
  refine(vI rfl (by show(0:Int)<4;decide) (vEq rfl rfl (Yp (fun e=> ?_) (fun e=> ?_))))
  ·refine(vI rfl ⟨by decide,by decide⟩ ⟨_,_,rfl,rfl,IntMulOk.of_right (intBits_le_64 (by decide) (by decide)),_,_,rfl,rfl,ZpT (by decide) (by decide),_,_,rfl,rfl,pow_pos _, ?_⟩);have p40:(0:Int)<10^(40:Int).toNat:=pow_pos _;exact q _ H (Int.emod_nonneg _ (Int.ne_of_gt p40)) (Int.emod_lt_of_pos _ p40) (Zy.refl H)
  ·have e:¬c%4=3:=fun z=>e (decide_eq_true (by show V.int (c%4)=V.int 3;rw[z]))
   obtain⟨m,u,e1,e2,b1,b2,b3,b4⟩:=Zsl (c%4) m0 (by omega);refine(vI rfl ⟨by decide,by decide⟩ ⟨(show 3<=sizeLine from sl),fun p1 hp1=>⟨_,rfl,p1,_,_,_,rfl,rfl,SqL.of Zc,e1,_,_,rfl,rfl,b1,(show 3<=sizeLine from sl),fun p2 hp2=>⟨_,rfl,p2,_,_,_,rfl,rfl,SqL.of Zc,e2,_,_,rfl,rfl,IntMulOk.of_right (intBits_le_64 (by omega) (by omega)), ?_⟩⟩⟩);have d0:=Int.emod_nonneg (c/4) (Int.ne_of_gt b1);have d1:=Int.emod_lt_of_pos (c/4) b1
   have p:(14400:Int)<10^40:=by decide+kernel
   have z1:0<=c/4%m*u:=Int.mul_nonneg d0 b3;have z2:c/4%m*u<=40*360:=Int.mul_le_mul (by omega) b4 b3 (by decide);exact q _ _ z1 (by omega) ((Zk hp1).trans (Zk hp2))
theorem Jf.keep{H H':Hp}(s:∀b xs,H b=some (.tup xs)->H' b=some (.tup xs)):∀{t:Tr} {a:Addr},Jf H t a->Jf H' t a
 | .never,a,h=>s _ _ h
 | .after k d,a,h=>s _ _ h
 | .later x y,a,⟨p,q,h,h1,h2⟩=>⟨p,q,s _ _ h,h1.keep s,h2.keep s⟩
 | .earlier x y,a,⟨p,q,h,h1,h2⟩=>⟨p,q,s _ _ h,h1.keep s,h2.keep s⟩
structure Stk (H:Hp) (S:Addr) (ts:List (Tr×Addr)):Prop where
 at_:H S=some (.lst (ts.map fun t=>V.ref t.2))
 all:∀t∈ts,Jf H t.1 t.2
 gd:∀t∈ts,t.1.good
def Zh1(ts:List (Tr×Addr)):Nat:=(ts.map fun t=>t.1.cnt).sum
theorem Stk.same{H H':Hp}{S:Addr}{ts:List (Tr×Addr)}(h:Stk H S ts)(s:Zy H H'):Stk H' S ts:=⟨s _ _ h.at_,fun t ht=>(h.all t ht).same s,h.gd⟩
theorem two_last{α:Type}(l:List α)(h:1<l.length):∃us x y,l=us++[x,y]:=by
 have hr:l.reverse.length=l.length:=List.length_reverse;cases e:l.reverse with
 |nil=>rw[e] at hr;simp at hr;omega
 |cons y r=>
  cases r with
  |nil=>rw[e] at hr;simp at hr;omega
  |cons x r=>
   refine⟨r.reverse,x,y, ?_⟩;have:=congrArg List.reverse e
   simpa using this
theorem Zrc{α:Type}(us:List α)(y:α):(us++[y])[(us++[y]).length-1]? =some y:=by
 rw[List.length_append];simp
theorem ZoM{α:Type}(us:List α)(y:α):(us++[y]).dropLast=us:=by simp
theorem ZeB(us ts:List (Tr×Addr)):Zh1 (us++ts)=Zh1 us+Zh1 ts:=by
 unfold Zh1;rw[List.map_append,List.sum_append]
theorem Stk.push{H H':Hp}{S t:Addr}{us:List (Tr×Addr)}{z:Tr}(hu:∀u∈us,Jf H u.1 u.2)(kp:∀b xs,H b=some (.tup xs)->H' b=some (.tup xs))(hS:H' S=some (.lst (us.map (fun t=>V.ref t.2)++[.ref t])))(hz:Jf H' z t)(hg:∀u∈us,u.1.good)(gz:z.good):Stk H' S (us++[(z,t)]):=by
 refine⟨by rw[hS,List.map_append];rfl,fun u hm=> ?_,fun u hm=>(List.mem_append.mp hm).elim (hg u) fun m=>by rw[show u=(z,t) by simpa using m];exact gz⟩
 rcases List.mem_append.mp hm with m|m
 ·exact(hu u m).keep kp
 ·have e:u=(z,t):=by simpa using m
  rw[e];exact hz
theorem two_tree{H':Hp}{t:Addr}{x y:Tr×Addr}{w:Str}{z:Tr}(hx:Jf H' x.1 x.2)(hy:Jf H' y.1 y.2)(ht:H' t=some (.tup [.str w,.ref x.2,.ref y.2]))(hz:(w=Str.ofString "later"/\z=.later x.1 y.1)\/(w=Str.ofString "earlier"/\z=.earlier x.1 y.1)):
  Jf H' z t/\z.cnt=x.1.cnt+y.1.cnt/\(x.1.good->y.1.good->z.good):=by
 rcases hz with ⟨rfl,rfl⟩|⟨rfl,rfl⟩
 ·exact⟨⟨x.2,y.2,ht,hx,hy⟩,rfl,fun a b=>⟨a,b⟩⟩
 ·exact⟨⟨x.2,y.2,ht,hx,hy⟩,rfl,fun a b=>⟨a,b⟩⟩
theorem Zkp{H1:Hp}{S p t:Addr}{o1 o2 o3 o4 o5:HO}(hp:upd H1 S o1 p=none)(ht:upd (upd (upd H1 S o1) p o2) S o3 t=none):∀b u,b≠S->H1 b=some u->upd (upd (upd (upd (upd H1 S o1) p o2) S o3) t o4) S o5 b=some u:=fun b u n e=>by
 have e1:upd H1 S o1 b=some u:=by rw[Zm n];exact e
 have e2:upd (upd H1 S o1) p o2 b=some u:=by rw[Zm (Zf e1 hp)];exact e1
 have e3:upd (upd (upd H1 S o1) p o2) S o3 b=some u:=by rw[Zm n];exact e2
 rw[Zm n,Zm (Zf e3 ht)];exact e3
theorem Zqh{H1:Hp}{S t:Addr}{o3 o4 o5:HO}(ht:upd H1 S o3 t=none):upd (upd (upd H1 S o3) t o4) S o5 t=some o4:=by
 rw[Zm (Ne.symm (Zf Zc ht)),Zc]
theorem Zqi(k:Int)(h0:0<=k)(h1:k<2)(x y:Tr):∃(w:Str) (z:Tr),atI [V.str (Str.ofString "later"),.str (Str.ofString "earlier")] k=some (.str w)/\((w=Str.ofString "later"/\z=.later x y)\/(w=Str.ofString "earlier"/\z=.earlier x y)):=by
 have e:k=0\/k=1:=by omega
 rcases e with rfl|rfl
 ·exact⟨_,_,rfl,.inl ⟨rfl,rfl⟩⟩
 ·exact⟨_,_,rfl,.inr ⟨rfl,rfl⟩⟩
theorem Zsm:Nm (Str.ofString "put"):=by
 exact⟨by decide+kernel,by decide+kernel,by decide+kernel⟩
theorem Zsn(z:Str)(b:Bool)(hz:Nm z):∃w:Str,Nm w/\atI [V.str z,.str (Str.ofString "put")] (if b=true then 1 else 0)=some (.str w):=by
 cases b
 ·exact⟨z,hz,rfl⟩
 ·exact⟨_,Zsm,rfl⟩
theorem Zj9:∀l:List (Tr×Addr),l.length<=Zh1 l
 |[]=>Nat.zero_le _
 |t::r=>by
  have:=t.1.deep_cnt;have:=Zj9 r;show r.length+1<=t.1.cnt+Zh1 r;omega
theorem Zrd{S:Addr}{H:Hp}{Q:VK}{us:List V}{y:V}(h:H S=some (.lst (us++[y])))(q:Q y (upd H S (.lst us))):ZsJ (.ref S) [] H Q:=⟨S,_,y,rfl,rfl,h,Zrc us y,by rw[ZoM];exact q⟩
theorem Xk:ZG ["_law_cells","_law_names_by","_law_most","_law_some","_law_many","_law_cell","_law_other","_law_kind"] ["_law_cells","_law_names_by","_law_most"] (Zw ZcF):=⟨rfl,rfl,rfl,by decide+kernel,rfl,by decide+kernel,by decide+kernel⟩
theorem Zja{f:Addr}{fd:FuncData}(F:Fun K "_law_tree_by" "_law_tree_by" ZcF f fd)(T:Txt K mg Zj Zg Zh Zb Zo)(Zbu:Cal P w K mg base CX0 1 "_law_length_by" ["_law_cell"] ZaO)(Yo:Cal P w K mg base CX0 1 "_law_name_by" ["_law_cell","_law_k"] Ji):Yn P w K mg base CX0 2 f fd ["_law_cells","_law_names_by","_law_most"] Zc8:=by
 refine F.ok Xk (fun vs H Q E h=> ?_) (fun cdv A outer s H vs Q E hr h=> ?_)
 ·obtain⟨a,ns,b,mo,rfl,_⟩:=h
  rfl
 ·obtain⟨a,ns,b,mo,rfl,ha,hn,lo,hi_,q⟩:=h;have l5:=YZ;have hu3:=ZlQ hr;refine⟨_,(Ze (Zz (i:=3) Xk.nd rfl (Or.inl rfl) (ZX Zi)) (Ze (Zz (i:=4) Xk.nd rfl (Or.inl rfl) Zd) (Ze (Xw PassesOwn.never rfl (Yg (pv 0)) (ZK (i:=5) Xk.nd rfl (Or.inl rfl)) (Zn (ZS (PW.pt (Xb (Zq Ze9 (ZC Yb (pv 5) Zd) Zd (Zt _)) (YT (Zq Zhh (ZM Js (by rfl) T.z_len Zbm (Za (pv 3) Zi)) Zd (Zt _))))) (Ze (Zz (i:=6) Xk.nd rfl (Or.inl rfl) (Zii PySem.F.plainAttrs_list PySem.F.slot_list_pop PySem.F.type_list_pop ZkF (pv 3))) (Zn (YB (JG PySem.F.plainAttrs_list PySem.F.slot_list_append PySem.F.type_list_append Yk (pv 3) (Za (Yr (Za (Zr YJ (ZX (Za ZD (Za ZD Zi))) (ZC Yb (pv 5) Zd) (fun _ _=>rfl)) (Za (Zii PySem.F.plainAttrs_list PySem.F.slot_list_pop PySem.F.type_list_pop ZkF (pv 3)) (Za (pv 6) Zi)))) Zi))))) (Zn (ZS (Zq Ze9 (pv 4) (pv 2) (Zt _)) (Ze (Zz (i:=4) Xk.nd rfl (Or.inl rfl) (ZC XM (pv 4) Zd)) (Zn (ZS (Zq ZZ (ZC Yb (ZC Yv (pv 5) Zd) Zd) Zd (Zt _)) (Zn (YB (JG PySem.F.plainAttrs_list PySem.F.slot_list_append PySem.F.type_list_append Yk (pv 3) (Za (Yr (Za ZD Zi)) Zi)))) (Ze (Zz (i:=7) Xk.nd rfl (Or.inl rfl) (ZQ Yo (hr.mono (by omega)) rfl ZJ (Za (pv 1) (Za (ZC Yb (ZC Yv (pv 5) Zd) Zd) Zi)))) (Zn (YB (JG PySem.F.plainAttrs_list PySem.F.slot_list_append PySem.F.type_list_append Yk (pv 3) (Za (Yr (Za ZD (Za (Zr YJ (ZX (Za (pv 7) (Za ZD Zi))) (JT ZcZ (by rfl) T.z_int ZgA (Za (Jz ZZ (ZC Yb (ZC Yv (pv 5) Zd) Zd) Zd (Zt _)) Zi)) (fun _ _=>rfl)) (Za (ZQ Zbu (hr.mono (by omega)) rfl ZJ (Za (ZC Yv (pv 5) Zd) Zi)) Zi)))) Zi)))))))) ZF))))) (Ze (ZS (Zq (Zpz hu3) (pv 3) (ZX Zi) (Zt _)) (Zn (Zx (Yr (Za ZD Zi)))) ZF) (Ze (ZlH PassesOwn.never (Zq Zhh (ZM Js (by rfl) T.z_len Zbm (Za (pv 3) Zi)) Zd (Zt _)) (Ze (Zz (i:=6) Xk.nd rfl (Or.inl rfl) (Zii PySem.F.plainAttrs_list PySem.F.slot_list_pop PySem.F.type_list_pop ZkF (pv 3))) (Zn (YB (JG PySem.F.plainAttrs_list PySem.F.slot_list_append PySem.F.type_list_append Yk (pv 3) (Za (Yr (Za (Zr YJ (ZX (Za ZD (Za ZD Zi))) (ZC Yb (ZM Js (by rfl) T.z_len Zbm (Za (pv 3) Zi)) Zd) (fun _ _=>rfl)) (Za (Zii PySem.F.plainAttrs_list PySem.F.slot_list_pop PySem.F.type_list_pop ZkF (pv 3)) (Za (pv 6) Zi)))) Zi)))))) (Zn (Zx (Zr YJ (pv 3) Zd (fun _ _=>rfl))))))))), ?_⟩
  refine⟨Nat.zero_le _,fun S hS=>⟨_,rfl,a,rfl,⟨_,SqL.of (Zk hS _ _ ha)⟩,YQ (xs:=ns.map V.int) (fun i σ H'=>∃(ts:List (Tr×Addr)) (m:Nat) (v5 v6 v7:Option V),σ=[some (.ref a),some (.int b),some (.int (mo:Int)),some (.ref S),some (.int (m:Int)),v5,v6,v7]/\Stk H' S ts/\Zh1 ts=m/\m<=mo/\Zy H H') ?_ ?_ ?_ ?_⟩⟩
  ·exact⟨[],0,none,none,none,rfl,⟨Zc,(fun t ht=>nomatch ht),fun t ht=>nomatch ht⟩,rfl,Nat.zero_le _,Zk hS⟩
  ·rintro i σ H1 _ ⟨ts,m,v5,v6,v7,rfl,st,hc,hm,s1⟩;exact SqL.of (s1 _ _ ha)
  ·rintro i x σ H1 hx ⟨ts,m,v5,v6,v7,rfl,st,hc,hm,s1⟩;obtain⟨c,rfl⟩:∃c,x=V.int c:=by
    rw[List.getElem?_map] at hx
    cases q:ns[i]? with
    |none=>rw[q] at hx;cases hx
    |some c=>rw[q] at hx;cases hx;exact⟨c,rfl⟩
   have lts:ts.length<=mo:=by
    have:=Zj9 ts;omega
   have c0:=Int.emod_nonneg c (show(5:Int)≠0 by decide);refine(vI rfl (by show(0:Int)<5;decide) ⟨_,_,rfl,rfl,_,rfl, ?_⟩)
   refine(fun both=>Yp (fun e1=>⟨_,rfl,_,_,rfl,.inl ⟨_,SqL.of st.at_,rfl⟩,_,_,rfl,rfl,_,rfl,Yp (fun e2=> ?b1) (fun e2=>both)⟩) (fun e1=>ZW both)) ?b2
   case b1=>
    have e1:c%5<2:=of_decide_eq_true e1;have e2:(1:Int)<(((ts.map fun t=>V.ref t.2).length:Nat):Int):=of_decide_eq_true e2;rw[List.length_map] at e2
    obtain⟨us,x,y,rfl⟩:=two_last ts (by omega);obtain⟨w,z,ew,hz⟩:=Zqi (c%5) c0 e1 x.1 y.1;have A1:H1 S=some (.lst ((us++[x]).map (fun t=>V.ref t.2)++[V.ref y.2])):=by rw[st.at_];simp
    refine⟨_,rfl,.inl ⟨rfl,_,SqL.of A1⟩,Zrd A1 ?_⟩;refine⟨_,rfl,.inl ⟨rfl,_,SqL.of Zc⟩,(show 2<=sizeLine from sl),fun p hp=> ?_⟩;have nSp:S≠p:=Zf Zc hp;have A2:upd (upd H1 S (.lst ((us++[x]).map fun t=>V.ref t.2))) p (.lst [.str (Str.ofString "later"),.str (Str.ofString "earlier")]) S=some (.lst (us.map (fun t=>V.ref t.2)++[V.ref x.2])):=by rw[Zm nSp,Zc];simp
    refine(vI rfl (by show(0:Int)<5;decide) ⟨p,_,_,_,rfl,rfl,SqL.of Zc,ew,_,rfl,.inl ⟨rfl,_,SqL.of A2⟩,Zrd A2 ?_⟩)
    refine⟨_,rfl,(show 3<=sizeLine from sl),fun t ht=> ?_⟩;have nSt:S≠t:=Zf Zc ht;refine⟨S,_,V.ref t,rfl,rfl,by rw[Zm nSt];exact Zc, ?_, ?_⟩
    ·rw[List.length_map];have:(us++[x,y]).length=us.length+2:=by simp
     omega
    ·have kp:=Zkp (o1:=.lst ((us++[x]).map fun t=>V.ref t.2)) (o2:=.lst [.str (Str.ofString "later"),.str (Str.ofString "earlier")]) (o3:=.lst (us.map fun t=>V.ref t.2)) (o4:=.tup [.str w,.ref x.2,.ref y.2]) (o5:=.lst (us.map (fun t=>V.ref t.2)++[.ref t])) hp ht;have kt:∀b xs,H1 b=some (.tup xs)->_:=fun b xs e=>kp b _ (Yj e st.at_ (fun z=>nomatch z)) e;obtain⟨tz,cz,gz⟩:=two_tree ((st.all x (by simp)).keep kt) ((st.all y (by simp)).keep kt) (Zqh ht) hz
     refine⟨us++[(z,t)],m,_,_,_,rfl,Stk.push (fun u hu=>st.all u (List.mem_append_left _ hu)) kt Zc tz (fun u hu=>st.gd u (List.mem_append_left _ hu)) (gz (st.gd x (by simp)) (st.gd y (by simp))), ?_,hm,fun b u e=>kp b u (Zf e hS) (s1 b u e)⟩;rw[<-hc,ZeB,ZeB];show Zh1 us+(z.cnt+0)=Zh1 us+(x.1.cnt+(y.1.cnt+0));omega
   case b2=>
    refine⟨_,rfl,_,rfl,_,_,rfl,rfl,_,rfl,Yp (fun e3=> ?_) (fun e3=>⟨ts,m,_,_,_,rfl,st,hc,hm,s1⟩)⟩;have e3:(m:Int)<(mo:Int):=of_decide_eq_true e3;refine⟨_,rfl,_,_,rfl,rfl,vI rfl ⟨by decide,by decide⟩ ⟨_,_,rfl,rfl,(by show(0:Int)<11;decide),rfl,_,rfl,Yp (fun _=> ?_) (fun _=> ?_)⟩⟩
    ·refine⟨_,rfl,.inl ⟨rfl,_,SqL.of st.at_⟩,(show 1<=sizeLine from sl),fun t ht=> ?_⟩;have nSt:S≠t:=Zf st.at_ ht;refine⟨S,_,V.ref t,rfl,rfl,by rw[Zm nSt];exact st.at_,(by rw[List.length_map];omega), ?_⟩
     have kp:∀b u,b≠S->H1 b=some u->upd (upd H1 t (.tup [.str (Str.ofString "never")])) S (.lst (ts.map (fun t=>V.ref t.2)++[.ref t])) b=some u:=fun b u n e=>by
      rw[Zm n,Zm (Zf e ht)];exact e
     refine⟨ts++[(.never,t)],m+1,_,_,_,rfl,Stk.push st.all (fun b xs e=>kp b _ (Yj e st.at_ (fun z=>nomatch z)) e) Zc ?_ st.gd trivial, ?_,by omega,fun b u e=>kp b u (Zf e hS) (s1 b u e)⟩
     ·show upd _ S _ t=_;rw[Zm (Ne.symm nSt),Zc]
     ·rw[ZeB,hc]
      rfl
    ·refine⟨_,rfl,vI rfl ⟨by decide,by decide⟩ ⟨_,_,rfl,rfl,(by show(0:Int)<6;decide),_,_,rfl,fun H2 s2=> ?_⟩⟩
     have nz:=Zm0 b (c/5%6);have st2:=st.same s2;refine⟨_,rfl,.inl ⟨rfl,_,SqL.of st2.at_⟩,_,rfl,(show 2<=sizeLine from sl),fun p hp=> ?_⟩;obtain⟨w,nw,ew⟩:=Zsn (ZbD b (c/5%6)) (decide (V.int (c/5%9)=V.int 4)) nz;refine(vI rfl ⟨by decide,by decide⟩ ⟨_,_,rfl,rfl,(by show(0:Int)<9;decide),rfl,.inr ⟨_,rfl,p,_,_,_,rfl,rfl,SqL.of Zc,ew, ?_⟩⟩)
     refine(vI rfl ⟨by decide,by decide⟩ ⟨_,rfl,fun d H4 d0 d1 s4=>⟨show 3<=sizeLine from sl,fun t ht=> ?_⟩⟩);have s24:=s2.trans ((Zk hp).trans s4);have st4:=st.same s24;have nSt:S≠t:=Zf st4.at_ ht;refine⟨S,_,V.ref t,rfl,rfl,by rw[Zm nSt];exact st4.at_,(by rw[List.length_map];omega), ?_⟩
     have kp:∀b u,b≠S->H4 b=some u->upd (upd H4 t (.tup [.str (Str.ofString "after"),.str w,.int d])) S (.lst (ts.map (fun t=>V.ref t.2)++[.ref t])) b=some u:=fun b u n e=>by
      rw[Zm n,Zm (Zf e ht)];exact e
     refine⟨ts++[(.after w d,t)],m+1,_,_,_,rfl,Stk.push st4.all (fun b xs e=>kp b _ (Yj e st4.at_ (fun z=>nomatch z)) e) Zc ?_ st4.gd ⟨nw,d0,d1⟩, ?_,by omega,fun b u e=>kp b u (Zf e hS) (s24 _ _ (s1 b u e))⟩
     ·show upd _ S _ t=_;rw[Zm (Ne.symm nSt),Zc]
     ·rw[ZeB,hc]
      rfl
  ·rintro σ H1 ⟨ts,m,v5,v6,v7,rfl,st,hc,hm,s1⟩;refine⟨_,rfl,Nat.zero_le _,fun D hD=>⟨S,D,_,rfl,rfl,SqL.of (Zk hD _ _ st.at_),SqL.of Zc,_,rfl,Yp (fun e=> ?_) (fun e=> ?_)⟩⟩
   ·exact⟨show 1<=sizeLine from sl,fun p hp=>q p .never _ (s1.trans ((Zk hD).trans (Zk hp))) Zc lo trivial⟩
   ·have ne:ts≠[]:=fun z=>e (decide_eq_true (by rw[z];rfl))
    refine⟨fun k σ H'=>∃(us:List (Tr×Addr)) (v5 v6 v7:Option V),σ=[some (.ref a),some (.int b),some (.int (mo:Int)),some (.ref S),some (.int (m:Int)),v5,v6,v7]/\Stk H' S us/\us≠[]/\Zh1 us<=mo/\k=us.length/\Zy H H',⟨ts.length,ts,v5,v6,v7,rfl,st.same (Zk hD),ne,by omega,rfl,s1.trans (Zk hD)⟩, ?_⟩;rintro k σ H2 ⟨us,v5,v6,v7,rfl,st2,ne2,hc2,rfl,s2⟩;refine⟨_,rfl,_,_,rfl,.inl ⟨_,SqL.of st2.at_,rfl⟩,_,_,rfl,rfl,_,rfl,Yp (fun e=> ?_) (fun e=> ?_)⟩
    ·have e:(1:Int)<(((us.map fun t=>V.ref t.2).length:Nat):Int):=of_decide_eq_true e;rw[List.length_map] at e
     refine⟨fun σ' H'=>∃(us':List (Tr×Addr)) (v5 v6 v7:Option V),σ'=[some (.ref a),some (.int b),some (.int (mo:Int)),some (.ref S),some (.int (m:Int)),v5,v6,v7]/\Stk H' S us'/\us'≠[]/\Zh1 us'<=mo/\us'.length<us.length/\Zy H H',
      fun σ' H' ⟨us',w5,w6,w7,e',st',ne',hc',hl',s'⟩=>⟨us'.length,hl',us',w5,w6,w7,e',st',ne',hc',rfl,s'⟩, ?_⟩
     obtain⟨vs,x,y,rfl⟩:=two_last us (by omega);have lv:(vs++[x,y]).length=vs.length+2:=by simp
     have lv2:vs.length<=1000:=by
      have:=Zj9 (vs++[x,y]);omega
     obtain⟨w,z,ew,hz⟩:=Zqi ((((((vs++[x]).map fun t=>V.ref t.2).length:Nat):Int))%2) (Int.emod_nonneg _ (by decide)) (Int.emod_lt_of_pos _ (by decide)) x.1 y.1;have A1:H2 S=some (.lst ((vs++[x]).map (fun t=>V.ref t.2)++[V.ref y.2])):=by rw[st2.at_];simp
     refine⟨_,rfl,.inl ⟨rfl,_,SqL.of A1⟩,Zrd A1 ?_⟩;refine⟨_,rfl,.inl ⟨rfl,_,SqL.of Zc⟩,(show 2<=sizeLine from sl),fun p hp=> ?_⟩;have nSp:S≠p:=Zf Zc hp;have A2:upd (upd H2 S (.lst ((vs++[x]).map fun t=>V.ref t.2))) p (.lst [.str (Str.ofString "later"),.str (Str.ofString "earlier")]) S=some (.lst ((vs++[x]).map (fun t=>V.ref t.2))):=by rw[Zm nSp,Zc]
     have A3:upd (upd H2 S (.lst ((vs++[x]).map fun t=>V.ref t.2))) p (.lst [.str (Str.ofString "later"),.str (Str.ofString "earlier")]) S=some (.lst (vs.map (fun t=>V.ref t.2)++[V.ref x.2])):=by rw[A2];simp
     refine⟨_,rfl,_,_,rfl,.inl ⟨_,SqL.of A2,rfl⟩,_,_,rfl,rfl,(by show(0:Int)<2;decide),p,_,_,_,rfl,rfl,SqL.of Zc,ew,_,rfl,.inl ⟨rfl,_,SqL.of A3⟩,Zrd A3 ?_⟩
     refine⟨_,rfl,(show 3<=sizeLine from sl),fun t ht=> ?_⟩;have nSt:S≠t:=Zf Zc ht;refine⟨S,_,V.ref t,rfl,rfl,by rw[Zm nSt];exact Zc,(by rw[List.length_map];omega), ?_⟩
     have kp:=Zkp (o1:=.lst ((vs++[x]).map fun t=>V.ref t.2)) (o2:=.lst [.str (Str.ofString "later"),.str (Str.ofString "earlier")]) (o3:=.lst (vs.map fun t=>V.ref t.2)) (o4:=.tup [.str w,.ref x.2,.ref y.2]) (o5:=.lst (vs.map (fun t=>V.ref t.2)++[.ref t])) hp ht;have kt:∀b xs,H2 b=some (.tup xs)->_:=fun b xs e=>kp b _ (Yj e st2.at_ (fun z=>nomatch z)) e;obtain⟨tz,cz,gz⟩:=two_tree ((st2.all x (by simp)).keep kt) ((st2.all y (by simp)).keep kt) (Zqh ht) hz
     refine⟨vs++[(z,t)],_,_,_,rfl,Stk.push (fun u hu=>st2.all u (List.mem_append_left _ hu)) kt Zc tz (fun u hu=>st2.gd u (List.mem_append_left _ hu)) (gz (st2.gd x (by simp)) (st2.gd y (by simp))),by simp, ?_,by rw[lv,List.length_append];show vs.length+1<_;omega,fun b u e=>kp b u (Zf e hS) (s2 b u e)⟩
     rw[ZeB] at hc2⊢
     have h2:Zh1 vs+(x.1.cnt+(y.1.cnt+0))<=mo:=hc2;show Zh1 vs+(z.cnt+0)<=mo;omega
    ·have e:¬(1:Int)<(((us.map fun t=>V.ref t.2).length:Nat):Int):=fun z=>e (decide_eq_true z);rw[List.length_map] at e
     obtain⟨t,rfl⟩:∃t,us=[t]:=by
      cases us with
      |nil=>exact absurd rfl ne2
      |cons t r=>
       cases r with
       |nil=>exact⟨t,rfl⟩
       |cons u r=>simp only [List.length_cons] at e;omega
     refine⟨_,rfl,S,_,_,V.ref t.2,rfl,rfl,SqL.of st2.at_,rfl,q t.2 t.1 H2 s2 (st2.all t (by simp)) ?_ (st2.gd t (by simp))⟩;have h2:t.1.cnt+0<=mo:=hc2;omega
theorem Zll:ZG ["self","life"] ["self","life"] (Zw Zem):=⟨rfl,rfl,rfl,by decide+kernel,rfl,by decide+kernel,by decide+kernel⟩
theorem Zlm{f:Addr}{fd:FuncData}(F:Fun K "due" "Never.due" Zem f fd)(T:Txt K mg Zj Zg Zh Zb Zo)(n:Nat):Yn P w K mg base CX0 (0+n+1+1) f fd ["self","life"] (ZcK Zj Zg Zh Zb (n+1) Zj):=by
 refine F.ok Zll (fun vs H Q E h=> ?_) (fun cdv A outer s H vs Q E hr h=> ?_)
 ·obtain⟨a,b,t,l,rfl,_⟩:=h
  rfl
 ·obtain⟨a,b,t,l,rfl,ht,hd,hC,hb,q⟩:=h;refine⟨_,(Zn (Zx Yz)), ?_⟩;cases t with
  |never=>exact q H (Zy.refl H)
  |after k d=>exact absurd hC.symm T.ne_Never_After
  |later x y=>exact absurd hC.symm T.ne_Never_Later
  |earlier x y=>exact absurd hC.symm T.ne_Never_Earlier
theorem Zln:ZG ["self","life"] ["self","life"] (Zw Zen):=⟨rfl,rfl,rfl,by decide+kernel,rfl,by decide+kernel,by decide+kernel⟩
theorem Zlo{f:Addr}{fd:FuncData}(F:Fun K "due" "After.due" Zen f fd)(T:Txt K mg Zj Zg Zh Zb Zo)(n:Nat):Yn P w K mg base CX0 (0+n+1+1) f fd ["self","life"] (ZcK Zj Zg Zh Zb (n+1) Zg):=by
 refine F.ok Zln (fun vs H Q E h=> ?_) (fun cdv A outer s H vs Q E hr h=> ?_)
 ·obtain⟨a,b,t,l,rfl,_⟩:=h
  rfl
 ·obtain⟨a,b,t,l,rfl,ht,hd,hC,hb,q⟩:=h;have hu:=ZaJ hr;cases t with
  |never=>exact absurd hC T.ne_Never_After
  |later x y=>exact absurd hC.symm T.ne_After_Later
  |earlier x y=>exact absurd hC.symm T.ne_After_Earlier
  |after k d=>
   obtain⟨dx,ha⟩:=ht;have hg:=ZcO hb k;refine⟨_,(Ze (ZS (Zdo (Zd1 hu (Yi (pv 0) rfl) (pv 1))) (Zn (Zx Yz)) ZF) (Zn (Zx (ZC XM (Za9 hu (pv 1) (Yi (pv 0) rfl) (fun _ _=>rfl)) (Yi (pv 0) rfl))))), ?_⟩;refine⟨_,rfl,a,_,dx,_,_,rfl,ha,T.cl_After,T.n_After_kind,ZkZ k d,_,rfl,b,_,rfl,hg,_,rfl, ?_⟩;rw[ZdL];have q1:=q H (Zy.refl H);unfold Tr.due at q1
   cases ev:lk l k with
   |none=>
    rw[ev] at q1
    exact XX q1
   |some u=>
    rw[ev] at q1 hg
    exact ZW ⟨_,rfl,_,rfl,a,_,dx,_,_,rfl,ha,T.cl_After,T.n_After_kind,ZkZ k d,b,_,rfl,hg,_,rfl,a,_,dx,_,_,rfl,ha,T.cl_After,T.n_After_days,ZnI k d,_,_,rfl,rfl,q1⟩
theorem ZdW:ZG ["self","life","one_day","other_day"] ["self","life"] (Zw Zeo):=⟨rfl,rfl,rfl,by decide+kernel,rfl,by decide+kernel,by decide+kernel⟩
theorem Zlp{f:Addr}{fd:FuncData}(F:Fun K "due" "Later.due" Zeo f fd)(T:Txt K mg Zj Zg Zh Zb Zo)(n:Nat)(Ze6:Zap P w K mg base CX0 (0+n+1) "due" ["self","life"] (ZcK Zj Zg Zh Zb n) (fun C=>C=Zj\/C=Zg\/C=Zh\/C=Zb)):Yn P w K mg base CX0 (0+n+1+1) f fd ["self","life"] (ZcK Zj Zg Zh Zb (n+1) Zh):=by
 refine F.ok ZdW (fun vs H Q E h=> ?_) (fun cdv A outer s H vs Q E hr h=> ?_)
 ·obtain⟨a,b,t,l,rfl,_⟩:=h
  rfl
 ·obtain⟨a,b,t,l,rfl,ht,hd,hC,hb,q⟩:=h;cases t with
  |never=>exact absurd hC T.ne_Never_Later
  |after k d=>exact absurd hC T.ne_After_Later
  |earlier x y=>exact absurd hC.symm T.ne_Later_Earlier
  |later x y=>
   obtain⟨dx,p1,p2,ha,t1,t2⟩:=ht;obtain⟨dx1,f1,i1,l1⟩:=Zd7 t1;obtain⟨n1,n2,n3,n4⟩:=ZnJ "due" (.inl rfl);have hdeep:max x.deep y.deep+1<n+1:=hd;refine⟨_,(Ze (Zz (i:=2) ZdW.nd rfl (Or.inl rfl) (Zau (Yi (pv 0) rfl) Ze6 (hr.mono (by omega)) ZJ (Za (pv 1) Zi))) (Ze (Zz (i:=3) ZdW.nd rfl (Or.inl rfl) (Zau (Yi (pv 0) rfl) Ze6 (hr.mono (by omega)) ZJ (Za (pv 1) Zi))) (Ze (ZS (PW.pt (Zb5 (Zq ZbV (pv 2) Yz (Zt _)) (ZbS (Zq ZbV (pv 3) Yz (Zt _))))) (Zn (Zx Yz)) ZF) (Zn (Zx (ZM (Zgv rfl) (by rfl) T.z_max Zip (Za (pv 2) (Za (pv 3) Zi)))))))), ?_⟩
   refine⟨_,rfl,a,_,dx,_,_,rfl,ha,T.cl_Later,T.n_Later_one,Zl0 p1 p2,p1,_,dx1,f1,rfl,i1,Zfu x,l1 _ n1 n2 n3 n4,_,rfl,p1,b,x,l,rfl,t1,by omega,rfl,hb,fun H2 s2=> ?_⟩;obtain⟨dx2,f2,i2,l2⟩:=Zd7 (t2.same s2);refine⟨_,rfl,a,_,dx,_,_,rfl,s2 _ _ ha,T.cl_Later,T.n_Later_other,Zg8 p1 p2,p2,_,dx2,f2,rfl,i2,Zfu y,l2 _ n1 n2 n3 n4,_,rfl,p2,b,y,l,rfl,t2.same s2,by omega,rfl,ZhZ s2 hb,fun H3 s3=> ?_⟩;have q1:=q H3 (s2.trans s3)
   unfold Tr.due at q1
   cases e1:x.due l with
   |none=>
    rw[e1] at q1
    exact⟨_,rfl,rfl,_,rfl,XX (XX q1)⟩
   |some i=>
    cases e2:y.due l with
    |none=>
     rw[e1,e2] at q1
     exact⟨_,rfl,rfl,_,rfl,ZW ⟨_,rfl,rfl,_,rfl,XX q1⟩⟩
    |some j=>
     rw[e1,e2] at q1
     exact⟨_,rfl,rfl,_,rfl,ZW ⟨_,rfl,rfl,_,rfl,ZW ⟨_,rfl,_,rfl,i,j,rfl,q1⟩⟩⟩
theorem Zci:ZG ["self","life","one_day","other_day"] ["self","life"] (Zw ZcI):=⟨rfl,rfl,rfl,by decide+kernel,rfl,by decide+kernel,by decide+kernel⟩
theorem Zjb{f:Addr}{fd:FuncData}(F:Fun K "due" "Earlier.due" ZcI f fd)(T:Txt K mg Zj Zg Zh Zb Zo)(n:Nat)(Ze6:Zap P w K mg base CX0 (0+n+1) "due" ["self","life"] (ZcK Zj Zg Zh Zb n) (fun C=>C=Zj\/C=Zg\/C=Zh\/C=Zb)):Yn P w K mg base CX0 (0+n+1+1) f fd ["self","life"] (ZcK Zj Zg Zh Zb (n+1) Zb):=by
 refine F.ok Zci (fun vs H Q E h=> ?_) (fun cdv A outer s H vs Q E hr h=> ?_)
 ·obtain⟨a,b,t,l,rfl,_⟩:=h
  rfl
 ·obtain⟨a,b,t,l,rfl,ht,hd,hC,hb,q⟩:=h;cases t with
  |never=>exact absurd hC T.ne_Never_Earlier
  |after k d=>exact absurd hC T.ne_After_Earlier
  |later x y=>exact absurd hC T.ne_Later_Earlier
  |earlier x y=>
   obtain⟨dx,p1,p2,ha,t1,t2⟩:=ht;obtain⟨dx1,f1,i1,l1⟩:=Zd7 t1;obtain⟨n1,n2,n3,n4⟩:=ZnJ "due" (.inl rfl);have hdeep:max x.deep y.deep+1<n+1:=hd;refine⟨_,(Ze (Zz (i:=2) Zci.nd rfl (Or.inl rfl) (Zau (Yi (pv 0) rfl) Ze6 (hr.mono (by omega)) ZJ (Za (pv 1) Zi))) (Ze (Zz (i:=3) Zci.nd rfl (Or.inl rfl) (Zau (Yi (pv 0) rfl) Ze6 (hr.mono (by omega)) ZJ (Za (pv 1) Zi))) (Ze (ZS (Zq ZbV (pv 2) Yz (Zt _)) (Zn (Zx (pv 3))) ZF) (Ze (ZS (Zq ZbV (pv 3) Yz (Zt _)) (Zn (Zx (pv 2))) ZF) (Zn (Zx (ZM (Zo9 rfl) (by rfl) T.z_min Zpj (Za (pv 2) (Za (pv 3) Zi))))))))), ?_⟩
   refine⟨_,rfl,a,_,dx,_,_,rfl,ha,T.cl_Earlier,T.n_Earlier_one,Zl0 p1 p2,p1,_,dx1,f1,rfl,i1,Zfu x,l1 _ n1 n2 n3 n4,_,rfl,p1,b,x,l,rfl,t1,by omega,rfl,hb,fun H2 s2=> ?_⟩;obtain⟨dx2,f2,i2,l2⟩:=Zd7 (t2.same s2);refine⟨_,rfl,a,_,dx,_,_,rfl,s2 _ _ ha,T.cl_Earlier,T.n_Earlier_other,Zg8 p1 p2,p2,_,dx2,f2,rfl,i2,Zfu y,l2 _ n1 n2 n3 n4,_,rfl,p2,b,y,l,rfl,t2.same s2,by omega,rfl,ZhZ s2 hb,fun H3 s3=> ?_⟩;have q1:=q H3 (s2.trans s3)
   unfold Tr.due at q1
   cases e1:x.due l with
   |none=>
    rw[e1] at q1
    exact⟨_,rfl,rfl,_,rfl,XX ⟨_,rfl,q1⟩⟩
   |some i=>
    cases e2:y.due l with
    |none=>
     rw[e1,e2] at q1
     exact⟨_,rfl,rfl,_,rfl,ZW ⟨_,rfl,rfl,_,rfl,XX ⟨_,rfl,q1⟩⟩⟩
    |some j=>
     rw[e1,e2] at q1
     exact⟨_,rfl,rfl,_,rfl,ZW ⟨_,rfl,rfl,_,rfl,ZW ⟨_,rfl,_,rfl,i,j,rfl,q1⟩⟩⟩
theorem Zmn(i j:Int):(if i<j then i else j)=(if j<i then j else i):=by split<;>split<;>omega
theorem ZfE:ZG ["_law_tree","_law_life_here","_law_left","_law_right"] ["_law_tree","_law_life_here"] (Zw ZgL):=⟨rfl,rfl,rfl,by decide+kernel,rfl,by decide+kernel,by decide+kernel⟩
theorem Zni{f:Addr}{fd:FuncData}(F:Fun K "_law_due" "_law_due" ZgL f fd)(T:Txt K mg Zj Zg Zh Zb Zo)(n:Nat)(ZbQ:Cal P w K mg base CX0 (0+n+1) "_law_due" ["_law_tree","_law_life_here"] (Zc7 n)):Yn P w K mg base CX0 (0+n+1+1) f fd ["_law_tree","_law_life_here"] (Zc7 (n+1)):=by
 refine F.ok ZfE (fun vs H Q E h=> ?_) (fun cdv A outer s H vs Q E hr h=> ?_)
 ·obtain⟨a,b,t,l,rfl,_⟩:=h
  rfl
 ·obtain⟨a,b,t,l,rfl,ht,hd,hb,q⟩:=h;have hu:=ZaJ hr;refine⟨_,(Ze (ZS (Zq ZZ (Zr Zu (pv 0) Zd (fun _ _=>rfl)) ZD (Zt _)) (Zn (Zx Yz)) ZF) (Ze (ZS (Zq ZZ (Zr Zu (pv 0) Zd (fun _ _=>rfl)) ZD (Zt _)) (Zn (Zx (ZbU (Zdo (Zim hu (Zr Zu (pv 0) Zd (fun _ _=>rfl)) (pv 1))) (ZC XM (Za9 hu (pv 1) (Zr Zu (pv 0) Zd (fun _ _=>rfl)) (fun _ _=>rfl)) (Zr Zu (pv 0) Zd (fun _ _=>rfl))) Yz))) ZF) (Ze (Zz (i:=2) ZfE.nd rfl (Or.inl rfl) (ZQ ZbQ (hr.mono (by omega)) rfl ZJ (Za (Zr Zu (pv 0) Zd (fun _ _=>rfl)) (Za (pv 1) Zi)))) (Ze (Zz (i:=3) ZfE.nd rfl (Or.inl rfl) (ZQ ZbQ (hr.mono (by omega)) rfl ZJ (Za (Zr Zu (pv 0) Zd (fun _ _=>rfl)) (Za (pv 1) Zi)))) (Ze (ZS (PW.pt (Zb5 (Zq ZbV (pv 2) Yz (Zt _)) (ZbS (Zq ZbV (pv 3) Yz (Zt _))))) (Ze (ZS (Zq ZZ (Zr Zu (pv 0) Zd (fun _ _=>rfl)) ZD (Zt _)) (Zn (Zx Yz)) ZF) (Zn (Zx (ZbU (Zq ZbV (pv 2) Yz (Zt _)) (pv 3) (pv 2))))) ZF) (Ze (ZS (Zq ZZ (Zr Zu (pv 0) Zd (fun _ _=>rfl)) ZD (Zt _)) (Zn (Zx (ZbU (Zq Ze9 (pv 2) (pv 3) (Zt _)) (pv 3) (pv 2)))) ZF) (Zn (Zx (ZbU (Zq Ze9 (pv 2) (pv 3) (Zt _)) (pv 2) (pv 3)))))))))), ?_⟩
  cases t with
  |never=>
   have ha:H a=some _:=ht;exact⟨_,rfl,a,_,_,_,rfl,rfl,SqT.of ha,rfl,rfl,_,rfl,Zb9 rfl (q H (Zy.refl H))⟩
  |after k d=>
   have ha:H a=some _:=ht;have hg:=ZcO hb k;have q1:=q H (Zy.refl H);unfold Tr.due at q1
   refine⟨_,rfl,a,_,_,_,rfl,rfl,SqT.of ha,rfl,rfl,_,rfl,Yu w1 ⟨_,rfl,a,_,_,_,rfl,rfl,SqT.of ha,rfl,rfl,_,rfl,Zb9 rfl ?_⟩⟩;refine⟨_,rfl,a,_,_,_,rfl,rfl,SqT.of ha,rfl,_,rfl,b,_,rfl,hg,_,rfl, ?_⟩;rw[ZdL];cases ev:lk l k with
   |none=>
    rw[ev] at q1
    exact ZW q1
   |some u=>
    rw[ev] at q1 hg
    exact XX ⟨_,rfl,_,rfl,a,_,_,_,rfl,rfl,SqT.of ha,rfl,b,_,rfl,hg,_,rfl,a,_,_,_,rfl,rfl,SqT.of ha,rfl,_,_,rfl,rfl,q1⟩
  |later x y=>
   obtain⟨p1,p2,ha,t1,t2⟩:=ht;have hdeep:max x.deep y.deep+1<n+1:=hd;refine⟨_,rfl,a,_,_,_,rfl,rfl,SqT.of ha,rfl,rfl,_,rfl,Yu w2 ⟨_,rfl,a,_,_,_,rfl,rfl,SqT.of ha,rfl,rfl,_,rfl,Yu w4 ?_⟩⟩;refine⟨_,rfl,a,_,_,_,rfl,rfl,SqT.of ha,rfl,_,rfl,p1,b,x,l,rfl,t1,by omega,hb,fun H1 s1=> ?_⟩;refine⟨_,rfl,a,_,_,_,rfl,rfl,SqT.of (s1 _ _ ha),rfl,_,rfl,p2,b,y,l,rfl,t2.same s1,by omega,ZhZ s1 hb,fun H2 s2=> ?_⟩;have h2:=s2 _ _ (s1 _ _ ha)
   have q1:=q H2 (s1.trans s2);unfold Tr.due at q1
   cases e1:x.due l with
   |none=>
    rw[e1] at q1
    exact⟨_,rfl,rfl,_,rfl,XX (XX ⟨_,rfl,a,_,_,_,rfl,rfl,SqT.of h2,rfl,rfl,_,rfl,Zb9 rfl q1⟩)⟩
   |some i=>
    cases e2:y.due l with
    |none=>
     rw[e1,e2] at q1
     exact⟨_,rfl,rfl,_,rfl,ZW ⟨_,rfl,rfl,_,rfl,XX ⟨_,rfl,a,_,_,_,rfl,rfl,SqT.of h2,rfl,rfl,_,rfl,Zb9 rfl q1⟩⟩⟩
    |some j=>
     rw[e1,e2] at q1
     refine⟨_,rfl,rfl,_,rfl,ZW ⟨_,rfl,rfl,_,rfl,ZW ⟨_,rfl,a,_,_,_,rfl,rfl,SqT.of h2,rfl,rfl,_,rfl,Zb9 rfl ?_⟩⟩⟩;refine⟨_,rfl,_,rfl,_,_,rfl,rfl,_,rfl,Yp (fun e=>⟨_,rfl, ?_⟩) (fun e=>⟨_,rfl, ?_⟩)⟩
     ·have e:i<j:=of_decide_eq_true e;exact Zov q1 (by show V.int (if j>i then j else i)=_;rw[if_pos e];rfl)
     ·have e:¬i<j:=fun z=>e (decide_eq_true z);exact Zov q1 (by show V.int (if j>i then j else i)=_;rw[if_neg e];rfl)
  |earlier x y=>
   obtain⟨p1,p2,ha,t1,t2⟩:=ht;have hdeep:max x.deep y.deep+1<n+1:=hd;refine⟨_,rfl,a,_,_,_,rfl,rfl,SqT.of ha,rfl,rfl,_,rfl,Yu w3 ⟨_,rfl,a,_,_,_,rfl,rfl,SqT.of ha,rfl,rfl,_,rfl,Yu w5 ?_⟩⟩;refine⟨_,rfl,a,_,_,_,rfl,rfl,SqT.of ha,rfl,_,rfl,p1,b,x,l,rfl,t1,by omega,hb,fun H1 s1=> ?_⟩;refine⟨_,rfl,a,_,_,_,rfl,rfl,SqT.of (s1 _ _ ha),rfl,_,rfl,p2,b,y,l,rfl,t2.same s1,by omega,ZhZ s1 hb,fun H2 s2=> ?_⟩;have h2:=s2 _ _ (s1 _ _ ha)
   have q1:=q H2 (s1.trans s2);unfold Tr.due at q1
   cases e1:x.due l with
   |none=>
    rw[e1] at q1
    exact⟨_,rfl,rfl,_,rfl,XX (XX ⟨_,rfl,a,_,_,_,rfl,rfl,SqT.of h2,rfl,rfl,_,rfl,Yu w6 ⟨_,rfl,rfl,_,rfl,XX ⟨_,rfl,q1⟩⟩⟩)⟩
   |some i=>
    cases e2:y.due l with
    |none=>
     rw[e1,e2] at q1
     exact⟨_,rfl,rfl,_,rfl,ZW ⟨_,rfl,rfl,_,rfl,XX ⟨_,rfl,a,_,_,_,rfl,rfl,SqT.of h2,rfl,rfl,_,rfl,Yu w6 ⟨_,rfl,rfl,_,rfl,ZW ⟨_,rfl,q1⟩⟩⟩⟩⟩
    |some j=>
     rw[e1,e2] at q1
     refine⟨_,rfl,rfl,_,rfl,ZW ⟨_,rfl,rfl,_,rfl,ZW ⟨_,rfl,a,_,_,_,rfl,rfl,SqT.of h2,rfl,rfl,_,rfl,Yu w6 ?_⟩⟩⟩;refine⟨_,rfl,_,rfl,_,_,rfl,rfl,_,rfl,Yp (fun e=>⟨_,rfl, ?_⟩) (fun e=>⟨_,rfl, ?_⟩)⟩
     ·have e:i<j:=of_decide_eq_true e;exact Zov q1 (by show V.int (if j<i then j else i)=_;rw[<-Zmn,if_pos e];rfl)
     ·have e:¬i<j:=fun z=>e (decide_eq_true z);exact Zov q1 (by show V.int (if j<i then j else i)=_;rw[<-Zmn,if_neg e];rfl)
theorem ZjL:ZG ["_law_tree"] ["_law_tree"] (Zw Zdz):=⟨rfl,rfl,rfl,by decide+kernel,rfl,by decide+kernel,by decide+kernel⟩
theorem ZjM{f:Addr}{fd:FuncData}(F:Fun K "_law_leaves" "_law_leaves" Zdz f fd)(T:Txt K mg Zj Zg Zh Zb Zo)(n:Nat)(JZ:Cal P w K mg base CX0 (0+n+1) "_law_leaves" ["_law_tree"] (Za5 n)):Yn P w K mg base CX0 (0+n+1+1) f fd ["_law_tree"] (Za5 (n+1)):=by
 refine F.ok ZjL (fun vs H Q E h=> ?_) (fun cdv A outer s H vs Q E hr h=> ?_)
 ·obtain⟨a,t,rfl,_⟩:=h
  rfl
 ·obtain⟨a,t,rfl,ht,hd,hc,q⟩:=h;have l5:=YZ;refine⟨_,(Ze (ZS (Zq ZZ (Zr Zu (pv 0) Zd (fun _ _=>rfl)) ZD (Zt _)) (Zn (Zx (ZX Zi))) ZF) (Ze (ZS (Zq ZZ (Zr Zu (pv 0) Zd (fun _ _=>rfl)) ZD (Zt _)) (Zn (Zx (ZX (Za (Zd0 ZkB (pv 0) (Zco Zd) ZhS) Zi)))) ZF) (Zn (Zx (ZC ZeS (ZQ JZ (hr.mono (by omega)) rfl ZJ (Za (Zr Zu (pv 0) Zd (fun _ _=>rfl)) Zi)) (ZQ JZ (hr.mono (by omega)) rfl ZJ (Za (Zr Zu (pv 0) Zd (fun _ _=>rfl)) Zi))))))), ?_⟩
  cases t with
  |never=>
   have ha:H a=some _:=ht;exact⟨_,rfl,a,_,_,_,rfl,rfl,SqT.of ha,rfl,rfl,_,rfl,Zb9 rfl ⟨Nat.zero_le _,fun p hp=>q p _ (Zk hp) hp ⟨[],Zc,.nil⟩⟩⟩
  |after k d=>
   have ha:H a=some _:=ht;refine⟨_,rfl,a,_,_,_,rfl,rfl,SqT.of ha,rfl,rfl,_,rfl,Yu w1 ⟨_,rfl,a,_,_,_,rfl,rfl,SqT.of ha,rfl,rfl,_,rfl,Zb9 rfl ?_⟩⟩;refine⟨_,rfl,_,rfl,a,_,rfl,SqT.of ha,(fun z=>absurd z.1 (by show¬HT.sIx 3 0 (some 1)=0;decide)),fun t ht=>⟨by show 1<=sizeLine;omega,fun p hp=> ?_⟩⟩
   exact q p _ ((Zk ht).trans (Zk hp)) ((Zk ht).free hp) ⟨_,Zc,.cons ⟨t,rfl,Zk hp _ _ Zc⟩ .nil⟩
  |later x y=>
   obtain⟨p1,p2,ha,t1,t2⟩:=ht;have hdeep:max x.deep y.deep+1<n+1:=hd;have hcnt:x.cnt+y.cnt<=100:=hc;have lx:=x.lvs_cnt;have ly:=y.lvs_cnt;refine⟨_,rfl,a,_,_,_,rfl,rfl,SqT.of ha,rfl,rfl,_,rfl,Yu w2 ⟨_,rfl,a,_,_,_,rfl,rfl,SqT.of ha,rfl,rfl,_,rfl,Yu w4 ?_⟩⟩;refine⟨_,rfl,a,_,_,_,rfl,rfl,SqT.of ha,rfl,p1,x,rfl,t1,by omega,by omega,fun L1 H1 s1 hL1 lv1=> ?_⟩;refine⟨_,rfl,a,_,_,_,rfl,rfl,SqT.of (s1 _ _ ha),rfl,p2,y,rfl,t2.same s1,by omega,by omega,fun L2 H2 s2 hL2 lv2=> ?_⟩
   obtain⟨xs,e1,e2⟩:=lv1.same s2;obtain⟨ys,g1,g2⟩:=lv2;have z1:=Paired.length e2;have z2:=Paired.length g2;refine⟨L1,L2,xs,ys,rfl,rfl,SqL.of e1,SqL.of g1,by omega,fun p hp=> ?_⟩;exact q p _ (s1.trans (s2.trans (Zk hp))) ((s1.trans s2).free hp) (ZhC.app hp e2 g2)
  |earlier x y=>
   obtain⟨p1,p2,ha,t1,t2⟩:=ht;have hdeep:max x.deep y.deep+1<n+1:=hd;have hcnt:x.cnt+y.cnt<=100:=hc;have lx:=x.lvs_cnt;have ly:=y.lvs_cnt;refine⟨_,rfl,a,_,_,_,rfl,rfl,SqT.of ha,rfl,rfl,_,rfl,Yu w3 ⟨_,rfl,a,_,_,_,rfl,rfl,SqT.of ha,rfl,rfl,_,rfl,Yu w5 ?_⟩⟩;refine⟨_,rfl,a,_,_,_,rfl,rfl,SqT.of ha,rfl,p1,x,rfl,t1,by omega,by omega,fun L1 H1 s1 hL1 lv1=> ?_⟩;refine⟨_,rfl,a,_,_,_,rfl,rfl,SqT.of (s1 _ _ ha),rfl,p2,y,rfl,t2.same s1,by omega,by omega,fun L2 H2 s2 hL2 lv2=> ?_⟩
   obtain⟨xs,e1,e2⟩:=lv1.same s2;obtain⟨ys,g1,g2⟩:=lv2;have z1:=Paired.length e2;have z2:=Paired.length g2;refine⟨L1,L2,xs,ys,rfl,rfl,SqL.of e1,SqL.of g1,by omega,fun p hp=> ?_⟩;exact q p _ (s1.trans (s2.trans (Zk hp))) ((s1.trans s2).free hp) (ZhC.app hp e2 g2)
theorem Zjc:ZG ["_law_script","_law_k"] ["_law_script","_law_k"] (Zw ZcD):=⟨rfl,rfl,rfl,by decide+kernel,rfl,by decide+kernel,by decide+kernel⟩
theorem Zjd{f:Addr}{fd:FuncData}(F:Fun K "_law_cell_at" "_law_cell_at" ZcD f fd)(T:Txt K mg Zj Zg Zh Zb Zo):Yn P w K mg base CX0 1 f fd ["_law_script","_law_k"] (Zax K):=by
 refine F.ok Zjc (fun vs H Q E h=> ?_) (fun cdv A outer s H vs Q E hr h=> ?_)
 ·obtain⟨a,ns,k,rfl,_⟩:=h
  rfl
 ·obtain⟨a,ns,k,rfl,hS,q⟩:=h;refine⟨_,(Ze (ZS (Zq Ze9 (pv 1) (ZM Js (by rfl) T.z_len Zbm (Za (pv 0) Zi)) (Zt _)) (Zn (Zx (Zr YJ (pv 0) (pv 1) (fun _ _=>rfl)))) ZF) (Zn (Zx Zd))), ?_⟩;have q1:=q H (Zy.refl H);refine⟨_,rfl,_,rfl,_,_,rfl,.inl ⟨_,hS,rfl⟩,_,_,rfl,rfl,_,rfl,Yp (fun e=> ?_) (fun e=> ?_)⟩
  ·have e:(k:Int)<((ns.map V.int).length:Int):=of_decide_eq_true e;rw[List.length_map] at e
   have lt:k<ns.length:=by omega
   have ec:atI (ns.map V.int) (k:Int)=some (.int (ns[k]?.getD 0)):=by
    unfold atI ixN;rw[if_pos (by omega),List.length_map,if_pos e,Int.toNat_natCast];show(ns.map V.int)[k]? =_;rw[List.getElem?_map,List.getElem?_eq_getElem lt]
    rfl
   exact⟨_,rfl,_,rfl,a,_,_,_,rfl,rfl,hS,ec,q1⟩
  ·have e:¬(k:Int)<((ns.map V.int).length:Int):=fun z=>e (decide_eq_true z);rw[List.length_map] at e
   rw[List.getElem?_eq_none (by omega)] at q1
   exact q1
theorem Zlq:ZG ["_law_found"] ["_law_found"] (Zw Zej):=⟨rfl,rfl,rfl,by decide+kernel,rfl,by decide+kernel,by decide+kernel⟩
theorem Zlr{f:Addr}{fd:FuncData}(F:Fun K "_law_whole" "_law_whole" Zej f fd)(T:Txt K mg Zj Zg Zh Zb Zo):Yn P w K mg base CX0 1 f fd ["_law_found"] ZdJ:=by
 refine F.ok Zlq (fun vs H Q E h=> ?_) (fun cdv A outer s H vs Q E hr h=> ?_)
 ·obtain⟨i,rfl,_⟩:=h
  rfl
 ·obtain⟨i,rfl,k⟩:=h;refine⟨_,(Zn (Zx (Zib (ZM Zag (by rfl) T.z_isinstance Jv (Za (pv 0) (Za (ZeP (v:=.ty "int") rfl T.z_int ZgA rfl) Zi))) (Zia (ZrG (ZM Zag (by rfl) T.z_isinstance Jv (Za (pv 0) (Za (ZeP (v:=.ty "bool") rfl T.z_bool ZqN rfl) Zi)))))))), ?_⟩;refine⟨_,rfl,_,_,_,_,true,rfl,rfl,Zdr.int _,T.kii,_,rfl,XX ?_⟩;exact⟨_,rfl,_,_,_,_,false,rfl,rfl,Zdr.int _,T.kib,_,rfl,k H (Zy.refl H)⟩
theorem Zdf:ZG ["_law_cell","_law_names_by","_law_number"] ["_law_cell","_law_names_by"] (Zw Zbq):=⟨rfl,rfl,rfl,by decide+kernel,rfl,by decide+kernel,by decide+kernel⟩
theorem Zh2{f:Addr}{fd:FuncData}(F:Fun K "_law_number_by" "_law_number_by" Zbq f fd)(T:Txt K mg Zj Zg Zh Zb Zo):Yn P w K mg base CX0 1 f fd ["_law_cell","_law_names_by"] ZaT:=by
 refine F.ok Zdf (fun vs H Q E h=> ?_) (fun cdv A outer s H vs Q E hr h=> ?_)
 ·obtain⟨c,b,rfl,_⟩:=h
  rfl
 ·obtain⟨c,b,rfl,q⟩:=h;refine⟨_,(Ze (ZS (Zq ZZ (ZC Yb (ZC Yv (pv 1) Zd) Zd) Zd (Zt _)) (Zn (Zx (ZM Zie (by rfl) T.z_abs ZmJ (Za (pv 0) Zi)))) ZF) (Ze (Zz (i:=2) Zdf.nd rfl (Or.inl rfl) (ZC Yb (ZC XM (ZC ZbH (pv 0) Zd) Zd) Zd)) (Zn (Zx (ZC Yb (ZC ZbH (pv 2) Zd) Zd))))), ?_⟩;refine(vI rfl ⟨by decide,by decide⟩ ⟨_,_,rfl,rfl,(by show(0:Int)<2;decide),rfl,_,rfl,Yp (fun e=> ?_) (fun e=> ?_)⟩)
  ·exact⟨_,rfl,_,rfl,q _ H (by split<;>omega) (Zy.refl H)⟩
  ·refine(vI rfl (IntMulOk.of_right (intBits_le_64 (by decide) (by decide))) ⟨_,_,rfl,rfl,_,_,rfl,rfl,(by show(0:Int)<2305843009213693951;decide), ?_⟩)
   refine(vI rfl (IntMulOk.of_right (intBits_le_64 (by decide) (by decide))) ⟨_,_,rfl,rfl,(by show(0:Int)<2305843009213693951;decide), ?_⟩)
   exact q _ H (Int.emod_nonneg _ (by decide)) (Zy.refl H)
theorem ZnS:(Str.ofString "abcdefghijklmnopqrst").length=20:=by decide+kernel
theorem Zqj:(Str.ofString "xy").length=2:=by decide+kernel
theorem Zqk{z:Str}{i:Int}(h0:0<=i)(h1:i<z.length):∃c,atI z.cps.toList i=some c:=Zg2 (xs:=z.cps.toList) (by omega) (by rw[Array.length_toList];exact h1)
theorem Zh3:ZG ["_law_number","_law_names_by"] ["_law_number","_law_names_by"] (Zw Zbp):=⟨rfl,rfl,rfl,by decide+kernel,rfl,by decide+kernel,by decide+kernel⟩
theorem Zh4{f:Addr}{fd:FuncData}(F:Fun K "_law_record_by" "_law_record_by" Zbp f fd)(T:Txt K mg Zj Zg Zh Zb Zo)(Yo:Cal P w K mg base CX0 1 "_law_name_by" ["_law_cell","_law_k"] Ji):Yn P w K mg base CX0 2 f fd ["_law_number","_law_names_by"] ZaS:=by
 refine F.ok Zh3 (fun vs H Q E h=> ?_) (fun cdv A outer s H vs Q E hr h=> ?_)
 ·obtain⟨n,b,rfl,_⟩:=h
  rfl
 ·obtain⟨n,b,rfl,q⟩:=h;have l5:=YZ;refine⟨_,(Ze (ZS (Zq ZZ (ZC Yb (pv 1) Zd) Zd (Zt _)) (Zn (Zx (ZC Zff (ZC Zff ZD (Zr ZkC ZD (ZC Yb (pv 0) Zd) (fun _ _=>rfl))) (Zr ZkC ZD (ZC Yb (ZC Yv (pv 0) Zd) Zd) (fun _ _=>rfl))))) ZF) (Zn (Zx (ZQ Yo (hr.mono (by omega)) rfl ZJ (Za (pv 1) (Za (ZC Yb (pv 0) Zd) Zi)))))), ?_⟩;refine(vI rfl (by show(0:Int)<4;decide) ⟨rfl,_,rfl,Yp (fun e=> ?_) (fun e=> ?_)⟩)
  ·obtain⟨c1,e1⟩:=Zqk (z:=Str.ofString "abcdefghijklmnopqrst") (i:=n%20) (Int.emod_nonneg _ (by decide)) (by rw[ZnS];exact Int.emod_lt_of_pos _ (by decide))
   obtain⟨c2,e2⟩:=Zqk (z:=Str.ofString "xy") (i:=n/20%2) (Int.emod_nonneg _ (by decide)) (by rw[Zqj];exact Int.emod_lt_of_pos _ (by decide))
   refine(vI rfl (by show(0:Int)<20;decide) ⟨_,_,_,rfl,rfl, ?_,e1,_,_,rfl,rfl, ?_, ?_⟩)
   ·rw[ZnS];omega
   ·show 1+1<=sizeLine;omega
   refine(vI rfl ⟨by decide,by decide⟩ ⟨_,_,rfl,rfl,(by show(0:Int)<2;decide),_,_,_,rfl,rfl, ?_,e2,_,_,rfl,rfl, ?_,q _ H (Zy.refl H)⟩)
   ·rw[Zqj];omega
   ·show _<=sizeLine;rw[Zr3];show 1+1+1<=sizeLine;omega
  ·exact⟨_,rfl,vI rfl (by show(0:Int)<5;decide) ⟨_,_,rfl,fun H' s=>q _ H' s⟩⟩
theorem Zmo{H H':Hp}{a:Addr}{xs:List V}(s:Zy H H')(h:SqL K H a xs):SqL K H' a xs:=h.imp (fun r=>r.imp (fun e=>s _ _ e) fun⟨o,e⟩=>⟨o,s _ _ e⟩) id
theorem ZnT:∀{rs:List Sr} {ns:List Str} {r:Sr},Jx ns rs->r.good->r.nm∉ns++rs.map Sr.nm->(∀e,r.el=some e->e∈ns++rs.map Sr.nm)->Jx ns (rs++[r])
 |[],ns,r,_,g,n,e=>by
  rw[List.map_nil,List.append_nil] at n e
  exact⟨g,n,e,trivial⟩
 |x::rs,ns,r,⟨h1,h2,h3,h4⟩,g,n,e=>by
  rw[List.map_cons,List.append_cons] at n e
  exact⟨h1,h2,h3,ZnT h4 g n e⟩
theorem ZiM.keep{H H':Hp}(s:∀b xs,H b=some (.tup xs)->H' b=some (.tup xs)){d:Addr}{r:Sr}:ZiM H d r->ZiM H' d r
 |⟨v,h,t⟩=>by
  refine⟨v,s _ _ h, ?_⟩
  revert t
  cases r.tm with
  |none=>exact fun t=>t
  |some x=>exact fun⟨a,e,t⟩=>⟨a,e,t.keep s⟩
theorem Zaf{H H':Hp}(s:∀b xs,H b=some (.tup xs)->H' b=some (.tup xs)):∀{ds:List Addr} {rs:List Sr},Paired (ZiM H) ds rs->Paired (ZiM H') ds rs
 |_,_,.nil=> .nil
 |_,_,.cons h t=> .cons (h.keep s) (Zaf s t)
theorem ZbR{α β:Type}{R:α->β->Prop}:∀{as:List α} {bs:List β} {a:α} {b:β},Paired R as bs->R a b->Paired R (as++[a]) (bs++[b])
 |_,_,_,_,.nil,r=> .cons r .nil
 |_,_,_,_,.cons h t,r=> .cons h (ZbR t r)
theorem ZnU(xs:List Int)(k:Int)(h:xs.length=3)(h0:0<=k)(h1:k<3):∃c∈xs,atI (xs.map V.int) k=some (.int c):=by
 obtain⟨c,m,e⟩:=ZiI (ns:=xs) (i:=k) (by omega) (by omega);exact⟨c,m,e⟩
theorem YG:ZG ["_law_script","_law_names_by","_law_book","_law_shift","_law_most","_law_k","_law_cells","_law_tree","_law_elder"] ["_law_script","_law_names_by"] (Zw ZcG):=⟨rfl,rfl,rfl,by decide+kernel,rfl,by decide+kernel,by decide+kernel⟩
theorem Zje{f:Addr}{fd:FuncData}(F:Fun K "_law_book_by" "_law_book_by" ZcG f fd)(T:Txt K mg Zj Zg Zh Zb Zo)(Xz:Cal P w K mg base CX0 1 "_law_cell_at" ["_law_script","_law_k"] (Zax K))(Yo:Cal P w K mg base CX0 1 "_law_name_by" ["_law_cell","_law_k"] Ji)(ZcP:Cal P w K mg base CX0 2 "_law_tree_by" ["_law_cells","_law_names_by","_law_most"] Zc8):Yn P w K mg base CX0 3 f fd ["_law_script","_law_names_by"] (Zc9 K):=by
 refine F.ok YG (fun vs H Q E h=> ?_) (fun cdv A outer s H vs Q E hr h=> ?_)
 ·obtain⟨a,ns,b,rfl,_⟩:=h
  rfl
 ·obtain⟨a,ns,b,rfl,hS,q⟩:=h;have l5:=YZ;have ha:=hS;refine⟨_,(Ze (Zz (i:=2) YG.nd rfl (Or.inl rfl) (ZX Zi)) (Ze (Zz (i:=3) YG.nd rfl (Or.inl rfl) (Zr YJ (ZX (Za Zd (Za Zd (Za Zd Zi)))) (ZC Yb (ZC Yv (pv 1) Zd) Zd) (fun _ _=>rfl))) (Ze (Zz (i:=4) YG.nd rfl (Or.inl rfl) (Zr YJ (ZX (Za Zd (Za Zd (Za Zd Zi)))) (ZC Yb (ZC Yv (pv 1) Zd) Zd) (fun _ _=>rfl))) (Ze (Xw PassesOwn.never rfl (ZcY rfl T.z_range (Za (ZC XM Zd (ZC Yb (ZQ Xz (hr.mono (by omega)) rfl ZJ (Za (pv 0) (Za Zd Zi))) Zd)) Zi)) (ZK (i:=5) YG.nd rfl (Or.inr rfl)) (Ze (ZfT (i:=6) ["_law_j"] [("_law_script",0),("_law_k",5)] YG.nd rfl (Or.inl rfl) rfl (ZcY rfl T.z_range (Za (ZC ZbH Zd (pv 4)) Zi)) (by rfl) (by exact⟨rfl,⟨rfl,trivial⟩⟩) (by rfl) (by exact⟨⟨rfl,rfl,rfl⟩,⟨⟨rfl,rfl,rfl⟩,trivial⟩⟩) (fun _ _ _ _=>(ZK (i:=0) (show(nmY ["_law_j"] [("_law_script",0),("_law_k",5)]).Nodup by decide+kernel) rfl (Or.inl rfl))) (fun _ _ _ _=>Zdu) (fun _ _ _ _=>(ZC Yv (ZQ Xz (hr.mono (by omega)) rfl ZJ (Za (pv 1) (Za (ZC XM (ZC XM Zd (pv 2)) (ZC ZbH Zd (pv 0))) Zi))) (ZC XM Zd (pv 0))))) (Ze (Zz (i:=7) YG.nd rfl (Or.inl rfl) (ZQ ZcP (hr.mono (by omega)) rfl ZJ (Za (pv 6) (Za (pv 1) (Za (pv 4) Zi))))) (Ze (Zz (i:=8) YG.nd rfl (Or.inl rfl) Yz) (Ze (ZS (PW.pt (Xb (Zq Zhh (pv 5) Zd (Zt _)) (YT (Zq Zhh (ZC Yb (ZC Yv (Zr YJ (pv 6) Zd (fun _ _=>rfl)) Zd) Zd) Zd (Zt _))))) (Zn (Zz (i:=8) YG.nd rfl (Or.inl rfl) (Zr Zu (Zr YJ (pv 2) (ZC ZoZ (ZC ZoZ (pv 5) Zd) (ZC ZbH (ZC Yb (ZC Yv (Zr YJ (pv 6) Zd (fun _ _=>rfl)) Zd) (pv 5)) (JT ZcZ (by rfl) T.z_int ZgA (Za (Jz ZZ (ZC Yb (Zr YJ (pv 6) Zd (fun _ _=>rfl)) Zd) Zd (Zt _)) Zi)))) (fun _ _=>rfl)) Zd (fun _ _=>rfl)))) ZF) (Ze (ZS (PW.pt (Xb (Zq ZhQ (pv 8) Yz (Zt _)) (YT (Zq ZZ (ZC Yb (ZC Yv (Zr YJ (pv 6) Zd (fun _ _=>rfl)) Zd) Zd) Zd (Zt _))))) (Zn (Zz (i:=7) YG.nd rfl (Or.inl rfl) Yz)) ZF) (Zn (YB (JG PySem.F.plainAttrs_list PySem.F.slot_list_append PySem.F.type_list_append Yk (pv 2) (Za (Yr (Za (ZQ Yo (hr.mono (by omega)) rfl ZJ (Za (pv 1) (Za (ZC XM (pv 3) (pv 5)) Zi))) (Za (pv 8) (Za (pv 7) Zi)))) Zi)))))))))) (Zn (Zx (pv 2))))))), ?_⟩
  obtain⟨sh,msh,esh⟩:=ZnU [0,3,4] (b/7%3) rfl (Int.emod_nonneg _ (by decide)) (Int.emod_lt_of_pos _ (by decide));obtain⟨mo,mmo,emo⟩:=ZnU [3,3,9] (b/21%3) rfl (Int.emod_nonneg _ (by decide)) (Int.emod_lt_of_pos _ (by decide));refine⟨Nat.zero_le _,fun L hL=> ?_⟩;obtain⟨mo,rfl,lo,hi⟩:∃m:Nat,mo=(m:Int)/\3<=m/\m<=9:=by
   simp only [List.mem_cons,List.mem_nil_iff,or_false] at mmo
   rcases mmo with rfl|rfl|rfl
   ·exact⟨3,rfl,by decide,by decide⟩
   ·exact⟨3,rfl,by decide,by decide⟩
   ·exact⟨9,rfl,by decide,by decide⟩
  have hsh:0<=sh/\sh<=4:=by
   simp only [List.mem_cons,List.mem_nil_iff,or_false] at msh
   rcases msh with rfl|rfl|rfl<;>decide
  refine⟨(show 3<=sizeLine from sl),fun p1 hp1=>vI rfl ⟨by decide,by decide⟩ ⟨_,_,rfl,rfl,(by show(0:Int)<3;decide),p1,_,_,_,rfl,rfl,SqL.of Zc,esh, ?_⟩⟩
  refine⟨(show 3<=sizeLine from sl),fun p2 hp2=>vI rfl ⟨by decide,by decide⟩ ⟨_,_,rfl,rfl,(by show(0:Int)<3;decide),p2,_,_,_,rfl,rfl,SqL.of Zc,emo, ?_⟩⟩
  have s0:=(Zk hL (o:=.lst [])).trans ((Zk hp1 (o:=.lst [.int 0,.int 3,.int 4])).trans (Zk hp2 (o:=.lst [.int 3,.int 3,.int 9])));refine⟨_,rfl,a,ns,1,rfl,Zmo s0 hS,fun H1 s1=>⟨_,_,rfl,rfl,(by show(0:Int)<8;decide),_,_,rfl,rfl, ?_⟩⟩
  have c0:=Int.emod_nonneg (ns[1]?.getD 0) (show(8:Int)≠0 by decide);have c1:=Int.emod_lt_of_pos (ns[1]?.getD 0) (show(0:Int)<8 by decide);have hL1:=s1 _ _ ((Zk hp2 (o:=.lst [.int 3,.int 3,.int 9])) _ _ ((Zk hp1 (o:=.lst [.int 0,.int 3,.int 4])) _ _ (Zc (H:=H) (a:=L) (o:=.lst []))));refine⟨_,rfl,by omega,by omega,ZjR (fun i σ H'=>∃(ds:List Addr) (rs:List Sr) (v5 v6 v7 v8:Option V),σ=[some (.ref a),some (.int b),some (.ref L),some (.int sh),some (.int (mo:Int)),v5,v6,v7,v8]/\H' L=some (.lst (ds.map V.ref))/\Paired (ZiM H') ds rs/\rs.length=i/\Jx [] rs/\(∀(j:Nat) r,rs[j]? =some r->r.nm=ZbD b (sh+(j:Int)))/\Zy H H') ?_ ?_ ?_⟩
  ·exact⟨[],[],none,none,none,none,rfl,hL1,.nil,rfl,trivial,(fun j r hj=>by simp at hj),s0.trans s1⟩
  ·rintro i σ H2 hi2 ⟨ds,rs,v5,v6,v7,v8,rfl,hl2,pr,lr,bk,nms,s2⟩;have hi3:i<8:=by omega
   have le:=Paired.length pr;refine⟨_,rfl,_,_,rfl,rfl,IntMulOk.of_right (intBits_le_64 (by omega) (by omega)),_,rfl,by omega,by omega,Xm (2*mo) (fun j=>[V.int (ns[2+i+5*j]?.getD 0/(1+(j:Int)))]) (by omega) (fun j=>Nat.le_refl 1) (fun j H3 s3 lt=> ?_) (fun H3 s3=> ?_) (fun j y H3 H4 s3 lt yl RT RF rt rf=> ?_) fun D H3 hD s3 d3=> ?_⟩
   ·show j<(2*(mo:Int)).toNat;omega
   ·show(2*(mo:Int)).toNat<=2*mo;omega
   ·obtain⟨rfl,rfl⟩:=yl;refine⟨⟨rfl,rfl,trivial⟩,ZlO ?_⟩;refine⟨_,rfl,_,rfl,_,_,rfl,rfl,_,rfl,_,_,rfl,rfl,IntMulOk.of_right (intBits_le_64 (by omega) (by omega)),_,_,rfl,rfl,a,ns,2+i+5*j, ?_,Zmo (s2.trans s3) hS,fun H5 s5=>⟨_,rfl,_,_,rfl,rfl,_,_,rfl,rfl,⟨by omega,by omega⟩,rt _ _ ?_ s5⟩⟩
    ·have z:2+(0+(i:Int))+5*(0+(j:Int))=((2+i+5*j:Nat):Int):=by omega
     show[V.ref a,V.int (2+(0+(i:Int))+5*(0+(j:Int)))]=_;rw[z]
    ·rw[show 0+(j:Int)=(j:Int) by omega]
   ·rw[Zah] at d3
    have d4:H3 D=some (.lst (((List.range (2*mo)).map fun j=>ns[2+i+5*j]?.getD 0/(1+(j:Int))).map V.int)):=by rw[d3,List.map_map];rfl
    generalize ecs:((List.range (2*mo)).map fun j=>ns[2+i+5*j]?.getD 0/(1+(j:Int)))=cells at d4
    have lcs:cells.length=2*mo:=by rw[<-ecs,List.length_map,List.length_range]
    refine⟨_,rfl,_,rfl,_,rfl,D,cells,b,mo,rfl,d4,by omega,by omega,by omega,fun tp t H4 s4 ht hc hg=> ?_⟩;have hl4:=s4 _ _ (s3 _ _ hl2);have d5:=s4 _ _ d4;have pr4:Paired (ZiM H4) ds rs:=Zaf (fun b xs e=>s4 _ _ (s3 _ _ e)) pr;obtain⟨x0,_,e0⟩:=ZiI (ns:=cells) (i:=0) (by omega) (by omega);obtain⟨x1,_,e1⟩:=ZiI (ns:=cells) (i:=1) (by omega) (by omega);refine(fun(rest:∀σ':L2.St,(∃o:Option Str,(∀e,o=some e->e∈rs.map Sr.nm)/\σ'=[some (.ref a),some (.int b),some (.ref L),some (.int sh),some (.int (mo:Int)),some (.int (0+(i:Int))),some (.ref D),some (.ref tp),some (oS o)])->(_:L2.St->Hp->Prop) σ' H4)=>
     (⟨_,rfl,_,_,rfl,rfl,_,rfl,Zkn (fun e=>ZW (rest _ ⟨none,(fun _ z=>nomatch z),rfl⟩)) (fun e=> ?_)⟩)) ?rest
    case rest=>
     rintro σ' ⟨o,ho,rfl⟩;refine(fun(rest:∀σ':L2.St,(∃(tm:Option Tr) (v:V),Zt9 H4 tm v/\(o=none->tm≠none)/\(∀t,tm=some t->t.good/\t.cnt<=9)/\σ'=[some (.ref a),some (.int b),some (.ref L),some (.int sh),some (.int (mo:Int)),some (.int (0+(i:Int))),some (.ref D),some v,some (oS o)])->(_:L2.St->Hp->Prop) σ' H4)=>
      (⟨_,rfl,rfl,_,rfl,Zkn (fun e=>ZW (rest _ ⟨some t,.ref tp,⟨tp,rfl,ht⟩,(fun _ z=>nomatch z),(fun t' z=>by cases z;exact⟨hg,by omega⟩),rfl⟩)) (fun e=> ?_)⟩)) ?rest
     case rest=>
      rintro σ' ⟨tm,v,hv,hn,hgd,rfl⟩;refine⟨_,rfl,.inl ⟨rfl,_,SqL.of hl4⟩,_,rfl,_,rfl,_,rfl,_,_,rfl,rfl,b,sh+(0+(i:Int)),rfl,fun H5 s5=>⟨_,rfl,_,rfl,(show 3<=sizeLine from sl),fun d hd=> ?_⟩⟩;have hl5:=s5 _ _ hl4;have nLd:L≠d:=Zf hl5 hd;refine⟨L,_,V.ref d,rfl,rfl,by rw[Zm nLd];exact hl5,(by rw[List.length_map];omega), ?_⟩
      have kp:∀c u,c≠L->H4 c=some u->upd (upd H5 d (.tup [.str (ZbD b (sh+(0+(i:Int)))),oS o,v])) L (.lst (ds.map V.ref++[.ref d])) c=some u:=fun c u n e=>by
       rw[Zm n,Zm (Zf (s5 _ _ e) hd)];exact s5 _ _ e
      have kt:∀c xs,H4 c=some (.tup xs)->upd (upd H5 d (.tup [.str (ZbD b (sh+(0+(i:Int)))),oS o,v])) L (.lst (ds.map V.ref++[.ref d])) c=some (.tup xs):=fun c xs e=>kp c _ (Yj e hl4 (fun z=>nomatch z)) e;have nmE:ZbD b (sh+(0+(i:Int)))=ZbD b (sh+(i:Int)):=by rw[show(0:Int)+(i:Int)=(i:Int) by omega]
      refine⟨ds++[d],rs++[⟨ZbD b (sh+(i:Int)),o,tm⟩],_,_,_,_,rfl,by rw[Zc,List.map_append];rfl,ZbR (Zaf kt pr4) ⟨v, ?_, ?_⟩, ?_,ZnT bk ⟨Zm0 _ _, ?_,hgd,hn⟩ ?_ ?_, ?_, ?_⟩
      ·rw[Zm (Ne.symm nLd),Zc,nmE]
      ·revert hv
       cases tm with
       |none=>exact fun z=>z
       |some x=>exact fun⟨a,e,z⟩=>⟨a,e,z.keep kt⟩
      ·rw[List.length_append,lr];rfl
      ·intro e he;obtain⟨r,hr,rfl⟩:=List.mem_map.mp (ho e he);exact(ZdM bk r hr).nm
      ·rw[List.nil_append];intro z;obtain⟨r,hr,er⟩:=List.mem_map.mp z;obtain⟨j,hj⟩:=List.getElem?_of_mem hr;have lj:j<rs.length:=(List.getElem?_eq_some_iff.mp hj).1;have:=nms j r hj;have:=Zow (n:=b) (by omega) (by omega) (by omega) (by omega) (er.symm.trans this);omega
      ·rw[List.nil_append];exact ho
      ·intro j r hj
       by_cases lj:j<rs.length
       ·rw[List.getElem?_append_left lj] at hj
        exact nms j r hj
       ·rw[List.getElem?_append_right (by omega)] at hj
        have z:j-rs.length=0:=by
         have:=(List.getElem?_eq_some_iff.mp hj).1;rw[List.length_singleton] at this
         omega
        rw[z] at hj
        cases hj;rw[show j=i by omega]
      ·exact fun c u e=>kp c u (Zf e hL) (s4 _ _ (s3 _ _ (s2 _ _ e)))
     ·refine⟨_,rfl,D,_,_,_,rfl,rfl,SqL.of d5,e1,_,_,rfl,rfl,⟨by decide,by decide⟩,_,_,rfl,rfl,(by show(0:Int)<2;decide),rfl,_,rfl,Zkn (fun e=>rest _ ⟨some t,.ref tp,⟨tp,rfl,ht⟩,(fun _ z=>nomatch z),(fun t' z=>by cases z;exact⟨hg,by omega⟩),rfl⟩) (fun _=> ?_)⟩
      refine rest _ ⟨none,.non,rfl, ?_,(fun _ z=>nomatch z),rfl⟩;rintro rfl;cases e
    ·have ei:(0:Int)<0+(i:Int):=of_decide_eq_true e;refine⟨_,rfl,D,_,_,_,rfl,rfl,SqL.of d5,e0,_,_,rfl,rfl,⟨by decide,by decide⟩,_,_,rfl,rfl,(by show(0:Int)<4;decide),_,_,rfl,rfl,_,rfl,Zkn (fun e=>rest _ ⟨none,(fun _ z=>nomatch z),rfl⟩) (fun e=> ?_)⟩
     have m0:=Int.emod_nonneg (x0/12) (show(0+(i:Int))≠0 by omega);have m1:=Int.emod_lt_of_pos (x0/12) ei;have b0:0<=x0/12%(0+(i:Int))*(if decide (V.int (x1%3)=V.int 0)=true then 1 else 0):=by split<;>omega
     have b1:x0/12%(0+(i:Int))*(if decide (V.int (x1%3)=V.int 0)=true then 1 else 0)<(i:Int):=by split<;>omega
     obtain⟨v,ev⟩:=Zg2 (xs:=ds.map V.ref) (i:=0+(i:Int)-1-x0/12%(0+(i:Int))*(if decide (V.int (x1%3)=V.int 0)=true then 1 else 0)) (by rw[List.length_map];omega) (by rw[List.length_map];omega)
     obtain⟨j,_,hj,_⟩:=ZeQ ev;obtain⟨dd,rfl,hdd⟩:=YX hj;obtain⟨r,er,u,row,_⟩:=Yh pr4 j dd hdd;exact⟨_,rfl,_,rfl,_,_,rfl,rfl,_,rfl,D,_,_,_,rfl,rfl,SqL.of d5,e0,_,_,rfl,rfl,⟨by decide,by decide⟩,_,rfl,_,_,rfl,rfl,ei,_,rfl,D,_,_,_,rfl,rfl,SqL.of d5,e1,_,_,rfl,rfl,(by show(0:Int)<3;decide),rfl,.inr ⟨_,rfl,_,_,rfl,rfl,IntMulOk.of_right (intBits_le_64 (by split<;>decide) (by split<;>decide)),_,_,rfl,rfl,L,_,_,_,rfl,rfl,SqL.of hl4,ev,dd,_,_,_,rfl,rfl,SqT.of row,rfl,rest _ ⟨some r.nm,(fun z hz=>by cases hz;exact List.mem_map_of_mem (List.mem_of_getElem? er)),rfl⟩⟩⟩
  ·rintro σ H2 ⟨ds,rs,v5,v6,v7,v8,rfl,hl2,pr,lr,bk,nms,s2⟩;exact⟨_,rfl,q L rs H2 hL s2 ⟨ds,hl2,pr⟩ bk (by omega) (by omega)⟩
theorem ZaB:ZG ["_law_book","_law_some","_law_name","_law_elder","_law_tree"] ["_law_book"] (Zw Zek):=⟨rfl,rfl,rfl,by decide+kernel,rfl,by decide+kernel,by decide+kernel⟩
theorem Zls{f:Addr}{fd:FuncData}(F:Fun K "_law_terms" "_law_terms" Zek f fd)(T:Txt K mg Zj Zg Zh Zb Zo)(JL:Cal P w K mg base CX0 16 "_law_made" ["_law_tree"] (Zba Zj Zg Zh Zb 12)):Yn P w K mg base CX0 17 f fd ["_law_book"] (ZdK Zj Zg Zh Zb):=by
 refine F.ok ZaB (fun vs H Q E h=> ?_) (fun cdv A outer s H vs Q E hr h=> ?_)
 ·obtain⟨p,rs,rfl,_⟩:=h
  rfl
 ·obtain⟨p,rs,rfl,⟨ds,hp,pr⟩,lr,gd,q⟩:=h;have l5:=YZ;have le:=Paired.length pr;refine⟨_,(Ze (Zz (i:=1) ZaB.nd rfl (Or.inl rfl) (ZX Zi)) (Ze (Xw PassesOwn.never rfl (Yg (pv 0)) (Zic rfl (YC (ZK (i:=2) ZaB.nd rfl (Or.inl rfl)) (YC (ZK (i:=3) ZaB.nd rfl (Or.inl rfl)) (YC (ZK (i:=4) ZaB.nd rfl (Or.inl rfl)) Zdp)))) (Zn (YB (JG PySem.F.plainAttrs_list PySem.F.slot_list_append PySem.F.type_list_append Yk (pv 1) (Za (Yr (Za (pv 2) (Za (pv 3) (Za (ZbU (Zq ZbV (pv 4) Yz (Zt _)) Yz (ZQ JL (hr.mono (by omega)) rfl ZJ (Za (pv 4) Zi))) Zi)))) Zi))))) (Zn (Zx (pv 1))))), ?_⟩
  refine⟨Nat.zero_le _,fun S hS=>⟨_,rfl,p,rfl,⟨_,SqL.of (Zk hS _ _ hp)⟩,YQ (xs:=ds.map V.ref) (fun i σ H'=>∃(es:List Addr) (v2 v3 v4:Option V),σ=[some (.ref p),some (.ref S),v2,v3,v4]/\H' S=some (.lst (es.map V.ref))/\Paired (Ze5 Zj Zg Zh Zb H') es (rs.take i)/\Zy H H') ?_ ?_ ?_ ?_⟩⟩
  ·exact⟨[],none,none,none,rfl,Zc,.nil,Zk hS⟩
  ·rintro i σ H1 _ ⟨es,v2,v3,v4,rfl,_,_,s1⟩;exact SqL.of (s1 _ _ hp)
  ·rintro i x σ H1 hx ⟨es,v2,v3,v4,rfl,hs,ps,s1⟩;obtain⟨d,rfl,ed⟩:=YX hx;obtain⟨r,er,v,row,tr⟩:=Yh (Zaf (fun b xs e=>s1 _ _ e) pr) i d ed;have hi:i<rs.length:=(List.getElem?_eq_some_iff.mp er).1;have tk:rs.take (i+1)=rs.take i++[r]:=by rw[List.take_add_one,er];rfl
   have lt:=List.length_take_le i rs;have les:=Paired.length ps;rw[tk];have fin:∀v H2 dd,Zy H1 H2->Zt7 Zj Zg Zh Zb H2 r.tm v->H2 dd=none->∃H3,H3=upd (upd H2 dd (.tup [.str r.nm,oS r.el,v])) S (.lst (es.map V.ref++[.ref dd]))/\H3 S=some (.lst ((es++[dd]).map V.ref))/\Paired (Ze5 Zj Zg Zh Zb H3) (es++[dd]) (rs.take i++[r])/\Zy H H3:=fun v H2 dd s2 tv hd=>by
    have nS:S≠dd:=Zf (s2 _ _ hs) hd;have kp:∀c u,c≠S->H2 c=some u->upd (upd H2 dd (.tup [.str r.nm,oS r.el,v])) S (.lst (es.map V.ref++[.ref dd])) c=some u:=fun c u n e=>by
     rw[Zm n,Zm (Zf e hd)];exact e
    refine⟨_,rfl,by rw[Zc,List.map_append];rfl,ZbR (Zd8 (fun c xs e=>kp c _ (Yj e hs (fun z=>nomatch z)) (s2 _ _ e)) (fun c C dx fs e=>kp c _ (Yj e hs (fun z=>nomatch z)) (s2 _ _ e)) ps) ⟨v,by rw[Zm (Ne.symm nS),Zc], ?_⟩,fun c u e=>kp c u (Zf e hS) (s2 _ _ (s1 _ _ e))⟩
    revert tv
    cases r.tm with
    |none=>exact fun z=>z
    |some x=>exact fun⟨a,e,z⟩=>⟨a,e,z.keep fun c C dx fs e=>kp c _ (Yj e (s2 _ _ hs) (fun z=>nomatch z)) e⟩
   refine⟨d,_,rfl,SqT.of row,rfl,_,_,rfl,_,_,rfl,_,_,rfl,rfl, ?_⟩;have lse:(es.map V.ref).length<sizeLine:=by rw[List.length_map];omega
   refine⟨_,rfl,.inl ⟨rfl,_,SqL.of hs⟩,_,rfl,_,rfl, ?_⟩;cases et:r.tm with
   |none=>
    rw[et] at tr
    have tr:v=.non:=tr;subst tr;refine⟨_,rfl,rfl,_,rfl,Zb9 rfl ⟨(show 3<=sizeLine from sl),fun dd hd=> ?_⟩⟩;obtain⟨H3,e3,f1,f2,f3⟩:=fin .non H1 dd (Zy.refl _) (by rw[et];rfl) hd
    refine⟨S,_,V.ref dd,rfl,rfl,by rw[Zm (Zf hs hd)];exact hs,lse, ?_⟩
    rw[<-e3];exact⟨es++[dd],_,_,_,rfl,f1,f2,f3⟩
   |some t=>
    rw[et] at tr
    obtain⟨a,rfl,ta⟩:=tr;have g:=((gd r (List.mem_of_getElem? er)).tm t et)
    have dc:=Tr.deep_cnt t;refine⟨_,rfl,rfl,_,rfl,Yu (fun z=>nomatch z) ⟨_,rfl,a,t,rfl,ta,by omega,fun p2 H2 s2 ht=>⟨(show 3<=sizeLine from sl),fun dd hd=> ?_⟩⟩⟩;obtain⟨H3,e3,f1,f2,f3⟩:=fin (.ref p2) H2 dd s2 (by rw[et];exact⟨p2,rfl,ht⟩) hd
    refine⟨S,_,V.ref dd,rfl,rfl,by rw[Zm (Zf (s2 _ _ hs) hd)];exact s2 _ _ hs,lse, ?_⟩
    rw[<-e3];exact⟨es++[dd],_,_,_,rfl,f1,f2,f3⟩
  ·rintro σ H1 ⟨es,v2,v3,v4,rfl,hs,ps,s1⟩;rw[List.length_map,le,List.take_length] at ps
   exact⟨_,rfl,q S H1 hS s1 ⟨es,hs,ps⟩⟩
theorem Xr{H H':Hp}(s:Zy H H'){ds:List Addr}{rs:List Sr}:Paired (ZiM H) ds rs->Paired (ZiM H') ds rs:=Zaf fun b xs e=>s _ _ e
theorem two_ints(x y:Int){k:Int}(h0:0<=k)(h1:k<2):∃c,atI [V.int x,V.int y] k=some (.int c):=by
 have e:k=0\/k=1:=by omega
 rcases e with rfl|rfl
 ·exact⟨x,rfl⟩
 ·exact⟨y,rfl⟩
theorem two_strs(x y:Str)(b:Bool):∃c,atI [V.str x,V.str y] (if b=true then 1 else 0)=some (.str c):=by
 cases b
 ·exact⟨x,rfl⟩
 ·exact⟨y,rfl⟩
theorem Znj{s:Str}{ns:List Str}(h:s∈ns):∀n∈[s],n∈ns:=fun n m=>by rw[List.mem_singleton.mp m];exact h
theorem Xf:ZG ["_law_cell","_law_names_by","_law_far","_law_book","_law_number","_law_way","_law_record","_law_series","_law_kind","_law_hold","_law_day"] ["_law_cell","_law_names_by","_law_far","_law_book"] (Zw Zdx):=⟨rfl,rfl,rfl,by decide+kernel,rfl,by decide+kernel,by decide+kernel⟩
theorem ZjN{f:Addr}{fd:FuncData}(F:Fun K "_law_row_by" "_law_row_by" Zdx f fd)(T:Txt K mg Zj Zg Zh Zb Zo)(Yo:Cal P w K mg base CX0 1 "_law_name_by" ["_law_cell","_law_k"] Ji)(Zbv:Cal P w K mg base CX0 1 "_law_number_by" ["_law_cell","_law_names_by"] ZaT)(Zbw:Cal P w K mg base CX0 2 "_law_record_by" ["_law_number","_law_names_by"] ZaS):Yn P w K mg base CX0 3 f fd ["_law_cell","_law_names_by","_law_far","_law_book"] ZcN:=by
 refine F.ok Xf (fun vs H Q E h=> ?_) (fun cdv A outer s H vs Q E hr h=> ?_)
 ·obtain⟨c,b,far,p,rs,rfl,_⟩:=h
  rfl
 ·obtain⟨c,b,far,p,rs,rfl,⟨ds,hp,pr⟩,lo,hi,q⟩:=h;have l5:=YZ;have le:=Paired.length pr;refine⟨_,(Ze (Zz (i:=4) Xf.nd rfl (Or.inl rfl) (ZQ Zbv (hr.mono (by omega)) rfl ZJ (Za (pv 0) (Za (pv 1) Zi)))) (Ze (Zz (i:=5) Xf.nd rfl (Or.inl rfl) (ZC Yb (pv 4) Zd)) (Ze (Zz (i:=6) Xf.nd rfl (Or.inl rfl) (ZQ Zbw (hr.mono (by omega)) rfl ZJ (Za (ZC Yb (ZC Yv (pv 4) Zd) Zd) (Za (pv 1) Zi)))) (Ze (Zz (i:=7) Xf.nd rfl (Or.inl rfl) (Zr Zu (Zr YJ (pv 3) (ZC Yb (ZC Yv (pv 4) Zd) (ZM Js (by rfl) T.z_len Zbm (Za (pv 3) Zi))) (fun _ _=>rfl)) Zd (fun _ _=>rfl))) (Ze (Zz (i:=4) Xf.nd rfl (Or.inl rfl) (ZC Yv (ZC Yv (pv 4) Zd) (ZM Js (by rfl) T.z_len Zbm (Za (pv 3) Zi)))) (Ze (Zz (i:=8) Xf.nd rfl (Or.inl rfl) (ZQ Yo (hr.mono (by omega)) rfl ZJ (Za (pv 1) (Za (ZC Yb (pv 4) Zd) Zi)))) (Ze (Zz (i:=9) Xf.nd rfl (Or.inl rfl) (ZQ Yo (hr.mono (by omega)) rfl ZJ (Za (pv 1) (Za (ZC Yb (ZC Yv (pv 4) Zd) Zd) Zi)))) (Ze (Zz (i:=10) Xf.nd rfl (Or.inl rfl) (ZC XM (pv 2) (Zr YJ (ZX (Za (ZC Yb (ZC Yv (pv 4) Zd) Zd) (Za (ZC Yb (ZC Yv (pv 4) Zd) Zd) Zi))) (ZC Yb (ZC Yv (pv 4) Zd) Zd) (fun _ _=>rfl)))) (Ze (ZS (PW.pt (Zb5 (Zq Ze9 (pv 5) Zd (Zt _)) (ZbS (PW.pt (Xb (Zq ZZ (ZC Yb (pv 1) Zd) Zd (Zt _)) (YT (Zq Ze9 (pv 5) Zd (Zt _)))))))) (Zn (Zx (Yr (Za ZD (Za (pv 6) (Za (pv 7) (Za (pv 10) Zi))))))) ZF) (Ze (ZS (Zq Ze9 (pv 5) Zd (Zt _)) (Zn (Zx (Yr (Za ZD (Za (pv 6) (Za (pv 7) (Za (pv 10) Zi))))))) ZF) (Ze (ZS (Zq Ze9 (pv 5) Zd (Zt _)) (Zn (Zx (Yr (Za ZD (Za (pv 6) (Za (Zr YJ (ZX (Za (pv 8) (Za ZD Zi))) (JT ZcZ (by rfl) T.z_int ZgA (Za (Jz ZZ (ZC Yb (ZC Yv (pv 4) Zd) Zd) Zd (Zt _)) Zi)) (fun _ _=>rfl)) (Za (pv 10) Zi))))))) ZF) (Ze (ZS (Zq ZZ (pv 5) Zd (Zt _)) (Zn (Zx (Yr (Za ZD (Za (pv 9) (Za (pv 10) Zi)))))) ZF) (Ze (ZS (Zq ZZ (pv 5) Zd (Zt _)) (Zn (Zx (Yr (Za ZD (Za (pv 9) (Za ZD (Za (pv 6) (Za (pv 10) Zi)))))))) ZF) (Zn (Zx (Yr (Za ZD (Za (pv 9) (Za ZD (Za (pv 7) (Za (pv 10) Zi))))))))))))))))))))), ?_⟩
  refine⟨_,rfl,_,rfl,c,b,rfl,fun n H1 n0 s1=> ?_⟩;refine(vI rfl (by show(0:Int)<11;decide) ?_)
  refine(vI rfl ⟨by decide,by decide⟩ ⟨_,_,rfl,rfl,(by show(0:Int)<40;decide),_,rfl,_,_,rfl,fun z H2 s2=> ?_⟩)
  have hp2:=s2 _ _ (s1 _ _ hp);have pl:(0:Int)<(((ds.map V.ref).length:Nat):Int):=by rw[List.length_map];omega
  have i0:=Int.emod_nonneg (n/440) (Int.ne_of_gt pl);have i1:=Int.emod_lt_of_pos (n/440) pl;obtain⟨v,ev⟩:=Zg2 (xs:=ds.map V.ref) (i:=n/440%(((ds.map V.ref).length:Nat):Int)) (by omega) i1;obtain⟨j,_,hj,_⟩:=ZeQ ev;obtain⟨dd,rfl,hdd⟩:=YX hj;obtain⟨r,er,u,row,_⟩:=Yh (Xr (s1.trans s2) pr) j dd hdd;have rin:r.nm∈rs.map Sr.nm:=List.mem_map_of_mem (List.mem_of_getElem? er);refine⟨_,rfl,vI rfl ⟨by decide,by decide⟩ ⟨_,rfl,_,_,rfl,.inl ⟨_,SqL.of hp2,rfl⟩,_,_,rfl,rfl,pl,p,_,_,_,rfl,rfl,SqL.of hp2,ev,dd,_,_,_,rfl,rfl,SqT.of row,rfl, ?_⟩⟩
  refine(vI rfl ⟨by decide,by decide⟩ ⟨_,rfl,_,_,rfl,.inl ⟨_,SqL.of hp2,rfl⟩,_,_,rfl,rfl,⟨pl,by rw[List.length_map];omega⟩, ?_⟩)
  refine⟨_,rfl,vI rfl (by show(0:Int)<9;decide) ⟨_,_,rfl,fun H3 s3=> ?_⟩⟩
  refine⟨_,rfl,vI rfl ⟨by decide,by decide⟩ ⟨_,_,rfl,rfl,(by show(0:Int)<5;decide),_,_,rfl,fun H4 s4=> ?_⟩⟩
  obtain⟨e,ee⟩:=two_ints ((n/440/(((ds.map V.ref).length:Nat):Int))/90%900) ((n/440/(((ds.map V.ref).length:Nat):Int))/90%4000) (Int.emod_nonneg ((n/440/(((ds.map V.ref).length:Nat):Int))/45) (by decide)) (Int.emod_lt_of_pos ((n/440/(((ds.map V.ref).length:Nat):Int))/45) (by decide));refine⟨_,rfl,vI rfl ⟨by decide,by decide⟩ ⟨_,_,rfl,rfl,(by show(0:Int)<900;decide),vI rfl ⟨by decide,by decide⟩ ⟨_,_,rfl,rfl,(by show(0:Int)<4000;decide),(show 2<=sizeLine from sl),fun t0 ht0=>vI rfl ⟨by decide,by decide⟩ ⟨_,_,rfl,rfl,(by show(0:Int)<2;decide),t0,_,_,_,rfl,rfl,SqL.of Zc,ee,_,_,rfl,rfl, ?_⟩⟩⟩⟩
  have s5:=s1.trans (s2.trans (s3.trans (s4.trans (Zk ht0 (o:=.lst [.int ((n/440/(((ds.map V.ref).length:Nat):Int))/90%900),.int ((n/440/(((ds.map V.ref).length:Nat):Int))/90%4000)])))));refine(fun put rest=>⟨_,rfl,_,_,rfl,rfl,_,rfl,Yp (fun _=>XX put) (fun _=>vI rfl (by show(0:Int)<4;decide) ⟨rfl,_,rfl,Yp (fun _=>⟨_,rfl,_,_,rfl,rfl,_,rfl,Yp (fun _=>put) (fun _=>rest)⟩) (fun _=>ZW rest)⟩)⟩) ?put ?rest
  case put=>exact⟨_,rfl,_,rfl,_,rfl,(show 4<=sizeLine from sl),fun d hd=>q (.put z r.nm (far+e)) d _ (s5.trans (Zk hd)) Zc (Znj rin)⟩
  case rest=>
   refine⟨_,rfl,_,_,rfl,rfl,_,rfl,Yp (fun _=> ?_) (fun _=> ?_)⟩
   ·exact⟨_,rfl,_,rfl,_,rfl,(show 4<=sizeLine from sl),fun d hd=>q (.move z r.nm (far+e)) d _ (s5.trans (Zk hd)) Zc (Znj rin)⟩
   refine⟨_,rfl,_,_,rfl,rfl,_,rfl,Yp (fun _=> ?_) (fun _=> ?_)⟩
   ·obtain⟨kd,ek⟩:=two_strs (ZbD b ((n/440/(((ds.map V.ref).length:Nat):Int))%9)) (Str.ofString "put") (decide (V.int ((n/440/(((ds.map V.ref).length:Nat):Int))/360000%9)=V.int 7));refine⟨_,rfl,_,rfl,(show 2<=sizeLine from sl),fun t1 ht1=>vI rfl ⟨by decide,by decide⟩ ⟨_,_,rfl,rfl,(by show(0:Int)<9;decide),rfl,.inr ⟨_,rfl,t1,_,_,_,rfl,rfl,SqL.of Zc,ek,_,rfl,(show 4<=sizeLine from sl),fun d hd=>q (.deed z kd (far+e)) d _ (s5.trans ((Zk ht1).trans (Zk hd))) Zc (fun _ z=>nomatch z)⟩⟩⟩
   refine⟨_,rfl,rfl,_,rfl,Yp (fun _=> ?_) (fun _=> ?_)⟩
   ·exact⟨_,rfl,_,rfl,(show 3<=sizeLine from sl),fun d hd=>q (.lift _ (far+e)) d _ (s5.trans (Zk hd)) Zc (fun _ z=>nomatch z)⟩
   refine⟨_,rfl,rfl,_,rfl,Yp (fun _=> ?_) (fun _=> ?_)⟩
   ·exact⟨_,rfl,_,rfl,_,rfl,(show 5<=sizeLine from sl),fun d hd=>q (.hold _ true z (far+e)) d _ (s5.trans (Zk hd)) Zc (fun _ z=>nomatch z)⟩
   ·exact⟨_,rfl,_,rfl,_,rfl,(show 5<=sizeLine from sl),fun d hd=>q (.hold _ false r.nm (far+e)) d _ (s5.trans (Zk hd)) Zc (Znj rin)⟩
theorem Zql:∀w:Rw,Ze8 w.vs none (some 2)=[.str w.word,.str w.one]
 | .put _ _ _=>rfl
 | .move _ _ _=>rfl
 | .deed _ _ _=>rfl
 | .lift _ _=>rfl
 | .hold _ _ _ _=>rfl
theorem Zkq:∀w:Rw,¬(HT.sIx w.vs.length 0 none=0/\HT.sIx w.vs.length w.vs.length (some 2)=w.vs.length)
 | .put _ _ _=>by show¬(HT.sIx 4 0 none=0/\HT.sIx 4 4 (some 2)=4);decide
 | .move _ _ _=>by show¬(HT.sIx 4 0 none=0/\HT.sIx 4 4 (some 2)=4);decide
 | .deed _ _ _=>by show¬(HT.sIx 4 0 none=0/\HT.sIx 4 4 (some 2)=4);decide
 | .lift _ _=>by show¬(HT.sIx 3 0 none=0/\HT.sIx 3 3 (some 2)=3);decide
 | .hold _ _ _ _=>by show¬(HT.sIx 5 0 none=0/\HT.sIx 5 5 (some 2)=5);decide
def ZeC(H:Hp)(a:Addr)(w:Rw):Prop:=H a=some (.tup [.str w.word,.str w.one])
theorem Zjf{H H':Hp}(s:Zy H H'):∀{ds:List Addr} {ws:List Rw},Paired (ZeC H) ds ws->Paired (ZeC H') ds ws
 |_,_,.nil=> .nil
 |_,_,.cons h t=> .cons (s _ _ h) (Zjf s t)
def hdD(w:Rw):Dt:=.tup [.v (.str w.word),.v (.str w.one)]
theorem Zqm{H:Hp}{a:Addr}{w:Rw}(h:ZeC H a w):Rep K H (hdD w) (.ref a):=.tup (SqT.of h) (.cons (.flat rfl) (.cons (.flat rfl) .nil))
theorem ZnV{H:Hp}:∀{ds:List Addr} {ws:List Rw},Paired (ZeC H) ds ws->ZfX K H (ws.map hdD) (ds.map V.ref)
 |_,_,.nil=> .nil
 |_,_,.cons h t=> .cons (Zqm h) (ZnV t)
theorem Zre{w:Rw}(h:w.word="deed"):∃r k d,w=.deed r k d:=by
 cases w with
 |put _ _ _=>exact absurd h (show¬(Str.ofString "put"=Str.ofString "deed") by decide+kernel)
 |move _ _ _=>exact absurd h (show¬(Str.ofString "move"=Str.ofString "deed") by decide+kernel)
 |deed r k d=>exact⟨r,k,d,rfl⟩
 |lift _ _=>exact absurd h (show¬(Str.ofString "lift"=Str.ofString "deed") by decide+kernel)
 |hold _ _ _ _=>exact absurd h (show¬(Str.ofString "hold"=Str.ofString "deed") by decide+kernel)
theorem Za7{H H':Hp}(s:∀b xs,H b=some (.tup xs)->H' b=some (.tup xs)):∀{ds:List Addr} {ws:List Rw},Paired (Zd5 H) ds ws->Paired (Zd5 H') ds ws
 |_,_,.nil=> .nil
 |_,_,.cons h t=> .cons (s _ _ h) (Za7 s t)
theorem Zjg{H H':Hp}(s:∀b xs,H b=some (.tup xs)->H' b=some (.tup xs)):∀{ds:List Addr} {ws:List Rw},Paired (ZeC H) ds ws->Paired (ZeC H') ds ws
 |_,_,.nil=> .nil
 |_,_,.cons h t=> .cons (s _ _ h) (Zjg s t)
def RSt(rs:List Sr)(H:Hp)(R d:Addr)(w:Rw)(m:Nat)(H':Hp):Prop:=∃(es:List Addr) (ws:List Rw) (xs:List Str),H' R=some (.lst (es.map V.ref))/\Paired (Zd5 H') es ws/\H' d=some (.tup w.vs)/\Xq rs m xs ws/\w.one∈xs/\Zy H H'
theorem Xq.more{rs:List Sr}{i:Nat}{ns:List Str}{ws:List Rw}{w:Rw}(h:Xq rs i ns ws)(nm:∀n∈Zay w,n∈rs.map Sr.nm)(nc:∀a∈ws,¬Zka a w):Xq rs (i+1) (ns++[w.one]) (ws++[w]):=by
 refine⟨?_, ?_,fun x hx=> ?_,List.pairwise_append.mpr ⟨h.one,List.pairwise_singleton ..,fun a ha b hb=> ?_⟩, ?_,fun x hx e=> ?_⟩
 ·have:=h.len;rw[List.length_append,List.length_singleton];omega
 ·have:=h.held;have l:=List.length_filter_le JH [w];rw[List.filter_append,List.length_append];rw[List.length_singleton] at l
  omega
 ·rcases List.mem_append.mp hx with hx|hx
  ·exact h.named x hx
  ·rw[List.mem_singleton.mp hx];exact nm
 ·rw[List.mem_singleton.mp hb];exact nc a ha
 ·have:=h.nl;rw[List.length_append,List.length_singleton];omega
 ·rcases List.mem_append.mp hx with hx|hx
  ·exact List.mem_append_left _ (h.few x hx e)
  ·rw[List.mem_singleton.mp hx];exact List.mem_append_right _ (List.mem_singleton_self _)
theorem Xq.stay{rs:List Sr}{i:Nat}{ns:List Str}{ws:List Rw}(x:Str)(h:Xq rs i ns ws):Xq rs (i+1) (ns++[x]) ws:=
 ⟨Nat.le_succ_of_le h.len,Nat.le_succ_of_le h.held,h.named,h.one,by have:=h.nl;rw[List.length_append,List.length_singleton];omega,fun w hw e=>List.mem_append_left _ (h.few w hw e)⟩
theorem Zfc{a:Rw}{r k:Str}{d:Int}:¬Zka a (.deed r k d):=fun⟨h,_⟩=>h.elim (fun z=>absurd z (by decide+kernel:¬Str.ofString "deed"=Str.ofString "put")) (fun z=>absurd z (by decide+kernel:¬Str.ofString "deed"=Str.ofString "hold"))
theorem Xq.deeds{rs:List Sr}{i:Nat}{ns:List Str}{ws:List Rw}{r k:Str}{d:Int}(h:Xq rs i ns ws)(m:r∈ns)(l:ws.length<80):Xq rs i ns (ws++(List.range 20).map fun t:Nat=>Rw.deed r k (d+(t:Int))):=by
 have all:∀x∈(List.range 20).map (fun t:Nat=>Rw.deed r k (d+(t:Int))),∃t:Nat,x=Rw.deed r k (d+(t:Int)):=fun x hx=>by
  obtain⟨t,_,rfl⟩:=List.mem_map.mp hx;exact⟨t,rfl⟩
 refine⟨?_, ?_,fun x hx=> ?_,List.pairwise_append.mpr ⟨h.one,List.pairwise_iff_forall_sublist.mpr fun{a b} z=> ?_,fun a _ b hb=> ?_⟩,h.nl,fun x hx e=> ?_⟩
 ·rw[List.length_append,List.length_map,List.length_range];omega
 ·have:((List.range 20).map fun t:Nat=>Rw.deed r k (d+(t:Int))).filter JH=[]:=by
   rw[List.filter_eq_nil_iff];intro w hw;obtain⟨t,rfl⟩:=all w hw;exact fun z=>nomatch z
  rw[List.filter_append,this,List.append_nil];exact h.held
 ·rcases List.mem_append.mp hx with hx|hx
  ·exact h.named x hx
  ·obtain⟨t,rfl⟩:=all x hx;exact fun _ z=>nomatch z
 ·obtain⟨t,rfl⟩:=all b (z.subset (List.mem_cons_of_mem _ (List.mem_singleton_self _)));exact Zfc
 ·obtain⟨t,rfl⟩:=all b hb;exact Zfc
 ·rcases List.mem_append.mp hx with hx|hx
  ·exact h.few x hx e
  ·obtain⟨t,rfl⟩:=all x hx;exact m
theorem ZoN{w:Rw}{ws:List Rw}(e:(if true=true then !inV (V.str w.word) [V.str (Str.ofString "put"),V.str (Str.ofString "hold")] else inV (V.str w.word) [V.str (Str.ofString "put"),V.str (Str.ofString "hold")])=true):∀a∈ws,¬Zka a w:=fun a _ ⟨h,_⟩=>by
 rw[if_pos rfl] at e
 have:inV (V.str w.word) [V.str (Str.ofString "put"),V.str (Str.ofString "hold")]=true:=by
  unfold inV;rcases h with h|h
  ·exact List.any_eq_true.mpr ⟨_,List.mem_cons_self ..,by rw[h];exact Jt rfl⟩
  ·exact List.any_eq_true.mpr ⟨_,List.mem_cons_of_mem _ (List.mem_singleton_self _),by rw[h];exact Jt rfl⟩
 rw[this] at e
 cases e
theorem ZoO{w:Rw}{ws:List Rw}{n:Nat}(l:n=ws.length)(e:(if true=true then !((ws.take n).map hdD).any fun e=>Xp 2 e (hdD w) else((ws.take n).map hdD).any fun e=>Xp 2 e (hdD w))=true):∀a∈ws,¬Zka a w:=fun a ha ⟨_,h1,h2⟩=>by
 rw[if_pos rfl,l,List.take_length] at e
 have:((ws.map hdD).any fun e=>Xp 2 e (hdD w))=true:=List.any_eq_true.mpr ⟨hdD a,List.mem_map_of_mem ha,by
  have h:hdD a=hdD w:=by unfold hdD;rw[h1,h2]
  rw[h];have a1:=Jt (x:=V.str w.word) rfl;have b1:=Jt (x:=V.str w.one) rfl;show((eqV (V.str w.word) (V.str w.word)&&(eqV (V.str w.one) (V.str w.one)&&true))&&(2==2))=true;rw[a1,b1]
  rfl⟩
 rw[this] at e
 cases e
theorem JM:ZG ["_law_cells","_law_names_by","_law_far","_law_book","_law_rows","_law_cell","_law_row"] ["_law_cells","_law_names_by","_law_far","_law_book"] (Zw ZcH):=⟨rfl,rfl,rfl,by decide+kernel,rfl,by decide+kernel,by decide+kernel⟩
theorem Zjh{f:Addr}{fd:FuncData}(F:Fun K "_law_rows_by" "_law_rows_by" ZcH f fd)(T:Txt K mg Zj Zg Zh Zb Zo)(ZdX:Cal P w K mg base CX0 3 "_law_row_by" ["_law_cell","_law_names_by","_law_far","_law_book"] ZcN):Yn P w K mg base CX0 4 f fd ["_law_cells","_law_names_by","_law_far","_law_book"] Zca:=by
 refine F.ok JM (fun vs H Q E h=> ?_) (fun cdv A outer s H vs Q E hr h=> ?_)
 ·obtain⟨a,ns,b,far,p,rs,rfl,_⟩:=h
  rfl
 ·obtain⟨a,ns,b,far,p,rs,rfl,ha,ln,⟨ds,hp,pr⟩,lo,hi,q⟩:=h;have l5:=YZ;have hu3:=ZlQ hr;refine⟨_,(Ze (Zz (i:=4) JM.nd rfl (Or.inl rfl) (ZX Zi)) (Ze (Xw PassesOwn.never rfl (Yg (pv 0)) (ZK (i:=5) JM.nd rfl (Or.inl rfl)) (Ze (Zz (i:=6) JM.nd rfl (Or.inr rfl) (ZQ ZdX (hr.mono (by omega)) rfl ZJ (Za (pv 5) (Za (pv 1) (Za (pv 2) (Za (pv 3) Zi)))))) (Ze (ZS (PW.pt (Zb5 (Zq Zds (Zr Zu (pv 6) Zd (fun _ _=>rfl)) (ZX (Za ZD (Za ZD Zi))) rfl) (ZbS (Zq (Zom hu3) (Zd0 ZkB (pv 6) ZhS (Zco Zd)) (Jh ["_law_other"] [] rfl (Yg (pv 4)) (by rfl) (by exact trivial) (by rfl) (by exact trivial) (fun _ _ _ _=>(ZK (i:=0) (show(nmY ["_law_other"] []).Nodup by decide+kernel) rfl (Or.inl rfl))) (fun _ _ _ _=>Zdu) (fun _ _ _ _=>(Zd0 (ZnG (K:=K) rfl) (pv 0) ZhS (Zco Zd)))) rfl)))) (Zn (YB (JG PySem.F.plainAttrs_list PySem.F.slot_list_append PySem.F.type_list_append Yk (pv 4) (Za (pv 6) Zi)))) ZF) (Zn (ZS (PW.pt (Xb (Zq ZZ (Zr Zu (pv 6) Zd (fun _ _=>rfl)) ZD (Zt _)) (Xb (Zq ZZ (ZC Yb (ZM Zie (by rfl) T.z_abs ZmJ (Za (pv 5) Zi)) Zd) Zd (Zt _)) (YT (Zq Ze9 (ZM Js (by rfl) T.z_len Zbm (Za (pv 4) Zi)) Zd (Zt _)))))) (Zn (Zz (i:=4) JM.nd rfl (Or.inl rfl) (ZC ZeS (pv 4) (Jh ["_law_k"] [("_law_row",6)] rfl (ZcY rfl T.z_range (Za Zd Zi)) (by rfl) (by exact⟨rfl,trivial⟩) (by rfl) (by exact⟨⟨rfl,rfl,rfl⟩,trivial⟩) (fun _ _ _ _=>(ZK (i:=0) (show(nmY ["_law_k"] [("_law_row",6)]).Nodup by decide+kernel) rfl (Or.inl rfl))) (fun _ _ _ _=>Zdu) (fun _ _ _ _=>(ZC (ZpQ (K:=K) rfl) (Zd0 (ZnG (K:=K) rfl) (pv 1) ZhS (Zco Zd)) (Yr (Za (ZC XM (Zr (Yq (K:=K) rfl) (pv 1) Zd (fun _ _=>rfl)) (pv 0)) Zi)))))))) ZF))))) (Zn (Zx (pv 4))))), ?_⟩
  refine⟨Nat.zero_le _,fun R0 hR0=>⟨_,rfl,a,rfl,⟨_,SqL.of (Zk hR0 _ _ ha)⟩,YQ (xs:=ns.map V.int) (fun i σ H'=>∃(R:Addr) (ws:List Rw) (xs:List Str) (v5 v6:Option V),σ=[some (.ref a),some (.int b),some (.int far),some (.ref p),some (.ref R),v5,v6]/\Ys H' R ws/\H R=none/\Xq rs i xs ws/\Zy H H') ?_ ?_ ?_ ?_⟩⟩
  ·exact⟨R0,[],[],none,none,rfl,⟨[],Zc,.nil⟩,hR0,⟨Nat.zero_le _,Nat.zero_le _,(fun w hw=>nomatch hw),.nil,Nat.zero_le _,(fun w hw=>nomatch hw)⟩,Zk hR0⟩
  ·rintro i σ H1 _ ⟨R,ws,xs,v5,v6,rfl,_,_,_,s1⟩;exact SqL.of (s1 _ _ ha)
  ·rintro i x σ H1 hx ⟨R,ws,xs,v5,v6,rfl,⟨es,hR,pw⟩,nR,ri,s1⟩;have hi2:i<ns.length:=by
    have:=(List.getElem?_eq_some_iff.mp hx).1
    rwa [List.length_map] at this
   obtain⟨c,rfl⟩:∃c,x=V.int c:=by
    rw[List.getElem?_map] at hx
    cases q:ns[i]? with
    |none=>rw[q] at hx;cases hx
    |some c=>rw[q] at hx;cases hx;exact⟨c,rfl⟩
   have le:=Paired.length pw;refine⟨_,rfl,_,rfl,_,rfl,_,rfl,c,b,far,p,rs,rfl,⟨ds,s1 _ _ hp,Xr s1 pr⟩,lo,hi,fun w d H2 s2 hd spw=> ?_⟩;have hd:H2 d=some (.tup w.vs):=hd;have hR2:=s2 _ _ hR;have pw2:=ZR s2 pw;have s12:=s1.trans s2;have stay:∀Ha,Zy H2 Ha->RSt rs H R d w (i+1) Ha:=fun Ha sa=>⟨es,ws,_,sa _ _ hR2,ZR sa pw2,sa _ _ hd,ri.stay w.one,List.mem_append_right _ (List.mem_singleton_self _),s12.trans sa⟩
   have more:∀Ha,Zy H2 Ha->(∀a∈ws,¬Zka a w)->RSt rs H R d w (i+1) (upd Ha R (.lst (es.map V.ref++[.ref d]))):=fun Ha sa nc=>by
    have kp:∀c u,c≠R->Ha c=some u->upd Ha R (.lst (es.map V.ref++[.ref d])) c=some u:=fun c u n e=>by rw[Zm n];exact e
    have kt:∀c xs,H2 c=some (.tup xs)->upd Ha R (.lst (es.map V.ref++[.ref d])) c=some (.tup xs):=fun c xs e=>kp c _ (Yj e hR2 (fun z=>nomatch z)) (sa _ _ e);exact⟨es++[d],ws++[w],_,by rw[Zc,List.map_append];rfl,ZbR (Za7 kt pw2) (kt _ _ hd),kt _ _ hd,ri.more spw nc,List.mem_append_right _ (List.mem_singleton_self _),fun c u e=>kp c u (Zf e nR) (sa _ _ (s12 _ _ e))⟩
   have l1:=ri.len;have lse:(es.map V.ref).length<sizeLine:=by rw[List.length_map];omega
   refine(fun(rest:∀H3,RSt rs H R d w (i+1) H3->(_:Hp->Prop) H3)=>⟨_,rfl,d,_,_,_,rfl,rfl,SqT.of hd,Jq w,(show 2<=sizeLine from sl),fun t1 ht1=>⟨t1,_,rfl,.inl (SqL.of Zc),rfl,rfl,_,rfl,Zkn (fun _=> ?_) (fun e=>XX ⟨_,rfl,.inl ⟨rfl,_,SqL.of (Zk ht1 _ _ hR2)⟩,_,rfl,R,_,V.ref d,rfl,rfl,Zk ht1 _ _ hR2,lse,rest _ (more _ (Zk ht1) (ZoN e))⟩)⟩⟩) ?rest
   case rest=>
    rintro H3 ⟨es3,ws3,xs3,hR3,pw3,hd3,ri3,in3,s3⟩;have l3:=ri3.len;have le3:=Paired.length pw3;refine⟨_,rfl,d,_,_,_,rfl,rfl,SqT.of hd3,Jq w,rfl,_,rfl,Yp (fun e1=> ?_) (fun _=>ZW ⟨R,ws3,xs3,_,_,rfl,⟨es3,hR3,pw3⟩,nR,ri3,s3⟩)⟩;refine⟨_,rfl,_,rfl,_,_,rfl,rfl,(by show(0:Int)<13;decide),rfl,_,rfl,Yp (fun _=> ?_) (fun _=>ZW ⟨R,ws3,xs3,_,_,rfl,⟨es3,hR3,pw3⟩,nR,ri3,s3⟩)⟩
    refine⟨_,rfl,_,_,rfl,.inl ⟨_,SqL.of hR3,rfl⟩,_,_,rfl,rfl,_,rfl,Yp (fun e3=> ?_) (fun _=>⟨R,ws3,xs3,_,_,rfl,⟨es3,hR3,pw3⟩,nR,ri3,s3⟩)⟩;have e1:w.word="deed":=by
     have:=of_decide_eq_true e1
     injection this
    have e3:(((es3.map V.ref).length:Nat):Int)<80:=of_decide_eq_true e3;rw[List.length_map] at e3
    obtain⟨r,k,d0,rfl⟩:=Zre e1;have hd3:H3 d=some (.tup [.str "deed",.str r,.str k,.int d0]):=hd3;refine⟨_,rfl,20,rfl,by decide,by decide,ZfV fun D hD=>⟨20,fun j ys H4=>∃es4:List Addr,ys=es4.map V.ref/\Paired (Zd5 H4) es4 ((List.range j).map fun t:Nat=>Rw.deed r k (d0+(t:Int)))/\Zy H3 H4,by omega,⟨[],rfl,.nil,Zk hD⟩, ?_, ?_, ?_, ?_, ?_⟩⟩
    ·rintro j ys H4 ⟨es4,rfl,p4,_⟩;have:=Paired.length p4;rw[List.length_map,List.length_range] at this
     rw[List.length_map];omega
    ·rintro j ys zs H4 H5 eD kp ⟨es4,rfl,p4,s4⟩;exact⟨es4,rfl,Za7 (fun c xs e=>kp c _ (Yj e eD (fun z=>nomatch z)) e) p4,fun c u e=>kp c u (Zf e hD) (s4 _ _ e)⟩
    ·intro j ys H4 _ lt;exact lt
    ·rintro ys H4 ⟨es4,rfl,p4,s4⟩ hD4;refine⟨Nat.le_refl _,R,D,_,_,rfl,rfl,SqL.of (s4 _ _ hR3),SqL.of hD4, ?_,fun p5 hp5=> ?_⟩
     ·have:=Paired.length p4;rw[List.length_map,List.length_range] at this
      rw[List.length_map,List.length_map];omega
     have s5:=s4.trans (Zk hp5 (o:=.lst (es3.map V.ref++es4.map V.ref)));have z4:=ZR (Zk hp5 (o:=.lst (es3.map V.ref++es4.map V.ref))) p4;refine⟨p5,ws3++(List.range 20).map fun t:Nat=>Rw.deed r k (d0+(t:Int)),xs3,_,_,rfl,⟨es3++es4,by rw[Zc,List.map_append],Zex (ZR s5 pw3) z4⟩, ?_,ri3.deeds in3 (by omega),s3.trans s5⟩;cases e:H p5 with
     |none=>rfl
     |some u=>rw[s4 _ _ (s3 _ _ e)] at hp5;cases hp5
    ·rintro j x ys H4 H5 ⟨es4,rfl,p4,s4⟩ hD4 lt ⟨rfl,rfl⟩ RT RF rt rf;have h5:=s4 _ _ hd3;refine⟨⟨rfl,trivial⟩,ZlO ?_⟩;refine⟨_,rfl,_,rfl,d,_,rfl,SqT.of h5,(by show¬(HT.sIx 4 0 none=0/\HT.sIx 4 4 (some 3)=4);decide),fun p1 hp1=> ?_⟩
     have t1:=Zk hp1 (o:=.tup (Ze8 [.str "deed",.str r,.str k,.int d0] none (some 3)));refine⟨_,rfl,d,_,_,_,rfl,rfl,SqT.of (t1 _ _ h5),rfl,_,rfl,_,_,rfl,rfl,(show 1<=sizeLine from sl),fun p2 hp2=> ?_⟩;refine⟨p1,p2,_,_,rfl,rfl,SqT.of (Zk hp2 _ _ Zc),SqT.of Zc,(fun z=>nomatch z),(show 4<=sizeLine from sl),(fun z=>nomatch z),fun _ p3 hp3=> ?_⟩;have s5:=t1.trans ((Zk hp2 (o:=.tup [.int (d0+(0+(j:Int)))])).trans (Zk hp3 (o:=.tup [.str "deed",.str r,.str k,.int (d0+(0+(j:Int)))])))
     refine rt _ _ (s5 _ _ hD4) ⟨es4++[p3],by rw[List.map_append];rfl, ?_,s4.trans s5⟩
     rw[List.range_succ,List.map_append];refine ZbR (ZR s5 p4) ?_;show upd _ p3 _ p3=some (.tup [.str "deed",.str r,.str k,.int (d0+(j:Int))]);rw[Zc,show(0:Int)+(j:Int)=(j:Int) by omega]
     rfl
   ·refine⟨_,rfl,_,rfl,d,_,rfl,SqT.of (Zk ht1 _ _ hd),Zkq w,fun p1 hp1=> ?_⟩;have sa:=(Zk ht1 (o:=.lst [.str "put",.str "hold"])).trans (Zk hp1 (o:=.tup (Ze8 w.vs none (some 2))));have hp1':ZeC (upd (upd H2 t1 (.lst [.str "put",.str "hold"])) p1 (.tup (Ze8 w.vs none (some 2)))) p1 w:=by
     show upd _ p1 _ p1=_;rw[Zc,Zql]
    generalize upd (upd H2 t1 (.lst [.str "put",.str "hold"])) p1 (.tup (Ze8 w.vs none (some 2)))=H3 at sa hp1'⊢
    have hR3:=sa _ _ hR2;have pw3:=ZR sa pw2;refine⟨_,rfl,R,rfl,⟨_,SqL.of hR3⟩,ZfV fun D hD=>⟨es.length,fun j ys H4=>∃es4:List Addr,ys=es4.map V.ref/\Paired (ZeC H4) es4 (ws.take j)/\Zy H3 H4,by omega,⟨[],rfl,.nil,Zk hD⟩, ?_, ?_, ?_, ?_, ?_⟩⟩
    ·rintro j ys H4 ⟨es4,rfl,p4,_⟩;have:=Paired.length p4;have l4:=List.length_take_le j ws;rw[List.length_map];omega
    ·rintro j ys zs H4 H5 eD kp ⟨es4,rfl,p4,s4⟩;exact⟨es4,rfl,Zjg (fun c xs e=>kp c _ (Yj e eD (fun z=>nomatch z)) e) p4,fun c u e=>kp c u (Zf e hD) (s4 _ _ e)⟩
    ·rintro j ys H4 ⟨_,_,_,s4⟩ lt;exact⟨_,_,SqL.of (s4 _ _ hR3),List.getElem?_eq_getElem (by rw[List.length_map];exact lt)⟩
    ·rintro ys H4 ⟨es4,rfl,p4,s4⟩ hD4;refine⟨⟨_,SqL.of (s4 _ _ hR3),by rw[List.length_map];exact Nat.le_refl _⟩, ?_⟩
     refine⟨D,2,hdD w,_,_,rfl,by decide,SqL.of hD4,Zqm (s4 _ _ hp1'),ZnV p4, ?_,_,rfl,Yp (fun e=> ?_) (fun _=>rest _ (stay _ (sa.trans s4)))⟩
     ·intro e he;obtain⟨w',_,rfl⟩:=List.mem_map.mp he
      rfl
     ·exact⟨_,rfl,.inl ⟨rfl,_,SqL.of (s4 _ _ hR3)⟩,_,rfl,R,_,V.ref d,rfl,rfl,s4 _ _ hR3,lse,rest _ (more _ (sa.trans s4) (ZoO le e))⟩
    ·rintro j x ys H4 H5 ⟨es4,rfl,p4,s4⟩ hD4 lt ⟨rfl,yl⟩ RT RF rt rf;obtain⟨d1,rfl,ed⟩:=YX (yl _ (SqL.of (s4 _ _ hR3)));obtain⟨w1,ew,row⟩:=Yh (ZR s4 pw3) j d1 ed;have row:H5 d1=some (.tup w1.vs):=row;refine⟨trivial,ZlO ⟨_,rfl,_,rfl,d1,_,rfl,SqT.of row,Zkq w1,fun p2 hp2=> ?_⟩⟩;refine rt _ _ (Zk hp2 _ _ hD4) ⟨es4++[p2],by rw[List.map_append];rfl, ?_,s4.trans (Zk hp2)⟩
     rw[List.take_add_one,ew];refine ZbR (Zjf (Zk hp2) p4) ?_;show upd _ p2 _ p2=_;rw[Zc,Zql]
  ·rintro σ H1 ⟨R,ws,xs,v5,v6,rfl,hw,nR,ri,s1⟩;rw[List.length_map] at ri
   exact⟨_,rfl,q ws xs R H1 nR s1 hw ri⟩
theorem Zkr{rs:List Sr}(nd:(rs.map Sr.nm).Nodup){j:Nat}{r:Sr}(hj:rs[j]? =some r):∀k,j<k->k<=rs.length->Jg (rs.take k).reverse (some r.nm)=r.nm::Jg (rs.take j).reverse r.el
 |0,h,_=>absurd h (Nat.not_lt_zero _)
 |k+1,h,hk=>by
  have lt:k<rs.length:=hk;have ek:rs[k]? =some rs[k]:=List.getElem?_eq_getElem lt;rw[List.take_add_one,ek];show Jg ((rs.take k++[rs[k]]).reverse) _=_;rw[List.reverse_append];show(if some (rs[k]).nm=some r.nm then(rs[k]).nm::Jg (rs.take k).reverse (rs[k]).el else Jg (rs.take k).reverse (some r.nm))=_
  by_cases e:j=k
  ·subst e;rw[ek] at hj
   cases hj;rw[if_pos rfl]
  ·rw[if_neg,Zkr nd hj k (by omega) (by omega)];intro z;have z:(rs[k]).nm=r.nm:=by injection z
   have:=Zi0 nd (List.getElem_mem lt) (List.mem_of_getElem? hj) z;have lj:j<rs.length:=(List.getElem?_eq_some_iff.mp hj).1;have nd2:=nd;have a1:(rs.map Sr.nm)[j]? =some r.nm:=by rw[List.getElem?_map,hj];rfl
   have a2:(rs.map Sr.nm)[k]? =some r.nm:=by rw[List.getElem?_map,ek,<-z];rfl
   exact e ((List.getElem?_inj (by rw[List.length_map];exact lj) nd).mp (by rw[a1,a2]))
theorem Zmp{r:Sr}:∀{rs:List Sr},(rs.map Sr.nm).Nodup->r∈rs->rs.flatMap (fun x=>if x.nm=r.nm then[oS x.el] else[])=[oS r.el]
 |x::rs,nd,h=>by
  rw[List.map_cons] at nd
  obtain⟨off,rest⟩:=List.nodup_cons.mp nd;rw[List.flatMap_cons];obtain here|h2:=List.mem_cons.mp h
  ·subst here;have:rs.flatMap (fun x=>if x.nm=r.nm then[oS x.el] else[])=[]:=by
    rw[List.flatMap_eq_nil_iff];intro y hy;rw[if_neg];exact fun z=>off (List.mem_map.mpr ⟨y,hy,z⟩)
   rw[if_pos rfl,this]
   rfl
  ·have ne:¬x.nm=r.nm:=fun z=>off (List.mem_map.mpr ⟨r,h2,z.symm⟩);rw[if_neg ne,Zmp rest h2]
   rfl
theorem ZeD:ZG ["_law_book","_law_name","_law_found"] ["_law_book","_law_name"] (Zw Zfp):=⟨rfl,rfl,rfl,by decide+kernel,rfl,by decide+kernel,by decide+kernel⟩
theorem Zmq{f:Addr}{fd:FuncData}(F:Fun K "_law_line" "_law_line" Zfp f fd)(T:Txt K mg Zj Zg Zh Zb Zo):Yn P w K mg base CX0 1 f fd ["_law_book","_law_name"] Zcs:=by
 refine F.ok ZeD (fun vs H Q E h=> ?_) (fun cdv A outer s H vs Q E hr h=> ?_)
 ·obtain⟨p,n,rs,rfl,_⟩:=h
  rfl
 ·obtain⟨p,n,rs,rfl,⟨ds,hp,pr⟩,bk,lr,hn,q⟩:=h;have l5:=YZ;have le:=Paired.length pr;have nd:=Zd9 bk;refine⟨_,(Ze (Zz (i:=2) ZeD.nd rfl (Or.inl rfl) (ZX Zi)) (Ze (ZlH PassesOwn.never (Zq ZhQ (pv 1) Yz (Zt _)) (Ze (YB (JG PySem.F.plainAttrs_list PySem.F.slot_list_append PySem.F.type_list_append Yk (pv 2) (Za (pv 1) Zi))) (Zn (Zz (i:=1) ZeD.nd rfl (Or.inr rfl) (Zr YJ (Jh ["_law_row"] [("_law_name",1)] rfl (Yg (pv 0)) (by rfl) (by exact⟨rfl,trivial⟩) (by rfl) (by exact⟨⟨rfl,rfl,rfl⟩,trivial⟩) (fun _ _ _ _=>(ZK (i:=0) (show(nmY ["_law_row"] [("_law_name",1)]).Nodup by decide+kernel) rfl (Or.inl rfl))) (fun _ _ _ _=>(JB (Zq ZZ (Zr (Yq (K:=K) rfl) (pv 0) Zd (fun _ _=>rfl)) (pv 1) (Zt _)))) (fun _ _ _ _=>(Zr (Yq (K:=K) rfl) (pv 0) Zd (fun _ _=>rfl)))) Zd (fun _ _=>rfl)))))) (Zn (Zx (pv 2))))), ?_⟩
  refine⟨Nat.zero_le _,fun L hL=> ?_⟩;refine⟨fun k σ H'=>∃(o:Option Str) (l:List Str),σ=[some (.ref p),some (oS o),some (.ref L)]/\H' L=some (.lst (l.map V.str))/\l++Jg (rs.take k).reverse o=Jg rs.reverse (some n)/\(∀e,o=some e->e∈(rs.take k).map Sr.nm)/\k<=rs.length/\l.length+k<=rs.length/\Zy H H',⟨rs.length,some n,[],rfl,Zc,by rw[List.take_length];rfl,fun e he=>by cases he;rw[List.take_length];exact hn,Nat.le_refl _,by simp,Zk hL⟩, ?_⟩
  rintro k σ H1 ⟨o,l,rfl,hl,eq,ho,hk,ll,s1⟩;refine⟨_,rfl,rfl,_,rfl,Yp (fun e=> ?_) (fun e=> ?_)⟩
  ·obtain⟨e0,rfl⟩:∃e0,o=some e0:=by
    cases o with
    |none=>cases e
    |some z=>exact⟨z,rfl⟩
   refine⟨fun σ' H'=>∃(k':Nat) (o:Option Str) (l:List Str),k'<k/\σ'=[some (.ref p),some (oS o),some (.ref L)]/\H' L=some (.lst (l.map V.str))/\l++Jg (rs.take k').reverse o=Jg rs.reverse (some n)/\(∀e,o=some e->e∈(rs.take k').map Sr.nm)/\k'<=rs.length/\l.length+k'<=rs.length/\Zy H H',fun σ' H' ⟨k',o,l,lt,h1,h2,h3,h4,h5,h6,h7⟩=>⟨k',lt,o,l,h1,h2,h3,h4,h5,h6,h7⟩, ?_⟩;obtain⟨r,hr,er⟩:=List.mem_map.mp (ho e0 rfl)
   obtain⟨j,hj⟩:=List.getElem?_of_mem hr;have lj:j<k:=by
    have:=(List.getElem?_eq_some_iff.mp hj).1;rw[List.length_take] at this
    omega
   rw[List.getElem?_take_of_lt lj] at hj
   subst er;rw[Zkr nd hj k lj hk] at eq
   have l6:(l.map V.str).length<sizeLine:=by rw[List.length_map];omega
   refine⟨_,rfl,.inl ⟨rfl,_,SqL.of hl⟩,_,rfl,L,_,_,rfl,rfl,hl,l6, ?_⟩;have hp2:upd H1 L (.lst (l.map V.str++[.str r.nm])) p=some (.lst (ds.map V.ref)):=by rw[Zm (Zf hp hL)];exact s1 _ _ hp
   have s2:Zy H (upd H1 L (.lst (l.map V.str++[.str r.nm]))):=fun c u e=>by rw[Zm (Zf e hL)];exact s1 _ _ e
   have hl2:upd H1 L (.lst (l.map V.str++[.str r.nm])) L=some (.lst ((l++[r.nm]).map V.str)):=by rw[Zc,List.map_append];rfl
   refine⟨_,rfl,p,rfl,⟨_,SqL.of hp2⟩,Xm ds.length (fun i=>((rs[i]?).map fun x=>if x.nm=r.nm then[oS x.el] else[]).getD []) (by omega) (fun i=> ?_) (fun i H3 s3 lt=>⟨_,_,SqL.of (s3 _ _ hp2),List.getElem?_eq_getElem (by rw[List.length_map];exact lt)⟩) (fun H3 s3=>⟨_,SqL.of (s3 _ _ hp2),by rw[List.length_map];exact Nat.le_refl _⟩) (fun i y H3 H4 s3 lt yl RT RF rt rf=> ?_) fun D H3 hD s3 d3=> ?_⟩
   ·cases rs[i]? with
    |none=>exact Nat.zero_le _
    |some x=>
     show(if _ then _ else _:List V).length<=1
     split
     ·exact Nat.le_refl _
     ·exact Nat.zero_le _
   ·obtain⟨rfl,yl⟩:=yl;obtain⟨d,rfl,ed⟩:=YX (yl _ (SqL.of (s3 _ _ hp2)));obtain⟨x,ex,v,row,_⟩:=Yh (Xr (s2.trans s3) pr) i d ed;rw[ex] at rt rf
    have rt:∀v H6,(if x.nm=r.nm then[oS x.el] else[])=[v]->_:=rt;have rf:∀H5,(if x.nm=r.nm then[oS x.el] else[])=([]:List V)->_:=rf;refine⟨⟨rfl,trivial⟩,ixT rfl (SqT.of row) rfl ⟨_,rfl,rfl,_,rfl,Yp (fun e=> ?_) (fun e=> ?_)⟩⟩
    ·have e:x.nm=r.nm:=by injection of_decide_eq_true e
     exact ixT rfl (SqT.of row) rfl (rt _ _ (if_pos e) (Zy.refl _))
    ·have e:¬x.nm=r.nm:=fun z=>e (decide_eq_true (congrArg V.str z));exact rf _ (if_neg e) (Zy.refl _)
   ·rw[le,Xo,Zmp nd (List.mem_of_getElem? hj)] at d3
    refine⟨D,_,_,_,rfl,rfl,SqL.of d3,rfl,j,r.el,l++[r.nm],lj,rfl,s3 _ _ hl2,by rw[List.append_assoc];exact eq, ?_,by omega,by rw[List.length_append,List.length_singleton];omega,s2.trans s3⟩
    exact fun e he=>(Zrq bk hj).2.2 e he
  ·have:o=none:=by
    cases o with
    |none=>rfl
    |some z=>exact absurd rfl e
   subst this;rw[Zkb,List.append_nil] at eq
   exact⟨_,rfl,q L H1 hL s1 (by rw[<-eq];exact hl)⟩
theorem ZdY:ZG ["_law_book","_law_name","_law_one","_law_row"] ["_law_book","_law_name"] (Zw Zel):=⟨rfl,rfl,rfl,by decide+kernel,rfl,by decide+kernel,by decide+kernel⟩
theorem Zlt{f:Addr}{fd:FuncData}(F:Fun K "_law_owner" "_law_owner" Zel f fd)(T:Txt K mg Zj Zg Zh Zb Zo)(ZaX:Cal P w K mg base CX0 1 "_law_line" ["_law_book","_law_name"] Zcs):Yn P w K mg base CX0 2 f fd ["_law_book","_law_name"] ZbK:=by
 refine F.ok ZdY (fun vs H Q E h=> ?_) (fun cdv A outer s H vs Q E hr h=> ?_)
 ·obtain⟨p,n,rs,r0,rfl,_⟩:=h
  rfl
 ·obtain⟨p,n,rs,r0,rfl,⟨ds,hp,pr⟩,bk,lr,hn,ow,q⟩:=h;have l5:=YZ;have le:=Paired.length pr;have nd:=Zd9 bk;refine⟨_,(Ze (Xw PassesOwn.never rfl (Yg (ZQ ZaX (hr.mono (by omega)) rfl ZJ (Za (pv 0) (Za (pv 1) Zi)))) (ZK (i:=2) ZdY.nd rfl (Or.inl rfl)) (Zn (Xw PassesOwn.never rfl (Yg (pv 0)) (ZK (i:=3) ZdY.nd rfl (Or.inl rfl)) (Zn (ZS (PW.pt (Xb (Zq ZZ (Zr Zu (pv 3) Zd (fun _ _=>rfl)) (pv 2) (Zt _)) (YT (Zq ZhQ (Zr Zu (pv 3) Zd (fun _ _=>rfl)) Yz (Zt _))))) (Zn (Zx (pv 3))) ZF))))) (Zn (Zx Yz))), ?_⟩
  obtain⟨r,hr,er,ht,first⟩:=Zfv (ZhE rs) rs.reverse (some n) (ZeX bk) (fun x hx=>ZeY nd (List.mem_reverse.mp hx)) (fun m hm=>by cases hm;rw[List.map_reverse,List.mem_reverse];exact hn) (fun z=>nomatch z)
  rw[ow] at er
  cases er;have hr:r0∈rs:=List.mem_reverse.mp hr;refine⟨_,rfl,_,rfl,p,n,rs,rfl,⟨ds,hp,pr⟩,bk,lr,hn,fun L H1 hL s1 hl=> ?_⟩;generalize Jg rs.reverse (some n)=line at hl first
  refine⟨L,rfl,⟨_,SqL.of hl⟩,YQ (xs:=line.map V.str) (fun i σ H'=>∃v2 v3:Option V,σ=[some (.ref p),some (.str n),v2,v3]/\H'=H1/\(line.take i).filter (ZhE rs)=[]) ?_ ?_ ?_ ?_⟩
  ·exact⟨none,none,rfl,rfl,rfl⟩
  ·rintro i σ H2 _ ⟨v2,v3,rfl,rfl,_⟩;exact SqL.of hl
  ·rintro i x σ H2 hx ⟨v2,v3,rfl,rfl,none_⟩;obtain⟨one,rfl,eone⟩:∃one,x=V.str one/\line[i]? =some one:=by
    rw[List.getElem?_map] at hx
    cases e:line[i]? with
    |none=>rw[e] at hx;cases hx
    |some y=>rw[e] at hx;exact⟨y,(Option.some.inj hx).symm,rfl⟩
   refine⟨_,rfl,p,rfl,⟨_,SqL.of (s1 _ _ hp)⟩,YQ (xs:=ds.map V.ref) (fun j σ H'=>∃v3:Option V,σ=[some (.ref p),some (.str n),some (.str one),v3]/\H'=H2/\∀y∈rs.take j,¬(y.nm=one/\y.tm.isSome=true)) ?_ ?_ ?_ ?_⟩
   ·exact⟨_,rfl,rfl,fun y hy=>nomatch hy⟩
   ·rintro j σ H3 _ ⟨v3,rfl,rfl,_⟩;exact SqL.of (s1 _ _ hp)
   ·rintro j x σ H3 hx ⟨v3,rfl,rfl,no⟩;obtain⟨d,rfl,ed⟩:=YX hx;have ser:=Yh (Xr s1 pr) j d ed;obtain⟨y,ey,v,row,tv⟩:=ser;have tk:rs.take (j+1)=rs.take j++[y]:=by rw[List.take_add_one,ey];rfl
    have go:¬(y.nm=one/\y.tm.isSome=true)->∀z∈rs.take (j+1),¬(z.nm=one/\z.tm.isSome=true):=fun h z hz=>by
     rw[tk] at hz
     rcases List.mem_append.mp hz with hz|hz
     ·exact no z hz
     ·rw[List.mem_singleton.mp hz];exact h
    refine(ixT rfl (SqT.of row) rfl ⟨_,rfl,rfl,_,rfl,Yp (fun e=> ?_) (fun e=>ZW ⟨_,rfl,rfl,go fun z=>e (decide_eq_true (congrArg V.str z.1))⟩)⟩);have e:y.nm=one:=by injection of_decide_eq_true e
    refine(ixT rfl (SqT.of row) rfl ⟨rfl,_,rfl,Yp (fun e2=> ?_) (fun e2=>⟨_,rfl,rfl,go fun z=> ?_⟩)⟩)
    ·have ty:y.tm.isSome=true:=by
      cases et:y.tm with
      |none=>
       rw[et] at tv
       have tv:v=.non:=tv;subst tv;cases e2
      |some t=>rfl
     have hy:y∈rs:=List.mem_of_getElem? ey;have hone:ZhE rs one=true:=by rw[<-e,ZeY nd hy];exact ty
     have split_:line=line.take i++one::line.drop (i+1):=by
      obtain⟨lt,el⟩:=List.getElem?_eq_some_iff.mp eone;rw[<-el,List.getElem_cons_drop,List.take_append_drop]
     rw[split_,List.filter_append,none_,List.nil_append,List.filter_cons_of_pos hone] at first
     have first:one=r0.nm:=by injection first
     have:y=r0:=Zi0 nd hy hr (e.trans first);subst this;exact⟨_,rfl,q d _ s1 ⟨v,row,tv⟩⟩
    ·cases et:y.tm with
     |none=>rw[et] at z;exact nomatch z.2
     |some t=>
      rw[et] at tv
      obtain⟨a,rfl,_⟩:=tv;exact e2 rfl
   ·rintro σ H3 ⟨v3,rfl,rfl,no⟩;rw[List.length_map,le,List.take_length] at no
    refine⟨_,_,rfl,rfl, ?_⟩;rw[List.take_add_one,eone];show((line.take i)++[one]).filter (ZhE rs)=[];rw[List.filter_append,none_,List.nil_append];have:ZhE rs one=false:=by
     unfold ZhE;rw[List.any_eq_false];intro y hy z;rw[Bool.and_eq_true] at z
     exact no y hy ⟨of_decide_eq_true z.1,z.2⟩
    rw[List.filter_cons_of_neg (by rw[this];exact Bool.false_ne_true)]
    rfl
  ·rintro σ H2 ⟨v2,v3,rfl,rfl,none_⟩;rw[List.length_map,List.take_length] at none_
   rw[none_] at first
   cases first
theorem Zi6{ws:List Rw}{w:Rw}{day:Int}:ZL (ws++[w]) day=if w.day<=day then ZL ws day++[w] else ZL ws day:=by
 unfold ZL;rw[List.filter_append]
 by_cases h:w.day<=day
 ·simp[h]
 ·simp[h]
theorem Znk{r:Str}{l:Tb}:∀{w:Rw},¬w.one=r->Xa r l w=l
 | .put _ _ _,h=>if_neg h
 | .deed _ _ _,h=>if_neg h
 | .move _ _ _,_=>rfl
 | .lift _ _,_=>rfl
 | .hold _ _ _ _,_=>rfl
theorem Zcz:ZG ["_law_rows","_law_record","_law_day","_law_life_here","_law_row","_law_kind"] ["_law_rows","_law_record","_law_day"] (Zw Zfq):=⟨rfl,rfl,rfl,by decide+kernel,rfl,by decide+kernel,by decide+kernel⟩
theorem Zmr{f:Addr}{fd:FuncData}(F:Fun K "_law_life" "_law_life" Zfq f fd)(T:Txt K mg Zj Zg Zh Zb Zo):Yn P w K mg base CX0 1 f fd ["_law_rows","_law_record","_law_day"] Zct:=by
 refine F.ok Zcz (fun vs H Q E h=> ?_) (fun cdv A outer s H vs Q E hr h=> ?_)
 ·obtain⟨p,ws,r,day,rfl,_⟩:=h
  rfl
 ·obtain⟨p,ws,r,day,rfl,⟨ds,hp,pr⟩,lw,q⟩:=h;have l5:=YZ;have hu:=ZaJ hr;have le:=Paired.length pr;refine⟨_,(Ze (Zz (i:=3) Zcz.nd rfl (Or.inl rfl) Za4) (Ze (Xw PassesOwn.never rfl (Yg (pv 0)) (ZK (i:=4) Zcz.nd rfl (Or.inl rfl)) (Zn (ZS (PW.pt (Xb (Zq ZlI (Zr Zu (pv 4) (Znt Zky Zd) (fun _ _=>rfl)) (pv 2) (Zt _)) (Xb (Zq ZZ (Zr Zu (pv 4) Zd (fun _ _=>rfl)) (pv 1) (Zt _)) (YT (Zq ZaK (Zr Zu (pv 4) Zd (fun _ _=>rfl)) (ZX (Za ZD (Za ZD Zi))) rfl))))) (Ze (Zz (i:=5) Zcz.nd rfl (Or.inl rfl) (ZbU (Zq ZZ (Zr Zu (pv 4) Zd (fun _ _=>rfl)) ZD (Zt _)) (Zr Zu (pv 4) Zd (fun _ _=>rfl)) ZD)) (Zn (ZbG hu (pv 3) (pv 5) (ZM (Zgv rfl) (by rfl) T.z_max Zip (Za (Zr Zu (pv 4) Zd (fun _ _=>rfl)) (Za (Zin hu (pv 3) (pv 5) (Zr Zu (pv 4) Zd (fun _ _=>rfl)) ⟨rfl,rfl,rfl,rfl⟩) Zi))) rfl))) ZF))) (Zn (Zx (pv 3))))), ?_⟩
  intro L hL;have nLp:p≠L:=Zf hp hL;refine⟨_,rfl,p,rfl,⟨_,SqL.of (Zk hL _ _ hp)⟩,YQ (xs:=ds.map V.ref) (fun i σ H'=>∃v3 v4:Option V,σ=[some (.ref p),some (.str r),some (.int day),some (.ref L),v3,v4]/\H' L=some (.dK (kk (Yc (ZL (ws.take i) day) r)))/\∀b u,b≠L->H b=some u->H' b=some u) ?_ ?_ ?_ ?_⟩
  ·exact⟨none,none,rfl,Zc,fun b u nb e=>by rw[Zm nb];exact e⟩
  ·rintro i σ H1 _ ⟨v3,v4,rfl,_,fr⟩;exact SqL.of (fr _ _ nLp hp)
  ·rintro i x σ H1 hx ⟨v3,v4,rfl,hl,fr⟩;obtain⟨d,rfl,ed⟩:=YX hx;have s1:Zy H H1:=fun b u z=>fr b u (Zf z hL) z;obtain⟨w,ew,row⟩:=Yh (ZR s1 pr) i d ed;have row:H1 d=some (.tup w.vs):=row;have hi:i<ws.length:=(List.getElem?_eq_some_iff.mp ew).1;have tk:Yc (ZL (ws.take (i+1)) day) r=if w.day<=day then Xa r (Yc (ZL (ws.take i) day) r) w else Yc (ZL (ws.take i) day) r:=by
    rw[List.take_add_one,ew];show Yc (ZL (ws.take i++[w]) day) r=_;rw[Zi6];unfold Yc
    split
    ·rw[List.foldl_append]
     rfl
    ·rfl
   have len:=ZiS r (ZL (ws.take i) day) [];have l0:(Yc (ZL (ws.take i) day) r).length<=1000:=by
    have h1:=List.length_take_le i ws;have h2:(ZL (ws.take i) day).length<=(ws.take i).length:=List.length_filter_le _ _;rw[List.length_nil] at len
    exact Nat.le_trans len (by omega)
   rw[tk];generalize Yc (ZL (ws.take i) day) r=l at hl l0
   have lk1:(kk l).length<sizeLine:=by rw[Zk2];omega
   have keep:∀{l':Tb} {v:Option V},l'=l->∃v3 v4:Option V,[some (V.ref p),some (.str r),some (.int day),some (.ref L),some (.ref d),v]=[some (.ref p),some (.str r),some (.int day),some (.ref L),v3,v4]/\H1 L=some (.dK (kk l'))/\∀b u,b≠L->H b=some u->H1 b=some u:=fun{l' v} e=>⟨_,_,rfl,by rw[e];exact hl,fr⟩
   refine⟨_,rfl,_,rfl,d,_,_,.int w.day,rfl,rfl,SqT.of row,Zl5 w,_,rfl,_,_,rfl,rfl,_,rfl,Yp (fun e1=> ?_) (fun e1=>ZW (keep (if_neg fun z=>e1 (decide_eq_true z))))⟩;have e1:w.day<=day:=of_decide_eq_true e1;rw[if_pos e1];refine(ixT rfl (SqT.of row) (ZdN w) ⟨_,rfl,rfl,_,rfl,Yp (fun e2=> ?_) (fun e2=>ZW (keep (Znk fun z=>e2 (decide_eq_true (congrArg V.str z)))))⟩);have e2:w.one=r:=by injection of_decide_eq_true e2
   refine(ixT rfl (SqT.of row) (Jq w) ⟨show 2<=sizeLine from sl,fun t ht=>⟨t,_,rfl,.inl (SqL.of Zc),rfl,rfl,_,rfl, ?_⟩⟩);have s2:=Zk (o:=.lst [.str "put",.str "deed"]) ht;have hl2:=s2 _ _ hl;have row2:=s2 _ _ row;have fr2:∀b u,b≠L->H b=some u->upd H1 t (.lst [.str "put",.str "deed"]) b=some u:=fun b u nb e=>s2 _ _ (fr b u nb e);generalize upd H1 t (.lst [.str "put",.str "deed"])=H2 at hl2 row2 fr2
   have keep:∀{v:Option V},∃v3 v4:Option V,[some (V.ref p),some (.str r),some (.int day),some (.ref L),some (.ref d),v]=[some (.ref p),some (.str r),some (.int day),some (.ref L),v3,v4]/\H2 L=some (.dK (kk l))/\∀b u,b≠L->H b=some u->H2 b=some u:=fun{v}=>⟨_,_,rfl,hl2,fr2⟩
   have done:∀(kind:Str) (dd:Int) {v:Option V},∃v3 v4:Option V,[some (V.ref p),some (.str r),some (.int day),some (.ref L),some (.ref d),v]=[some (.ref p),some (.str r),some (.int day),some (.ref L),v3,v4]/\upd H2 L (.dK (Jw (kk l) (Sum.inr kind) (.int (if(lk l kind).getD dd>dd then(lk l kind).getD dd else dd)))) L=some (.dK (kk (Zhy l kind (max dd ((lk l kind).getD dd)))))/\∀b u,b≠L->H b=some u->upd H2 L (.dK (Jw (kk l) (Sum.inr kind) (.int (if(lk l kind).getD dd>dd then(lk l kind).getD dd else dd)))) b=some u:=fun kind dd {v}=>⟨_,_,rfl,by rw[Zc,Zpv,Zq7],fun b u nb e=>by rw[Zm nb];exact fr2 b u nb e⟩
   have ej:∀(kind:Str) (dd:Int),((lk l kind).map V.int).getD (V.int dd)=V.int ((lk l kind).getD dd):=fun kind dd=>by cases lk l kind<;>rfl
   have rd2:Rd H2 L (.dK (kk l)):=.inl hl2;cases w with
   |put x s dd=>
    have row2:H2 d=some (.tup [.str "put",.str x,.str s,.int dd]):=row2;show if inV (.str "put") [.str "put",.str "deed"]=true then _ else _;rw[ZeZ];rw[show Xa r l (.put x s dd)=Zhy l "put" (max dd ((lk l "put").getD dd)) from if_pos e2];exact XX (ixT rfl (SqT.of row2) rfl ⟨rfl,_,rfl,Yu (vne ZnK) (ixT rfl (SqT.of row2) rfl ⟨_,rfl,L,rfl,.inl ⟨_,rd2⟩,_,rfl,ixT rfl (SqT.of row2) rfl ⟨_,ZcO rd2 "put",dd,(lk l "put").getD dd,by rw[ej],_,rfl,_,rfl,L,_,rfl,Zgz.k (k:=Sum.inr "put") hl2 lk1,done "put" dd⟩⟩)⟩)
   |deed x k dd=>
    have row2:H2 d=some (.tup [.str "deed",.str x,.str k,.int dd]):=row2;show if inV (.str "deed") [.str "put",.str "deed"]=true then _ else _;rw[Zda];rw[show Xa r l (.deed x k dd)=Zhy l k (max dd ((lk l k).getD dd)) from if_pos e2];exact XX (ixT rfl (SqT.of row2) rfl ⟨rfl,_,rfl,Zb9 rfl (ixT rfl (SqT.of row2) rfl (ixT rfl (SqT.of row2) rfl ⟨_,rfl,L,rfl,.inl ⟨_,rd2⟩,_,rfl,ixT rfl (SqT.of row2) rfl ⟨_,ZcO rd2 k,dd,(lk l k).getD dd,by rw[ej],_,rfl,_,rfl,L,_,rfl,Zgz.k (k:=Sum.inr k) hl2 lk1,done k dd⟩⟩))⟩)
   |move x s dd=>
    show if inV (.str "move") [.str "put",.str "deed"]=true then _ else _;rw[Jy Zrr Zru];exact ZW keep
   |lift h dd=>
    show if inV (.str "lift") [.str "put",.str "deed"]=true then _ else _;rw[Jy Zhm Zm6];exact ZW keep
   |hold h c n dd=>
    show if inV (.str "hold") [.str "put",.str "deed"]=true then _ else _;rw[Jy Zga ZiQ];exact ZW keep
  ·rintro σ H1 ⟨v3,v4,rfl,hl,fr⟩;rw[List.length_map,le,List.take_of_length_le (Nat.le_refl _)] at hl
   exact⟨_,rfl,q L H1 hL (fun b u z=>fr b u (Zf z hL) z) hl⟩
theorem ZfF{ws:List Rw}{w:Rw}{r:Str}:YL (ws++[w]) r=(YL ws r||Zbb r w):=by
 unfold YL;rw[List.any_append];simp
theorem Znl{r:Str}:∀{w:Rw},¬w.one=r->ZaP r w=none/\Zbb r w=false
 | .put _ _ _,h=>⟨if_neg h,decide_eq_false h⟩
 | .deed _ _ _,_=>⟨rfl,rfl⟩
 | .move _ _ _,h=>⟨if_neg h,rfl⟩
 | .lift _ _,_=>⟨rfl,rfl⟩
 | .hold _ _ _ _,_=>⟨rfl,rfl⟩
def Zgl(day:Int)(w:Rw):List V:=if w.day<=day then(match Zad w with|some h=>[V.str h]|none=>[]) else[]
theorem Zks(day:Int):∀ws:List Rw,ws.flatMap (Zgl day)=(Xi (ZL ws day)).map V.str
 |[]=>rfl
 |w::ws=>by
  rw[List.flatMap_cons,Zks day ws];unfold Zgl ZL
  by_cases h:w.day<=day
  ·rw[if_pos h,List.filter_cons_of_pos (by exact decide_eq_true h)];unfold Xi;cases e:Zad w with
   |none=>rw[List.filterMap_cons_none e];rfl
   |some z=>rw[List.filterMap_cons_some e];rfl
  ·rw[if_neg h,List.filter_cons_of_neg (by exact fun z=>h (of_decide_eq_true z))]
   rfl
def Za3(ls line:List Str)(rec:Str)(day:Int)(ws:List Rw):List Str:=(((ZL ws day).filter (Jp ls)).filter (ZaQ rec line)).map Rw.one
theorem Zqn{ls line:List Str}{rec:Str}{day:Int}{ws:List Rw}{w:Rw}(h1:w.day<=day)(h2:Jp ls w=true)(h3:ZaQ rec line w=true):Za3 ls line rec day (ws++[w])=Za3 ls line rec day ws++[w.one]:=by
 unfold Za3;rw[Zi6,if_pos h1,List.filter_append,List.filter_append,List.map_append,List.filter_cons_of_pos h2,List.filter_nil,List.filter_cons_of_pos h3]
 rfl
theorem Zrf{ls line:List Str}{rec:Str}{day:Int}{ws:List Rw}{w:Rw}(h:¬(w.day<=day/\Jp ls w=true/\ZaQ rec line w=true)):Za3 ls line rec day (ws++[w])=Za3 ls line rec day ws:=by
 unfold Za3;rw[Zi6]
 by_cases h1:w.day<=day
 ·rw[if_pos h1,List.filter_append,List.filter_append,List.map_append]
  by_cases h2:Jp ls w=true
  ·rw[List.filter_cons_of_pos h2,List.filter_nil,List.filter_cons_of_neg (fun z=>h ⟨h1,h2,z⟩)];exact List.append_nil _
  ·rw[List.filter_cons_of_neg h2,List.filter_nil,List.filter_nil];exact List.append_nil _
 ·rw[if_neg h1]
theorem Zrg(a b c d:Str):Xp 2 (.tup [.v (.str a),.v (.str b)]) (.tup [.v (.str c),.v (.str d)])=(decide (a=c)&&decide (b=d)):=by
 show((a==c)&&((b==d)&&true)&&true)=_;rw[Bool.and_true,Bool.and_true]
 congr 1
theorem Zth:¬Str.ofString "record"=Str.ofString "series":=by decide+kernel
theorem Zrh(ho:List Str):atI [V.str "due",V.str "held"] (if(if true=true then !Xp 2 (.lst (ho.map fun z=>Dt.v (.str z))) (.lst []) else Xp 2 (.lst (ho.map fun z=>Dt.v (.str z))) (.lst []))=true then 1 else 0)=some (.str (if 0<ho.length then "held" else "due")):=by
 cases ho with
 |nil=>rfl
 |cons z zs=>rfl
theorem YH:ZG ["_law_book","_law_rows","_law_record","_law_day","_law_spots","_law_there","_law_row","_law_series","_law_owner_here","_law_due_here","_law_lifted","_law_held"] ["_law_book","_law_rows","_law_record","_law_day"] (Zw Zdy):=⟨rfl,rfl,rfl,by decide+kernel,rfl,by decide+kernel,by decide+kernel⟩
theorem ZjO{f:Addr}{fd:FuncData}(F:Fun K "_law_judged" "_law_judged" Zdy f fd)(T:Txt K mg Zj Zg Zh Zb Zo)(ZbQ:Cal P w K mg base CX0 13 "_law_due" ["_law_tree","_law_life_here"] (Zc7 12))(ZaY:Cal P w K mg base CX0 1 "_law_life" ["_law_rows","_law_record","_law_day"] Zct)(ZaX:Cal P w K mg base CX0 1 "_law_line" ["_law_book","_law_name"] Zcs)(Zan:Cal P w K mg base CX0 2 "_law_owner" ["_law_book","_law_name"] ZbK):Yn P w K mg base CX0 14 f fd ["_law_book","_law_rows","_law_record","_law_day"] Zb2:=by
 refine F.ok YH (fun vs H Q E h=> ?_) (fun cdv A outer s H vs Q E hr h=> ?_)
 ·obtain⟨p,q,rs,ws,rec,day,rfl,_⟩:=h
  rfl
 ·obtain⟨p,qa,rs,ws,rec,day,rfl,⟨bs,hp,pb⟩,bk,lr,⟨ds,hq,pr⟩,ro,q⟩:=h;have l5:=YZ;have hu3:=ZlQ hr;have lw:=ro.len;have le:=Paired.length pr;have nd:=Zd9 bk;refine⟨_,(Ze (Zz (i:=4) YH.nd rfl (Or.inl rfl) (ZX Zi)) (Ze (Zz (i:=5) YH.nd rfl (Or.inl rfl) Zf9) (Ze (Xw PassesOwn.never rfl (Yg (pv 1)) (ZK (i:=6) YH.nd rfl (Or.inl rfl)) (Zn (ZS (PW.pt (Xb (Zq ZlI (Zr Zu (pv 6) (Znt Zky Zd) (fun _ _=>rfl)) (pv 3) (Zt _)) (Xb (Zq ZZ (Zr Zu (pv 6) Zd (fun _ _=>rfl)) (pv 2) (Zt _)) (YT (Zq ZaK (Zr Zu (pv 6) Zd (fun _ _=>rfl)) (ZX (Za ZD (Za ZD Zi))) rfl))))) (Ze (YB (JG PySem.F.plainAttrs_list PySem.F.slot_list_append PySem.F.type_list_append Yk (pv 4) (Za (Yr (Za (Zr Zu (pv 6) Zd (fun _ _=>rfl)) (Za (Zr Zu (pv 6) Zd (fun _ _=>rfl)) Zi))) Zi))) (Zn (Zz (i:=5) YH.nd rfl (Or.inl rfl) (Zsv (pv 5) (Zia (Jz ZZ (Zr Zu (pv 6) Zd (fun _ _=>rfl)) ZD (Zt _))))))) ZF))) (Ze (ZS (ZbT (Zaq (pv 5))) (Zn (Zx (Yr (Za ZD (Za Yz (Za Yz (Za Yz (Za (ZX Zi) Zi)))))))) ZF) (Ze (Zz (i:=7) YH.nd rfl (Or.inl rfl) (Zr Zu (ZM (Zk8 rfl hu3) (by rfl) T.z_max Zip (Za (pv 4) Zi)) Zd (fun _ _=>rfl))) (Ze (Zz (i:=8) YH.nd rfl (Or.inl rfl) (ZQ Zan (hr.mono (by omega)) rfl ZJ (Za (pv 0) (Za (pv 7) Zi)))) (Ze (Zz (i:=9) YH.nd rfl (Or.inl rfl) (ZQ ZbQ (hr.mono (by omega)) rfl ZJ (Za (Zr Zu (pv 8) Zd (fun _ _=>rfl)) (Za (ZQ ZaY (hr.mono (by omega)) rfl ZJ (Za (pv 1) (Za (pv 2) (Za (pv 3) Zi)))) Zi)))) (Ze (ZfT (i:=10) ["_law_row"] [("_law_day",3)] YH.nd rfl (Or.inl rfl) rfl (Yg (pv 1)) (by rfl) (by exact⟨rfl,trivial⟩) (by rfl) (by exact⟨⟨rfl,rfl,rfl⟩,trivial⟩) (fun _ _ _ _=>(ZK (i:=0) (show(nmY ["_law_row"] [("_law_day",3)]).Nodup by decide+kernel) rfl (Or.inl rfl))) (fun _ _ _ _=>(JB (PW.pt (Xb (Zq ZZ (Zr (Yq (K:=K) rfl) (pv 0) Zd (fun _ _=>rfl)) ZD (Zt _)) (YT (Zq ZlI (Zr (Yq (K:=K) rfl) (pv 0) Zd (fun _ _=>rfl)) (pv 1) (Zt _))))))) (fun _ _ _ _=>(Zr (Yq (K:=K) rfl) (pv 0) Zd (fun _ _=>rfl)))) (Ze (Zz (i:=11) YH.nd rfl (Or.inl rfl) (ZX Zi)) (Ze (Xw PassesOwn.never rfl (Yg (pv 1)) (ZK (i:=6) YH.nd rfl (Or.inl rfl)) (Zn (ZS (PW.pt (Xb (Zq ZZ (Zr Zu (pv 6) Zd (fun _ _=>rfl)) ZD (Zt _)) (Xb (Zq ZlI (Zr Zu (pv 6) Zd (fun _ _=>rfl)) (pv 3) (Zt _)) (YT (Zq Zds (Zr Zu (pv 6) Zd (fun _ _=>rfl)) (pv 10) rfl))))) (Zn (ZS (PW.pt (Zb5 (Zq (ZmO hu3) (Zd0 ZkB (pv 6) (Zco Zd) (Zco Zd)) (Yr (Za ZD (Za (pv 2) Zi))) (Zt _)) (ZbS (PW.pt (Xb (Zq ZZ (Zr Zu (pv 6) Zd (fun _ _=>rfl)) ZD (Zt _)) (YT (Zq ZaK (Zr Zu (pv 6) Zd (fun _ _=>rfl)) (ZQ ZaX (hr.mono (by omega)) rfl ZJ (Za (pv 0) (Za (pv 7) Zi))) rfl))))))) (Zn (YB (JG PySem.F.plainAttrs_list PySem.F.slot_list_append PySem.F.type_list_append Yk (pv 11) (Za (Zr Zu (pv 6) Zd (fun _ _=>rfl)) Zi)))) ZF)) ZF))) (Ze (ZS (PW.pt (Zb5 (Zq ZbV (pv 9) Yz (Zt _)) (ZbS (Zq Zhh (pv 9) (pv 3) (Zt _))))) (Zn (Zx (Yr (Za ZD (Za (pv 7) (Za (Zr Zu (pv 8) Zd (fun _ _=>rfl)) (Za (pv 9) (Za (ZM JV (by rfl) T.z_sorted Zai (Za (pv 11) Zi)) Zi)))))))) ZF) (Zn (Zx (Yr (Za (Zr YJ (ZX (Za ZD (Za ZD Zi))) (JT ZcZ (by rfl) T.z_int ZgA (Za (Jz (ZgC hu3) (pv 11) (ZX Zi) (Zt _)) Zi)) (fun _ _=>rfl)) (Za (pv 7) (Za (Zr Zu (pv 8) Zd (fun _ _=>rfl)) (Za (pv 9) (Za (ZM JV (by rfl) T.z_sorted Zai (Za (pv 11) Zi)) Zi))))))))))))))))))), ?_⟩
  refine⟨Nat.zero_le _,fun S hS=> ?_⟩;refine⟨_,rfl,qa,rfl,⟨_,SqL.of (Zk hS _ _ hq)⟩,YQ (xs:=ds.map V.ref) (fun i σ H'=>∃(v6:Option V) (us:List V),σ=[some (.ref p),some (.ref qa),some (.str rec),some (.int day),some (.ref S),some (.bl (YL (ZL (ws.take i) day) rec)),v6,none,none,none,none,none]/\H' S=some (.lst us)/\Paired (ZiT H') (Ym (ZL (ws.take i) day) rec) us/\Zy H H') ?_ ?_ ?_ ?_⟩
  ·exact⟨none,[],rfl,Zc,.nil,Zk hS⟩
  ·rintro i σ H1 _ ⟨v6,us,rfl,_,_,s1⟩;exact SqL.of (s1 _ _ hq)
  ·rintro i x σ H1 hx ⟨v6,us,rfl,hs,ps,s1⟩;obtain⟨d,rfl,ed⟩:=YX hx;obtain⟨w,ew,row⟩:=Yh (ZR s1 pr) i d ed;have row:H1 d=some (.tup w.vs):=row;have tk:ZL (ws.take (i+1)) day=if w.day<=day then ZL (ws.take i) day++[w] else ZL (ws.take i) day:=by
    rw[List.take_add_one,ew];exact Zi6
   have lus:us.length<=1000:=by
    have h1:=List.length_take_le' i ws;have h2:(ZL (ws.take i) day).length<=(ws.take i).length:=List.length_filter_le _ _;have h3:=Zkf (ZL (ws.take i) day) rec;have h4:=Paired.length ps;omega
   rw[tk];generalize ZL (ws.take i) day=u at ps
   have keep:ZaP rec w=none/\Zbb rec w=false->∀Ha,Zy H1 Ha->∃(v6:Option V) (us:List V),[some (V.ref p),some (.ref qa),some (.str rec),some (.int day),some (.ref S),some (.bl (YL u rec)),some (.ref d),none,none,none,none,none]=[some (V.ref p),some (.ref qa),some (.str rec),some (.int day),some (.ref S),some (.bl (YL (u++[w]) rec)),v6,none,none,none,none,none]/\Ha S=some (.lst us)/\Paired (ZiT Ha) (Ym (u++[w]) rec) us/\Zy H Ha:=fun⟨k1,k2⟩ Ha sa=>by
    rw[ZfF,k2,Bool.or_false,Zfx,k1];exact⟨_,us,rfl,sa _ _ hs,by rw[List.append_nil];exact ZaU (fun b xs e=>sa _ _ e) ps,s1.trans sa⟩
   have fin:∀(dd:Int) (sr:Str),ZaP rec w=some (dd,sr)->∀Ha t2 b',Zy H1 Ha->Ha t2=none->b'=YL (u++[w]) rec->∃(v6:Option V) (us':List V),[some (V.ref p),some (.ref qa),some (.str rec),some (.int day),some (.ref S),some (.bl b'),some (.ref d),none,none,none,none,none]=[some (V.ref p),some (.ref qa),some (.str rec),some (.int day),some (.ref S),some (.bl (YL (u++[w]) rec)),v6,none,none,none,none,none]/\upd (upd Ha t2 (.tup [.int dd,.str sr])) S (.lst (us++[.ref t2])) S=some (.lst us')/\Paired (ZiT (upd (upd Ha t2 (.tup [.int dd,.str sr])) S (.lst (us++[.ref t2])))) (Ym (u++[w]) rec) us'/\Zy H (upd (upd Ha t2 (.tup [.int dd,.str sr])) S (.lst (us++[.ref t2]))):=fun dd sr es Ha t2 b' sa ht2 eb=>by
    have nS:S≠t2:=Zf (sa _ _ hs) ht2;have kp:∀c u,c≠S->Ha c=some u->upd (upd Ha t2 (.tup [.int dd,.str sr])) S (.lst (us++[.ref t2])) c=some u:=fun c u n e=>by
     rw[Zm n,Zm (Zf e ht2)];exact e
    rw[eb,Zfx,es];exact⟨_,_,rfl,Zc,Paired.snoc (ZaU (fun c xs e=>kp c _ (Yj e hs (fun z=>nomatch z)) (sa _ _ e)) ps) ⟨t2,rfl,by rw[Zm (Ne.symm nS),Zc]⟩,fun c u e=>kp c u (Zf e hS) (sa _ _ (s1 _ _ e))⟩
   refine⟨_,rfl,_,rfl,d,_,_,.int w.day,rfl,rfl,SqT.of row,Zl5 w,_,rfl,_,_,rfl,rfl,_,rfl,Yp (fun e1=> ?_) (fun e1=>ZW ?_)⟩
   ·rw[if_pos (of_decide_eq_true e1)];refine(ixT rfl (SqT.of row) (ZdN w) ⟨_,rfl,rfl,_,rfl,Yp (fun e2=> ?_) (fun e2=>ZW (keep (Znl fun z=>e2 (decide_eq_true (congrArg V.str z))) _ (Zy.refl _)))⟩);have e2:w.one=rec:=by injection of_decide_eq_true e2
    refine(ixT rfl (SqT.of row) (Jq w) ⟨show 2<=sizeLine from sl,fun t ht=>⟨t,_,rfl,.inl (SqL.of Zc),rfl,rfl,_,rfl, ?_⟩⟩);have s2:=Zk (o:=.lst [.str "put",.str "move"]) ht;have row2:=s2 _ _ row;have hs2:=s2 _ _ hs;generalize upd H1 t (.lst [.str "put",.str "move"])=H2 at s2 row2 hs2
    have lus2:us.length<sizeLine:=by omega
    cases w with
    |put x sr dd=>
     have row2:H2 d=some (.tup [.str "put",.str x,.str sr,.int dd]):=row2;have sp:ZaP rec (.put x sr dd)=some (dd,sr):=if_pos e2;have pu:Zbb rec (.put x sr dd)=true:=decide_eq_true e2;show if inV (.str "put") [.str "put",.str "move"]=true then _ else _;rw[ZeZ];refine XX ⟨_,rfl,.inl ⟨rfl,_,SqL.of hs2⟩,ixT rfl (SqT.of row2) rfl (ixT rfl (SqT.of row2) rfl ⟨show 2<=sizeLine from sl,fun t2 ht2=>⟨S,_,V.ref t2,rfl,rfl,by rw[Zm (Zf hs2 ht2)];exact hs2,lus2, ?_⟩⟩)⟩
     have row3:upd (upd H2 t2 (.tup [.int dd,.str sr])) S (.lst (us++[.ref t2])) d=some (.tup [.str "put",.str x,.str sr,.int dd]):=by
      rw[Zm (Yj row2 hs2 (fun z=>nomatch z)),Zm (Zf row2 ht2)];exact row2
     have eb:true=YL (u++[Rw.put x sr dd]) rec:=by rw[ZfF,pu,Bool.or_true]
     exact⟨_,rfl,_,rfl,Yp (fun c=>fin dd sr sp H2 t2 true s2 ht2 eb) (fun c=>ixT rfl (SqT.of row3) rfl ⟨rfl,fin dd sr sp H2 t2 _ s2 ht2 ((decide_eq_true rfl).trans eb)⟩)⟩
    |move x sr dd=>
     have row2:H2 d=some (.tup [.str "move",.str x,.str sr,.int dd]):=row2;have sp:ZaP rec (.move x sr dd)=some (dd,sr):=if_pos e2;show if inV (.str "move") [.str "put",.str "move"]=true then _ else _;rw[Zda];refine XX ⟨_,rfl,.inl ⟨rfl,_,SqL.of hs2⟩,ixT rfl (SqT.of row2) rfl (ixT rfl (SqT.of row2) rfl ⟨show 2<=sizeLine from sl,fun t2 ht2=>⟨S,_,V.ref t2,rfl,rfl,by rw[Zm (Zf hs2 ht2)];exact hs2,lus2, ?_⟩⟩)⟩
     have row3:upd (upd H2 t2 (.tup [.int dd,.str sr])) S (.lst (us++[.ref t2])) d=some (.tup [.str "move",.str x,.str sr,.int dd]):=by
      rw[Zm (Yj row2 hs2 (fun z=>nomatch z)),Zm (Zf row2 ht2)];exact row2
     have eb:YL u rec=YL (u++[Rw.move x sr dd]) rec:=by rw[ZfF];exact(Bool.or_false _).symm
     exact⟨_,rfl,_,rfl,Yp (fun c=>fin dd sr sp H2 t2 true s2 ht2 (c.symm.trans eb)) (fun c=>ixT rfl (SqT.of row3) rfl ⟨rfl,fin dd sr sp H2 t2 _ s2 ht2 ((decide_eq_false (vne Zrs)).trans ((Bool.eq_false_iff.mpr c).symm.trans eb))⟩)⟩
    |deed x k dd=>
     show if inV (.str "deed") [.str "put",.str "move"]=true then _ else _;rw[Jy ZnK Zq5];exact ZW (keep ⟨rfl,rfl⟩ _ s2)
    |lift h dd=>
     show if inV (.str "lift") [.str "put",.str "move"]=true then _ else _;rw[Jy Zhm Zke];exact ZW (keep ⟨rfl,rfl⟩ _ s2)
    |hold h c n dd=>
     show if inV (.str "hold") [.str "put",.str "move"]=true then _ else _;rw[Jy Zga ZiP];exact ZW (keep ⟨rfl,rfl⟩ _ s2)
   ·rw[if_neg fun z=>e1 (decide_eq_true z)];exact⟨_,us,rfl,hs,ps,s1⟩
  ·rintro σ H1 ⟨v6,us,rfl,hs,ps,s1⟩;rw[List.length_map,le,List.take_of_length_le (Nat.le_refl _)] at ps⊢
   cases hput:YL (ZL ws day) rec with
   |false=>
    refine⟨_,rfl,_,rfl,XX ⟨Nat.zero_le _,fun L hL=>⟨show 5<=sizeLine from sl,fun a ha=>q a ZhW _ (s1.trans ((Zk hL).trans (Zk ha))) ⟨L,Zc,Zk ha _ _ Zc⟩ ⟨fun _=>rfl,fun z=> ?_⟩⟩⟩⟩;rw[hput] at z
    cases z
   |true=>
    refine⟨_,rfl,_,rfl,ZW ?_⟩;obtain⟨v0,us',rfl⟩:∃v0 us',us=v0::us':=by
     cases us with
     |nil=>exact absurd (List.eq_nil_of_length_eq_zero (Paired.length ps)) (ZiV hput)
     |cons v0 us=>exact⟨v0,us,rfl⟩
    refine⟨_,rfl,S,v0,us',_,rfl,SqL.of hs,ZiU ps,fun v y mem sp best=> ?_⟩;have top:Top (Ym (ZL ws day) rec) y:=⟨mem,best⟩
    obtain⟨pv,rfl,hv⟩:=sp;refine⟨pv,_,_,_,rfl,rfl,hv,rfl, ?_⟩;have hn:y.2∈rs.map Sr.nm:=ro.ser rec y (Zf0 mem);obtain⟨r0,hr0,er,ht,_⟩:=Zfv (ZhE rs) rs.reverse (some y.2) (ZeX bk) (fun x hx=>ZeY nd (List.mem_reverse.mp hx)) (fun m hm=>by cases hm;rw[List.map_reverse,List.mem_reverse];exact hn) (fun z=>nomatch z)
    have hr0:r0∈rs:=List.mem_reverse.mp hr0;obtain⟨t,et⟩:∃t,r0.tm=some t:=Option.isSome_iff_exists.mp ht;obtain⟨tg,tc⟩:=(ZdM bk r0 hr0).tm t et;have td:=Tr.deep_cnt t;refine⟨_,rfl,_,rfl,p,y.2,rs,r0,rfl,⟨bs,s1 _ _ hp,Xr s1 pb⟩,bk,lr,hn,er,fun d H2 s2 ⟨v,row,tv⟩=> ?_⟩;rw[et] at tv
    obtain⟨ta,rfl,tt⟩:=tv;have s12:=s1.trans s2;refine⟨_,rfl,d,_,_,_,rfl,rfl,SqT.of row,rfl,_,rfl,_,rfl,_,rfl,qa,ws,rec,day,rfl,⟨ds,s12 _ _ hq,ZR s12 pr⟩,lw,fun L3 H3 _ s3 hl3=>⟨ta,L3,t,_,rfl,tt.same s3,by omega,.inl hl3,fun H4 s4=> ?_⟩⟩;have s14:=s12.trans (s3.trans s4);have row4:=s4 _ _ (s3 _ _ row);have s13:=s14;have hq4:=s14 _ _ hq;refine⟨_,rfl,qa,rfl,⟨_,SqL.of hq4⟩,Xm ds.length (fun i=>((ws[i]?).map (Zgl day)).getD []) (by omega) (fun i=> ?_) (fun i H5 s5 lt=>⟨_,_,SqL.of (s5 _ _ hq4),List.getElem?_eq_getElem (by rw[List.length_map];exact lt)⟩) (fun H5 s5=>⟨_,SqL.of (s5 _ _ hq4),by rw[List.length_map];exact Nat.le_refl _⟩) (fun i z H5 H6 s5 lt yl RT RF rt rf=> ?_) fun D H5 hD s5 d5=> ?_⟩
    ·cases ws[i]? with
     |none=>exact Nat.zero_le _
     |some w=>
      show(Zgl day w).length<=1;unfold Zgl
      split
      ·cases Zad w with
       |none=>exact Nat.zero_le _
       |some z=>exact Nat.le_refl _
      ·exact Nat.zero_le _
    ·obtain⟨rfl,yl⟩:=yl;obtain⟨d1,rfl,ed⟩:=YX (yl _ (SqL.of (s5 _ _ hq4)));obtain⟨w1,ew,row1⟩:=Yh (ZR (s14.trans s5) pr) i d1 ed;rw[ew] at rt rf
     have rt:∀v H6,Zgl day w1=[v]->_:=rt;have rf:∀H5,Zgl day w1=[]->_:=rf;have no:Zad w1=none->Zgl day w1=[]:=fun e=>by
      unfold Zgl;rw[e]
      split<;>rfl
     refine⟨⟨rfl,trivial⟩, ?_⟩;cases w1 with
     |lift h dd=>
      have row1:H6 d1=some (.tup [.str "lift",.str h,.int dd]):=row1;exact ixT rfl (SqT.of row1) rfl ⟨rfl,_,rfl,Zb9 rfl (ixT rfl (SqT.of row1) rfl ⟨_,rfl,_,_,rfl,rfl,_,rfl,Yp (fun e=>ixT rfl (SqT.of row1) rfl (rt _ _ (if_pos (of_decide_eq_true e)) (Zy.refl _))) (fun e=>rf _ (if_neg fun z=>e (decide_eq_true z)) (Zy.refl _))⟩)⟩
     |put x sr dd=>exact ixT rfl (SqT.of row1) rfl ⟨rfl,_,rfl,Yu (vne Zhm) (ZW (rf _ (no rfl) (Zy.refl _)))⟩
     |move x sr dd=>exact ixT rfl (SqT.of row1) rfl ⟨rfl,_,rfl,Yu (vne Zke) (ZW (rf _ (no rfl) (Zy.refl _)))⟩
     |deed x k dd=>exact ixT rfl (SqT.of row1) rfl ⟨rfl,_,rfl,Yu (vne Zm6) (ZW (rf _ (no rfl) (Zy.refl _)))⟩
     |hold h c n dd=>exact ixT rfl (SqT.of row1) rfl ⟨rfl,_,rfl,Yu (vne Zrx) (ZW (rf _ (no rfl) (Zy.refl _)))⟩
    ·rw[le,Xo,Zks] at d5
     have s15:=s14.trans s5;have row5:=s5 _ _ row4;generalize els:Xi (ZL ws day)=ls at d5
     generalize elin:Jg rs.reverse (some y.2)=line;refine⟨Nat.zero_le _,fun Hd hHd=> ?_⟩;have hq5:=s15 _ _ hq;refine⟨_,rfl,qa,rfl,⟨_,SqL.of (Zk hHd _ _ hq5)⟩,YQ (xs:=ds.map V.ref) (fun i σ H'=>∃v6:Option V,σ=[some (.ref p),some (.ref qa),some (.str rec),some (.int day),some (.ref S),some (.bl true),v6,some (.str y.2),some (.ref d),some (oV (t.due (Yc (ZL ws day) rec))),some (.ref D),some (.ref Hd)]/\H' Hd=some (.lst ((Za3 ls line rec day (ws.take i)).map V.str))/\Zy H5 H') ?_ ?_ ?_ ?_⟩
     ·exact⟨_,rfl,Zc,Zk hHd⟩
     ·rintro i σ H6 _ ⟨v6,rfl,_,s6⟩;exact SqL.of (s6 _ _ hq5)
     ·rintro i x σ H6 hx ⟨v6,rfl,hh6,s6⟩;obtain⟨d1,rfl,ed⟩:=YX hx;obtain⟨w1,ew,row1⟩:=Yh (ZR (s15.trans s6) pr) i d1 ed;have tk:ws.take (i+1)=ws.take i++[w1]:=by rw[List.take_add_one,ew];rfl
      have lh:(Za3 ls line rec day (ws.take i)).length<=1000:=by
       have h1:=List.length_take_le' i ws;have h2:(ZL (ws.take i) day).length<=(ws.take i).length:=List.length_filter_le _ _;have h3:=List.length_filter_le (Jp ls) (ZL (ws.take i) day);have h4:=List.length_filter_le (ZaQ rec line) ((ZL (ws.take i) day).filter (Jp ls));unfold Za3;rw[List.length_map];omega
      rw[tk];have keep:∀{v:Option V},¬(w1.day<=day/\Jp ls w1=true/\ZaQ rec line w1=true)->∀Ha,Zy H6 Ha->∃v6:Option V,[some (V.ref p),some (.ref qa),some (.str rec),some (.int day),some (.ref S),some (.bl true),v,some (.str y.2),some (.ref d),some (oV (t.due (Yc (ZL ws day) rec))),some (.ref D),some (.ref Hd)]=[some (V.ref p),some (.ref qa),some (.str rec),some (.int day),some (.ref S),some (.bl true),v6,some (.str y.2),some (.ref d),some (oV (t.due (Yc (ZL ws day) rec))),some (.ref D),some (.ref Hd)]/\Ha Hd=some (.lst ((Za3 ls line rec day (ws.take i++[w1])).map V.str))/\Zy H5 Ha:=fun{v} h Ha sa=>by
       rw[Zrf h];exact⟨_,rfl,sa _ _ hh6,s6.trans sa⟩
      have fin:∀{v:Option V},w1.day<=day->Jp ls w1=true->ZaQ rec line w1=true->∀Ha,Zy H6 Ha->∃v6:Option V,[some (V.ref p),some (.ref qa),some (.str rec),some (.int day),some (.ref S),some (.bl true),v,some (.str y.2),some (.ref d),some (oV (t.due (Yc (ZL ws day) rec))),some (.ref D),some (.ref Hd)]=[some (V.ref p),some (.ref qa),some (.str rec),some (.int day),some (.ref S),some (.bl true),v6,some (.str y.2),some (.ref d),some (oV (t.due (Yc (ZL ws day) rec))),some (.ref D),some (.ref Hd)]/\upd Ha Hd (.lst ((Za3 ls line rec day (ws.take i)).map V.str++[.str w1.one])) Hd=some (.lst ((Za3 ls line rec day (ws.take i++[w1])).map V.str))/\Zy H5 (upd Ha Hd (.lst ((Za3 ls line rec day (ws.take i)).map V.str++[.str w1.one]))):=fun{v} h1 h2 h3 Ha sa=>by
       rw[Zqn h1 h2 h3];exact⟨_,rfl,by rw[Zc,List.map_append];rfl,fun c u e=>by rw[Zm (Zf e hHd)];exact sa _ _ (s6 _ _ e)⟩
      have lh2:((Za3 ls line rec day (ws.take i)).map V.str).length<sizeLine:=by rw[List.length_map];omega
      generalize Za3 ls line rec day (ws.take i)=hs0 at hh6 lh lh2 fin
      cases w1 with
      |put x sr dd=>exact ixT rfl (SqT.of row1) rfl ⟨rfl,_,rfl,Yu (vne Zga) (ZW (keep (fun z=>nomatch z.2.1) _ (Zy.refl _)))⟩
      |move x sr dd=>exact ixT rfl (SqT.of row1) rfl ⟨rfl,_,rfl,Yu (vne ZiP) (ZW (keep (fun z=>nomatch z.2.1) _ (Zy.refl _)))⟩
      |deed x k dd=>exact ixT rfl (SqT.of row1) rfl ⟨rfl,_,rfl,Yu (vne ZiQ) (ZW (keep (fun z=>nomatch z.2.1) _ (Zy.refl _)))⟩
      |lift h dd=>exact ixT rfl (SqT.of row1) rfl ⟨rfl,_,rfl,Yu (vne Zm7) (ZW (keep (fun z=>nomatch z.2.1) _ (Zy.refl _)))⟩
      |hold h c n dd=>
       have row1:H6 d1=some (.tup [.str "hold",.str h,.str (onW c),.str n,.int dd]):=row1;refine(ixT rfl (SqT.of row1) rfl ⟨rfl,_,rfl,Zb9 rfl (ixT rfl (SqT.of row1) rfl ⟨_,rfl,_,_,rfl,rfl,_,rfl,Yp (fun e1=> ?_) (fun e1=>ZW (keep (fun z=>e1 (decide_eq_true z.1)) _ (Zy.refl _)))⟩)⟩);have e1:dd<=day:=of_decide_eq_true e1;refine(ixT rfl (SqT.of row1) rfl ⟨_,rfl,D,_,rfl,.inl (SqL.of (s6 _ _ d5)),rfl,Zf2 _,_,rfl, ?_⟩)
       rw[Zl7];show if(!decide (h∈ls))=true then _ else _;refine Yp (fun e2=> ?_) (fun e2=>keep (fun z=> ?_) _ (Zy.refl _))
       ·have st:Jp ls (.hold h c n dd)=true:=by
         show decide (h∉ls)=true;rw[decide_not];exact e2
        refine⟨_,rfl,_,rfl,_,rfl,d1,_,rfl,SqT.of row1,(by show¬(HT.sIx 5 0 (some 2)=0/\HT.sIx 5 5 (some 4)=5);decide),fun p1 hp1=>⟨_,rfl,show 2<=sizeLine from sl,fun p2 hp2=> ?_⟩⟩
        have sa:=(Zk hp1 (o:=.tup (Ze8 [.str "hold",.str h,.str (onW c),.str n,.int dd] (some 2) (some 4)))).trans (Zk hp2 (o:=.tup [.str "record",.str rec]));have c1:upd (upd H6 p1 (.tup (Ze8 [.str "hold",.str h,.str (onW c),.str n,.int dd] (some 2) (some 4)))) p2 (.tup [.str "record",.str rec]) p1=some (.tup [.str (onW c),.str n]):=(Zk hp2) _ _ Zc;have c2:upd (upd H6 p1 (.tup (Ze8 [.str "hold",.str h,.str (onW c),.str n,.int dd] (some 2) (some 4)))) p2 (.tup [.str "record",.str rec]) p2=some (.tup [.str "record",.str rec]):=Zc
        refine⟨2,.tup [.v (.str (onW c)),.v (.str n)],.tup [.v (.str "record"),.v (.str rec)],by decide,rfl,.tup (SqT.of c1) (.cons (.flat rfl) (.cons (.flat rfl) .nil)),.tup (SqT.of c2) (.cons (.flat rfl) (.cons (.flat rfl) .nil)),rfl,_,rfl, ?_⟩;generalize upd (upd H6 p1 (.tup (Ze8 [.str "hold",.str h,.str (onW c),.str n,.int dd] (some 2) (some 4)))) p2 (.tup [.str "record",.str rec])=H7 at sa
        have row7:=sa _ _ row1;have hh7:=sa _ _ hh6;show if Xp 2 (.tup [.v (.str (onW c)),.v (.str n)]) (.tup [.v (.str "record"),.v (.str rec)])=true then _ else _;rw[Zrg];cases c with
        |true=>
         have ey:(decide (onW true=Str.ofString "record")&&decide (n=rec))=decide (n=rec):=by
          rw[decide_eq_true (show onW true=Str.ofString "record" from rfl)]
          rfl
         rw[ey];refine Yp (fun e3=>XX ⟨_,rfl,.inl ⟨rfl,_,SqL.of hh7⟩,ixT rfl (SqT.of row7) rfl ⟨Hd,_,_,rfl,rfl,hh7,lh2,fin e1 st e3 _ sa⟩⟩) (fun e3=> ?_);exact ixT rfl (SqT.of row7) rfl ⟨rfl,_,rfl,Yu (vne Zth) (ZW (keep (fun z=>e3 z.2.2) _ sa))⟩
        |false=>
         have ey:(decide (onW false=Str.ofString "record")&&decide (n=rec))=false:=by
          rw[decide_eq_false (show¬onW false=Str.ofString "record" from Zry)]
          rfl
         rw[ey];refine ZW (ixT rfl (SqT.of row7) rfl ⟨rfl,_,rfl,Zb9 rfl (ixT rfl (SqT.of row7) rfl ⟨_,rfl,_,rfl,p,y.2,rs,rfl,⟨bs,sa _ _ (s6 _ _ (s15 _ _ hp)),Xr ((s15.trans s6).trans sa) pb⟩,bk,lr,hn,fun L8 H8 _ s8 hl8=>⟨L8,_,rfl,.inl (SqL.of hl8),rfl,Zf2 _,_,rfl, ?_⟩⟩)⟩);rw[elin,Zl7];have row8:=s8 _ _ row7;have hh8:=s8 _ _ hh7;exact Yp (fun e3=>⟨_,rfl,.inl ⟨rfl,_,SqL.of hh8⟩,ixT rfl (SqT.of row8) rfl ⟨Hd,_,_,rfl,rfl,hh8,lh2,fin e1 st e3 _ (sa.trans s8)⟩⟩) (fun e3=>keep (fun z=>e3 z.2.2) _ (sa.trans s8))
       ·have z2:decide (h∉ls)=true:=z.2.1;rw[decide_not] at z2
        exact e2 z2
     ·rintro σ H6 ⟨v6,rfl,hh6,s6⟩;rw[List.length_map,le,List.take_of_length_le (Nat.le_refl _)] at hh6
      have eh:Za3 ls line rec day ws=Yw (ZL ws day) rec line:=by
       rw[<-els]
       rfl
      rw[eh] at hh6
      have few:(Yw (ZL ws day) rec line).length<64:=Nat.lt_of_le_of_lt Zkg ro.held;have row6:=s6 _ _ row5;have s16:=s15.trans s6;have jd:∀(wd:Str) (zs:List Str),zs.Perm (Yw (ZL ws day) rec line)->sortedS zs=true->wd=JD (t.due (Yc (ZL ws day) rec)) zs.length day->IsJ rs ws rec day ⟨wd,some y.2,some r0.nm,t.due (Yc (ZL ws day) rec),zs⟩:=fun wd zs pz sz ew=>⟨(fun z=>by rw[hput] at z;cases z),fun _=>⟨y,r0,t,top,er,et,rfl,rfl,rfl,by rw[elin];exact pz,sz,ew⟩⟩
      generalize t.due (Yc (ZL ws day) rec)=due at jd
      generalize Yw (ZL ws day) rec line=ho at hh6 few jd
      cases due with
      |none=>
       exact⟨_,rfl,rfl,_,rfl,Zb9 rfl (XX ⟨_,rfl,ixT rfl (SqT.of row6) rfl ⟨_,rfl,_,rfl,Hd,ho,rfl,SqL.of hh6,few,fun zs pz sz D2 hD2=>⟨show 5<=sizeLine from sl,fun a ha=>q a ⟨"kept",some y.2,some r0.nm,none,zs⟩ _ (s16.trans ((Zk hD2).trans (Zk ha))) ⟨D2,Zc,Zk ha _ _ Zc⟩ (jd "kept" zs pz sz rfl)⟩⟩⟩)⟩
      |some dd=>
       refine⟨_,rfl,rfl,_,rfl,Yu (fun z=>nomatch z) ⟨_,rfl,_,rfl,_,_,rfl,rfl,_,rfl,Yp (fun e=> ?_) (fun e=> ?_)⟩⟩
       ·have e:day<dd:=of_decide_eq_true e;exact⟨_,rfl,ixT rfl (SqT.of row6) rfl ⟨_,rfl,_,rfl,Hd,ho,rfl,SqL.of hh6,few,fun zs pz sz D2 hD2=>⟨show 5<=sizeLine from sl,fun a ha=>q a ⟨"kept",some y.2,some r0.nm,some dd,zs⟩ _ (s16.trans ((Zk hD2).trans (Zk ha))) ⟨D2,Zc,Zk ha _ _ Zc⟩ (jd "kept" zs pz sz (if_pos e).symm)⟩⟩⟩
       ·have e:¬day<dd:=fun z=>e (decide_eq_true z);refine⟨show 2<=sizeLine from sl,fun p1 hp1=>⟨_,rfl,Nat.zero_le _,fun p2 hp2=> ?_⟩⟩;have sa:=(Zk hp1 (o:=.lst [.str "due",.str "held"])).trans (Zk hp2 (o:=.lst []));have g1:upd (upd H6 p1 (.lst [.str "due",.str "held"])) p2 (.lst []) p1=some (.lst [.str "due",.str "held"]):=(Zk hp2) _ _ Zc;have g2:upd (upd H6 p1 (.lst [.str "due",.str "held"])) p2 (.lst []) p2=some (.lst []):=Zc
        refine⟨2,.lst (ho.map fun z=>Dt.v (.str z)),.lst [],by decide,rfl,.lst (SqL.of (sa _ _ hh6)) (Zme ho),.lst (SqL.of g2) .nil, ?_,.inr ⟨_,rfl,p1,_,_,_,rfl,rfl,SqL.of g1,Zrh ho, ?_⟩⟩
        ·show((ho.map fun z=>Dt.v (.str z)).zip []).all _=true;rw[List.zip_nil_right]
         rfl
        generalize upd (upd H6 p1 (.lst [.str "due",.str "held"])) p2 (.lst [])=H7 at sa
        exact⟨_,rfl,ixT rfl (SqT.of (sa _ _ row6)) rfl ⟨_,rfl,_,rfl,Hd,ho,rfl,SqL.of (sa _ _ hh6),few,fun zs pz sz D2 hD2=>⟨show 5<=sizeLine from sl,fun a ha=>q a ⟨if 0<ho.length then "held" else "due",some y.2,some r0.nm,some dd,zs⟩ _ (s16.trans (sa.trans ((Zk hD2).trans (Zk ha)))) ⟨D2,Zc,Zk ha _ _ Zc⟩ (jd _ zs pz sz (by rw[pz.length_eq];exact(if_neg e).symm))⟩⟩⟩
theorem Zji{α:Type}{p:α×α}:∀{l:List α},p∈l.zip l->p.1=p.2/\p.1∈l
 |x::l,h=>by
  obtain rfl|h2:=List.mem_cons.mp h
  ·exact And.intro rfl (List.mem_cons_self ..)
  ·obtain⟨a,b⟩:=Zji h2;exact⟨a,List.mem_cons_of_mem _ b⟩
def Zfd(n:Nat)(d:Dt):Prop:=Xp n d d=true/\Zat n d d=true
theorem Zh5{n:Nat}{x:V}(h:Xy x=true):Zfd n (.v x):=by
 cases n<;>exact⟨Jt h,rfl⟩
theorem Zgm{n:Nat}{ds:List Dt}(h:∀d∈ds,Zfd n d):(ds.zip ds).all (fun p=>Xp n p.1 p.2)=true/\(ds.zip ds).all (fun p=>Zat n p.1 p.2)=true:=
 ⟨List.all_eq_true.mpr fun p hp=>by obtain⟨a,b⟩:=Zji hp;rw[<-a];exact(h _ b).1,List.all_eq_true.mpr fun p hp=>by obtain⟨a,b⟩:=Zji hp;rw[<-a];exact(h _ b).2⟩
theorem Zjj{n:Nat}{ds:List Dt}(h:∀d∈ds,Zfd n d):Zfd (n+1) (.tup ds):=⟨by
 show((ds.zip ds).all (fun p=>Xp n p.1 p.2)&&ds.length==ds.length)=true;rw[(Zgm h).1,beq_self_eq_true]
 rfl,(Zgm h).2⟩
theorem Zms{n:Nat}{ds:List Dt}(h:∀d∈ds,Zfd n d):Zfd (n+1) (.lst ds):=⟨by
 show(ds.length==ds.length&&(ds.zip ds).all (fun p=>Xp n p.1 p.2))=true;rw[(Zgm h).1,beq_self_eq_true]
 rfl,(Zgm h).2⟩
theorem ZrA{c A B:Prop} [Decidable c](hc:c)(h:B):if(!decide c)=true then A else B:=by
 rw[decide_eq_true hc];exact ZW h
theorem Zjk{α β:Type}{R:α->β->Prop}:∀{zs:List (β×α)},(∀z∈zs,R z.2 z.1)->Paired R (zs.map (·.2)) (zs.map (·.1))
 |[],_=> .nil
 |z::zs,h=> .cons (h z (List.mem_cons_self ..)) (Zjk fun y hy=>h y (List.mem_cons_of_mem _ hy))
theorem Zmt{α β:Type}{R:α->β->Prop}:∀{as:List α} {bs:List β},Paired R as bs->∀z∈bs.zip as,R z.2 z.1
 |_,_,.nil,z,h=>nomatch h
 |_,_,.cons r t,z,h=>by
  rcases List.mem_cons.mp h with rfl|h
  ·exact r
  ·exact Zmt t z h
theorem ZnW{α β R:Type}{S:α->β->Prop}:∀{as:List α} {bs:List β},Paired S as bs->(bs.zip as).map (·.2)=as
 |_,_,.nil=>rfl
 |_,_,.cons _ t=>congrArg (_:: ·) (ZnW (R:=R) t)
theorem Zlu{α:Type}{x:α}{xs:List α}:atI (x::xs) 0=some x:=by
 unfold atI ixN;rw[if_pos (by decide),if_pos (by rw[List.length_cons];omega)]
 rfl
theorem Zlv{rs:List Sr}{ws:List Rw}{rec:Str}{day:Int}{j:Jd}(is:IsJ rs ws rec day j)(w:j.word=Str.ofString "due"):∃(y:ZaI) (r0:Sr) (t:Tr) (D:Int),YL (ZL ws day) rec=true/\Top (Ym (ZL ws day) rec) y/\Zer rs.reverse (some y.2)=some r0/\r0.tm=some t/\j.ser=some y.2/\j.own=some r0.nm/\j.due=some D/\t.due (Yc (ZL ws day) rec)=some D:=by
 cases ip:YL (ZL ws day) rec with
 |false=>
  rw[is.no ip] at w
  exact absurd w (by decide+kernel:¬Str.ofString "absent"=Str.ofString "due")
 |true=>
  obtain⟨y,r0,t,top,ow,ht,e4,e5,e6,e7,e8,e9⟩:=is.yes ip;cases hd:j.due with
  |none=>
   rw[w,hd] at e9
   exact absurd e9 (by decide+kernel:¬Str.ofString "due"=Str.ofString "kept")
  |some D=>exact⟨y,r0,t,D,rfl,top,ow,ht,e4,e5,rfl,e6▸hd⟩
def ZcQ:Sp:=fun vs H Q _=>∃(p q:Addr) (rs:List Sr) (ws:List Rw) (rec:Str) (day:Int) (j:Jd),vs=[.ref p,.ref q,.str rec,.int day]/\LBk H p rs/\Jx [] rs/\rs.length<=8/\Ys H q ws/\ZdI rs ws/\IsJ rs ws rec day j/\j.word=Str.ofString "due"/\∀v H',Zy H H'->Zm2 rs ws rec day H' v->Q v H'
theorem Xg:ZG ["_law_book","_law_rows","_law_record","_law_day","_law_word","_law_series","_law_owner_here","_law_due_here","_law_holds","_law_life_here","_law_leaves_here","_law_some"] ["_law_book","_law_rows","_law_record","_law_day"] (Zw ZdA):=⟨rfl,rfl,rfl,by decide+kernel,rfl,by decide+kernel,by decide+kernel⟩
theorem ZjP{f:Addr}{fd:FuncData}(F:Fun K "_law_reason" "_law_reason" ZdA f fd)(T:Txt K mg Zj Zg Zh Zb Zo)(Za0:Cal P w K mg base CX0 14 "_law_judged" ["_law_book","_law_rows","_law_record","_law_day"] Zb2)(JZ:Cal P w K mg base CX0 13 "_law_leaves" ["_law_tree"] (Za5 12))(ZaY:Cal P w K mg base CX0 1 "_law_life" ["_law_rows","_law_record","_law_day"] Zct)(Zan:Cal P w K mg base CX0 2 "_law_owner" ["_law_book","_law_name"] ZbK):Yn P w K mg base CX0 15 f fd ["_law_book","_law_rows","_law_record","_law_day"] ZcQ:=by
 refine F.ok Xg (fun vs H Q E h=> ?_) (fun cdv A outer s H vs Q E hr h=> ?_)
 ·obtain⟨p,q,rs,ws,rec,day,j,rfl,_⟩:=h
  rfl
 ·obtain⟨p,q',rs,ws,rec,day,j,rfl,⟨bs,hp,pb⟩,bk,lr,rws,ok,is,wd,q⟩:=h;have l5:=YZ;have hu:=ZaJ hr;have hu3:=ZlQ hr;have nd:=Zd9 bk;have br:=ZeX bk;obtain⟨y,r0,t,D,ip,top,ow,ht,e4,e5,e6,hd⟩:=Zlv is wd;have hy:=ok.ser rec y (Zf0 top.1);have hy':∀m,some y.2=some m->m∈rs.reverse.map Sr.nm:=fun m hm=>by
   injection hm with hm
   rw[<-hm,List.map_reverse,List.mem_reverse];exact hy
  obtain⟨r1,hr1,ow1,_,_⟩:=Zfv (ZhE rs) rs.reverse (some y.2) br (fun r hr=>ZeY nd (List.mem_reverse.mp hr)) hy' (fun z=>nomatch z);obtain rfl:r0=r1:=by rw[ow] at ow1;injection ow1
  have ct:=((ZdM bk r0 (List.mem_reverse.mp hr1)).tm t ht).2;have dp:=t.deep_cnt;refine⟨_,(Ze (ZoX (ZQ Za0 (hr.mono (by omega)) rfl ZJ (Za (pv 0) (Za (pv 1) (Za (pv 2) (Za (pv 3) Zi))))) (Zic rfl (YC (ZK (i:=4) Xg.nd rfl (Or.inl rfl)) (YC (ZK (i:=5) Xg.nd rfl (Or.inl rfl)) (YC (ZK (i:=6) Xg.nd rfl (Or.inl rfl)) (YC (ZK (i:=7) Xg.nd rfl (Or.inr rfl)) (YC (ZK (i:=8) Xg.nd rfl (Or.inl rfl)) Zdp))))))) (Ze (Zz (i:=9) Xg.nd rfl (Or.inr rfl) (ZQ ZaY (hr.mono (by omega)) rfl ZJ (Za (pv 1) (Za (pv 2) (Za (pv 3) Zi))))) (Ze (Zz (i:=10) Xg.nd rfl (Or.inl rfl) (ZM (ZkT Zr1 hu3) (by rfl) T.z_sorted Zai (Za (ZQ JZ (hr.mono (by omega)) rfl ZJ (Za (Zr Zu (ZQ Zan (hr.mono (by omega)) rfl ZJ (Za (pv 0) (Za (pv 5) Zi))) Zd (fun _ _=>rfl)) Zi)) Zi))) (Ze (ZfT (i:=11) ["_law_leaf"] [("_law_life_here",9),("_law_due_here",7)] Xg.nd rfl (Or.inl rfl) rfl (Yg (pv 10)) (by rfl) (by exact⟨rfl,⟨rfl,trivial⟩⟩) (by rfl) (by exact⟨⟨rfl,rfl,rfl⟩,⟨⟨rfl,rfl,rfl⟩,trivial⟩⟩) (fun _ _ _ _=>(ZK (i:=0) (show(nmY ["_law_leaf"] [("_law_life_here",9),("_law_due_here",7)]).Nodup by decide+kernel) rfl (Or.inl rfl))) (fun _ _ _ _=>(JB (PW.pt (Xb (Zdo (Zim hu (Zr (Yq (K:=K) rfl) (pv 0) Zd (fun _ _=>rfl)) (pv 1))) (YT (Zq ZZ (ZC XM (Za9 hu (pv 1) (Zr (Yq (K:=K) rfl) (pv 0) Zd (fun _ _=>rfl)) (fun _ _=>rfl)) (Zr (Yq (K:=K) rfl) (pv 0) Zd (fun _ _=>rfl))) (pv 2) (Zt _))))))) (fun _ _ _ _=>(pv 0))) (Zn (Zx (Yr (Za (Zr Zu (Zr YJ (pv 11) Zd (fun _ _=>rfl)) Zd (fun _ _=>rfl)) (Za (Za9 hu (pv 9) (Zr Zu (Zr YJ (pv 11) Zd (fun _ _=>rfl)) Zd (fun _ _=>rfl)) (fun _ _=>rfl)) (Za (Zr Zu (Zr YJ (pv 11) Zd (fun _ _=>rfl)) Zd (fun _ _=>rfl)) Zi)))))))))), ?_⟩
  refine⟨_,rfl,_,rfl,_,rfl,_,rfl,p,q',rs,ws,rec,day,rfl,⟨bs,hp,pb⟩,bk,lr,rws,ok,fun a j' H1 s1 ⟨Lh,hja,_⟩ is'=> ?_⟩;obtain rfl:=is.one is';rw[e4,e5,e6] at hja
  refine⟨a,_,rfl,SqT.of hja,rfl,_,_,rfl,_,_,rfl,_,_,rfl,_,_,rfl,_,_,rfl,rfl, ?_⟩;refine⟨_,rfl,_,rfl,_,rfl,q',ws,rec,day,rfl,Yd s1 rws,ok.len,fun L H2 hL s2 hl=> ?_⟩;have s02:=s1.trans s2;refine⟨_,rfl,_,rfl,p,y.2,rs,r0,rfl,⟨bs,s02 _ _ hp,Xr s02 pb⟩,bk,lr,hy,ow,fun d H3 s3 ⟨v,row,tv⟩=> ?_⟩;rw[ht] at tv
  obtain⟨ta,rfl,tv⟩:=tv;refine⟨d,_,_,_,rfl,rfl,SqT.of row,rfl,ta,t,rfl,tv,by omega,by omega,fun Lv H4 s4 hLv ⟨ys,hv,pv⟩=> ?_⟩;have pv:Paired (LfH H4) t.lvs ys:=pv;have lvc:=t.lvs_cnt;have le:=Paired.length pv;refine⟨Lv,ys,t.lvs,rfl,SqL.of hv,by omega,Zn7 pv,fun zs pz sz Ls hLs=> ?_⟩;have s5:=Zk hLs (o:=.lst (zs.map (·.1)));have hls:upd H4 Ls (.lst (zs.map (·.1))) Ls=some (.lst (zs.map (·.1))):=Zc;have pu:Paired (LfH (upd H4 Ls (.lst (zs.map (·.1))))) (zs.map (·.2)) (zs.map (·.1)):=Zdc s5 (Zjk fun z hz=>Zmt pv z (pz.subset hz))
  have s05:=s02.trans (s3.trans (s4.trans s5));have hl5:=s5 _ _ (s4 _ _ (s3 _ _ hl));have pl:(zs.map (·.2)).Perm t.lvs:=by
   have:=pz.map (·.2)
   rwa [ZnW (R:=Unit) pv] at this
  have asc:(zs.map (·.2)).Pairwise fun a b=>ZcB b a=false:=List.pairwise_map.mpr sz;show Zkx _ _ _ _ (upd H4 Ls (.lst (zs.map (·.1))));generalize upd H4 Ls (.lst (zs.map (·.1)))=H5 at s5 hls pu s05 hl5
  generalize zs.map (·.2)=ls at pu pl asc
  generalize zs.map (·.1)=vs at hls pu
  have l1:=pl.length_eq;have l2:=Paired.length pu;generalize hlf:Yc (ZL ws day) rec=l at hl5 hd
  have lz:(ls.zip vs).length=vs.length:=by rw[List.length_zip];omega
  refine⟨_,rfl,Ls,rfl,⟨_,SqL.of hls⟩,Xm (ls.zip vs).length (fun j=>(((ls.zip vs)[j]?).map fun z=>if Xn l D z.1=true then[z.2] else[]).getD []) (by omega) (fun j=>Zq8) (fun j H2 s2 lt=>⟨_,_,SqL.of (s2 _ _ hls),List.getElem?_eq_getElem (by omega)⟩) (fun H2 s2=>⟨_,SqL.of (s2 _ _ hls),by omega⟩) (fun j x H8 H9 s8 lt yl RT RF rt rf=> ?_) fun B H8 hB s8 d8=> ?_⟩
  ·obtain⟨rfl,yl⟩:=yl;obtain⟨kd,qa,ez,rfl,row⟩:=ZfZ (Zdc s8 pu) j x (yl _ (SqL.of (s8 _ _ hls)));rw[ez] at rt rf
   have rt:∀v H6,(if Xn l D kd=true then[V.ref qa] else[])=[v]->_:=rt;have rf:∀H5,(if Xn l D kd=true then[V.ref qa] else[])=[]->_:=rf;have hl9:=s8 _ _ hl5;have dg:=ZcO (.inl hl9) kd.1;refine⟨⟨rfl,rfl,trivial⟩,ixT rfl (SqT.of row) rfl ⟨_,rfl,L,_,rfl,dg,_,rfl, ?_⟩⟩;rw[ZdL];cases ev:lk l kd.1 with
   |none=>exact ZW (rf _ (if_neg (by rw[Zmd ev];exact Bool.false_ne_true)) (Zy.refl _))
   |some d=>
    rw[ev] at dg
    refine XX ⟨_,rfl,ixT rfl (SqT.of row) rfl ⟨L,_,rfl,dg,ixT rfl (SqT.of row) rfl ⟨_,_,rfl,rfl,_,rfl,rfl,_,rfl, ?_⟩⟩⟩;refine Yp (fun z=>⟨_,rfl,rt _ _ (if_pos (by rw[Zgd ev];exact z)) (Zy.refl _)⟩) (fun z=>rf _ (if_neg (by rw[Zgd ev];exact z)) (Zy.refl _))
  ·rw[Xo (fun z:Lf×V=>if Xn l D z.1=true then[z.2] else[]) (ls.zip vs)] at d8
   have pf:=ZgS (Xn l D) (Zdc s8 pu);generalize hzs:((ls.zip vs).flatMap fun z=>if Xn l D z.1=true then[z.2] else[])=us at d8 pf
   have asf:(ls.filter (Xn l D)).Pairwise fun a b=>ZcB b a=false:=asc.filter _;have rsub:∀z,z∈Zcu l D t.lvs↔z∈ls.filter (Xn l D):=fun z=>((pl.filter _).mem_iff).symm;generalize ls.filter (Xn l D)=gs at pf asf rsub
   cases pf with
   |nil=>
    refine absurd ?_ (Zgc hd);exact List.eq_nil_iff_forall_not_mem.mpr fun z hz=>nomatch (rsub z).mp hz
   | @cons kd v0 gs us r0' tl=>
    obtain⟨qa,rfl,row⟩:=r0';have mem:=(rsub kd).mpr (List.mem_cons_self ..);have best:∀z∈Zcu l D t.lvs,ZcB z kd=false:=fun z hz=>by
     rcases List.mem_cons.mp ((rsub z).mp hz) with rfl|m
     ·exact Zc1.irr _
     ·exact(List.pairwise_cons.mp asf).1 z m
    have cm:=of_decide_eq_true (List.mem_filter.mp mem).2;obtain⟨d,ev⟩:∃d,lk l kd.1=some d:=by
     cases e:lk l kd.1 with
     |none=>rw[e] at cm;cases cm
     |some d=>exact⟨d,rfl⟩
    have dg:=ZcO (.inl (s8 _ _ hl5)) kd.1;rw[ev] at dg
    refine⟨_,rfl,B,_,_,_,rfl,rfl,SqL.of d8,Zlu,qa,_,_,_,rfl,rfl,SqT.of row,rfl, ?_⟩;refine⟨_,rfl,_,rfl,B,_,_,_,rfl,rfl,SqL.of d8,Zlu,qa,_,_,_,rfl,rfl,SqT.of row,rfl,L,_,rfl,dg, ?_⟩;refine⟨_,rfl,B,_,_,_,rfl,rfl,SqL.of d8,Zlu,qa,_,_,_,rfl,rfl,SqT.of row,rfl,show 3<=sizeLine from sl,fun a ha=> ?_⟩;refine q _ _ (s05.trans (s8.trans (Zk ha))) ⟨fun z=>(by rw[ip] at z;cases z),fun _=>⟨y,r0,t,top,ow,ht,fun e=> ?_,fun D' e=> ?_⟩⟩
    ·rw[hlf,hd] at e
     cases e
    ·rw[hlf] at e⊢
     obtain rfl:D=D':=by rw[hd] at e;injection e
     exact⟨a,kd.1,d,kd.2,rfl,Zc,ev,mem,best⟩
def Zso(w:Rw):Bool:=decide (w.word=Str.ofString "put")
def Zdg(ws:List Rw):List Str:=(ws.filter Zso).map Rw.one
def ZjQ(w:Rw):List V:=if w.word=Str.ofString "put" then[V.str w.one] else[]
theorem Zkt:∀ws:List Rw,ws.flatMap ZjQ=(Zdg ws).map V.str
 |[]=>rfl
 |w::ws=>by
  show ZjQ w++ws.flatMap ZjQ=_;rw[Zkt ws];unfold ZjQ Zdg
  by_cases h:w.word=Str.ofString "put"
  ·rw[if_pos h,List.filter_cons_of_pos (by exact decide_eq_true h)]
   rfl
  ·rw[if_neg h,List.filter_cons_of_neg (by exact fun z=>h (of_decide_eq_true z))]
   rfl
theorem Zsp{w:Rw}(h:w.word=Str.ofString "put"):Za1 w=false:=by
 cases w with
 |lift a b=>exact absurd h (by decide+kernel:¬Str.ofString "lift"=Str.ofString "put")
 |hold a b c d=>exact absurd h (by decide+kernel:¬Str.ofString "hold"=Str.ofString "put")
 |_=>rfl
theorem Zku{rs:List Sr}{i:Nat}{xs:List Str}{ws:List Rw}(h:Xq rs i xs ws):(Zdg ws).Nodup:=by
 unfold Zdg;refine List.nodup_iff_pairwise_ne.mpr (List.pairwise_map.mpr ?_);exact List.pairwise_filter.mpr (h.one.imp fun{a b} n ha hb e=>n ⟨.inl (of_decide_eq_true hb),(of_decide_eq_true ha).trans (of_decide_eq_true hb).symm,e⟩)
theorem Zqo{rs:List Sr}{i:Nat}{xs:List Str}{ws:List Rw}(h:Xq rs i xs ws):(Zdg ws).length<=i:=by
 refine Nat.le_trans ((Zku h).length_le_of_subset fun r hr=> ?_) h.nl;obtain⟨w,hw,e⟩:=List.mem_map.mp hr;obtain⟨h1,h2⟩:=List.mem_filter.mp hw;rw[<-e];exact h.few w h1 (Zsp (of_decide_eq_true h2))
theorem ZoP{ws:List Rw}{r:Str}{day:Int}(h:YL (ZL ws day) r=true):r∈Zdg ws:=by
 obtain⟨w,hw,e⟩:=List.any_eq_true.mp h;have h1:=(List.mem_filter.mp hw).1;cases w with
 |put x s d=>exact List.mem_map.mpr ⟨_,List.mem_filter.mpr ⟨h1,decide_eq_true rfl⟩,of_decide_eq_true e⟩
 |_=>cases e
def ZfG:Sp:=fun vs H Q _=>∃(p q D:Addr) (s:Hs) (xs:List Str) (n:Nat) (day:Int),vs=[.ref p,.ref q,.ref D,.int day]/\LBk H p s.rs/\Jx [] s.rs/\s.rs.length<=8/\Ys H q s.ws/\ZdI s.rs s.ws/\Xq s.rs n xs s.ws/\n<=63/\H D=some (.dK [])/\
 ∀L us zs H',H L=none->Zy H H'->H' L=some (.lst us)->Paired (ZbF s day H') zs us->zs.Pairwise (fun a b=>XD a b=true)->(∀r,r∈zs↔Zch s day r)->Q (.ref L) H'
theorem JN:ZG ["_law_book","_law_rows","_law_away","_law_day","_law_found","_law_record","_law_word","_law_series","_law_owner_here","_law_due_here","_law_holds"] ["_law_book","_law_rows","_law_away","_law_day"] (Zw ZgM):=⟨rfl,rfl,rfl,by decide+kernel,rfl,by decide+kernel,by decide+kernel⟩
theorem Znm{f:Addr}{fd:FuncData}(F:Fun K "_law_run" "_law_run" ZgM f fd)(T:Txt K mg Zj Zg Zh Zb Zo)(Za0:Cal P w K mg base CX0 14 "_law_judged" ["_law_book","_law_rows","_law_record","_law_day"] Zb2)(ZdZ:Cal P w K mg base CX0 15 "_law_reason" ["_law_book","_law_rows","_law_record","_law_day"] ZcQ):Yn P w K mg base CX0 16 f fd ["_law_book","_law_rows","_law_away","_law_day"] ZfG:=by
 refine F.ok JN (fun vs H Q E h=> ?_) (fun cdv A outer s H vs Q E hr h=> ?_)
 ·obtain⟨p,q,D,s,xs,n,day,rfl,_⟩:=h
  rfl
 ·obtain⟨p,qa,D,s,xs,n,day,rfl,⟨bs,hp,pb⟩,bk,lr,⟨ds,hq,pr⟩,ok,ri,ln,hD,q⟩:=h;have l5:=YZ;have hu:=ZaJ hr;have lw:=ok.len;have le:=Paired.length pr;have once:=Zku ri;have few:=Zqo ri;refine⟨_,(Ze (Zz (i:=4) JN.nd rfl (Or.inl rfl) (ZX Zi)) (Ze (Xw PassesOwn.never rfl (Yg (ZM JV (by rfl) T.z_sorted Zai (Za (Jh ["_law_row"] [] rfl (Yg (pv 1)) (by rfl) (by exact trivial) (by rfl) (by exact trivial) (fun _ _ _ _=>(ZK (i:=0) (show(nmY ["_law_row"] []).Nodup by decide+kernel) rfl (Or.inl rfl))) (fun _ _ _ _=>(JB (Zq ZZ (Zr (Yq (K:=K) rfl) (pv 0) Zd (fun _ _=>rfl)) ZD (Zt _)))) (fun _ _ _ _=>(Zr (Yq (K:=K) rfl) (pv 0) Zd (fun _ _=>rfl)))) Zi))) (ZK (i:=5) JN.nd rfl (Or.inl rfl)) (Ze (ZoX (ZQ Za0 (hr.mono (by omega)) rfl ZJ (Za (pv 0) (Za (pv 1) (Za (pv 5) (Za (pv 3) Zi))))) (Zic rfl (YC (ZK (i:=6) JN.nd rfl (Or.inl rfl)) (YC (ZK (i:=7) JN.nd rfl (Or.inl rfl)) (YC (ZK (i:=8) JN.nd rfl (Or.inl rfl)) (YC (ZK (i:=9) JN.nd rfl (Or.inl rfl)) (YC (ZK (i:=10) JN.nd rfl (Or.inl rfl)) Zdp))))))) (Zn (ZS (PW.pt (Xb (Zq ZZ (pv 6) ZD (Zt _)) (YT (Zdo (Zd1 hu (pv 5) (pv 2)))))) (Zn (YB (JG PySem.F.plainAttrs_list PySem.F.slot_list_append PySem.F.type_list_append Yk (pv 4) (Za (Yr (Za (pv 5) (Za (pv 7) (Za (pv 8) (Za (pv 9) (Za (ZQ ZdZ (hr.mono (by omega)) rfl ZJ (Za (pv 0) (Za (pv 1) (Za (pv 5) (Za (pv 3) Zi))))) Zi)))))) Zi)))) ZF)))) (Zn (Zx (pv 4))))), ?_⟩
  refine⟨Nat.zero_le _,fun Fd hFd=> ?_⟩;have sF:=Zk hFd (o:=.lst []);have hF1:upd H Fd (.lst []) Fd=some (.lst []):=Zc;show Zkx _ _ _ _ (upd H Fd (.lst []));generalize upd H Fd (.lst [])=H1 at sF hF1
  refine⟨_,rfl,qa,rfl,⟨_,SqL.of (sF _ _ hq)⟩,Xm s.ws.length (fun i=>((s.ws[i]?).map ZjQ).getD []) (by omega) (fun i=> ?_) (fun i H2 s2 lt=>⟨_,_,SqL.of (s2 _ _ (sF _ _ hq)),List.getElem?_eq_getElem (by rw[List.length_map];omega)⟩) (fun H2 s2=>⟨_,SqL.of (s2 _ _ (sF _ _ hq)),by rw[List.length_map];omega⟩) (fun i x H2 H3 s2 lt yl RT RF rt rf=> ?_) fun C H2 hC s2 d2=> ?_⟩
  ·cases s.ws[i]? with
   |none=>exact Nat.zero_le _
   |some w=>
    show(ZjQ w).length<=1;unfold ZjQ
    split
    ·exact Nat.le_refl _
    ·exact Nat.zero_le _
  ·obtain⟨rfl,yl⟩:=yl;obtain⟨d1,rfl,ed⟩:=YX (yl _ (SqL.of (s2 _ _ (sF _ _ hq))));obtain⟨w1,ew,row⟩:=Yh (ZR (sF.trans s2) pr) i d1 ed;have row:H3 d1=some (.tup w1.vs):=row;rw[ew] at rt rf
   have rt:∀v H6,ZjQ w1=[v]->_:=rt;have rf:∀H5,ZjQ w1=[]->_:=rf;refine⟨trivial,ixT rfl (SqT.of row) (Jq w1) ⟨rfl,_,rfl,Yp (fun e=> ?_) (fun e=>rf _ (if_neg fun z=>e (decide_eq_true (congrArg V.str z))) (Zy.refl _))⟩⟩;have e:w1.word=Str.ofString "put":=by injection of_decide_eq_true e
   exact ixT rfl (SqT.of row) (ZdN w1) (rt _ _ (if_pos e) (Zy.refl _))
  ·rw[Xo ZjQ s.ws,Zkt] at d2
   have s02:=sF.trans s2;have hF2:=s2 _ _ hF1;refine⟨C,_,rfl,SqL.of d2,by omega,fun zs pz sz D2 hD2=> ?_⟩;have s3:=Zk hD2 (o:=.lst (zs.map V.str));have hz:upd H2 D2 (.lst (zs.map V.str)) D2=some (.lst (zs.map V.str)):=Zc;have nD2F:D2≠Fd:=fun y=>by rw[y,hF2] at hD2;cases hD2
   have s03:=s02.trans s3;have hF3:=s3 _ _ hF2;generalize upd H2 D2 (.lst (zs.map V.str))=H3 at s3 hz s03 hF3
   have ndz:zs.Nodup:=pz.nodup_iff.mpr once;have strict:=Zhq pz once (ZdT sz);have lzs:zs.length<=63:=by rw[pz.length_eq];omega
   refine⟨D2,rfl,⟨_,SqL.of hz⟩,YQ (xs:=zs.map V.str) (fun i σ H'=>∃(v5 v6 v7 v8 v9 v10:Option V) (us:List V) (ys:List Str),σ=[some (.ref p),some (.ref qa),some (.ref D),some (.int day),some (.ref Fd),v5,v6,v7,v8,v9,v10]/\H' Fd=some (.lst us)/\Paired (ZbF s day H') ys us/\ys.Sublist (zs.take i)/\(∀rc∈zs.take i,rc∈ys↔Zch s day rc)/\∀c u,c≠Fd->H3 c=some u->H' c=some u) ?_ ?_ ?_ ?_⟩
   ·exact⟨none,none,none,none,none,none,[],[],rfl,hF3,.nil,List.Sublist.refl _,(fun rc hrc=>nomatch hrc),fun c u _ e=>e⟩
   ·rintro i σ H4 _ ⟨v5,v6,v7,v8,v9,v10,us,ys,rfl,_,_,_,_,fr⟩;exact SqL.of (fr _ _ nD2F hz)
   ·rintro i x σ H4 hx ⟨v5,v6,v7,v8,v9,v10,us,ys,rfl,hF4,po,sl1,iff,fr⟩;obtain⟨rc,rfl,erc⟩:∃rc,x=V.str rc/\zs[i]? =some rc:=by
     rw[List.getElem?_map] at hx
     cases e:zs[i]? with
     |none=>rw[e] at hx;cases hx
     |some y=>rw[e] at hx;exact⟨y,(Option.some.inj hx).symm,rfl⟩
    have tkz:zs.take (i+1)=zs.take i++[rc]:=by rw[List.take_add_one,erc];rfl
    have s04:Zy H H4:=fun c u e=>fr c u (Zf e hFd) (s03 _ _ e);have rq4:Ys H4 qa s.ws:=⟨ds,s04 _ _ hq,ZR s04 pr⟩
    refine⟨_,rfl,_,rfl,_,rfl,_,rfl,p,qa,s.rs,s.ws,rc,day,rfl,⟨bs,s04 _ _ hp,Xr s04 pb⟩,bk,lr,rq4,ok,fun ja j H5 s5 ⟨Lh,hja,_⟩ is=> ?_⟩;refine⟨ja,_,rfl,SqT.of hja,rfl,_,_,rfl,_,_,rfl,_,_,rfl,_,_,rfl,_,_,rfl,rfl, ?_⟩;have hF5:=s5 _ _ hF4;have s05:=s04.trans s5;have next:(Zch s day rc->False)->∃(v5 v6 v7 v8 v9 v10:Option V) (us:List V) (ys:List Str),[some (V.ref p),some (.ref qa),some (.ref D),some (.int day),some (.ref Fd),some (.str rc),some (.str j.word),some (oS j.ser),some (oS j.own),some (oV j.due),some (.ref Lh)]=[some (V.ref p),some (.ref qa),some (.ref D),some (.int day),some (.ref Fd),v5,v6,v7,v8,v9,v10]/\H5 Fd=some (.lst us)/\Paired (ZbF s day H5) ys us/\ys.Sublist (zs.take (i+1))/\(∀rc∈zs.take (i+1),rc∈ys↔Zch s day rc)/\∀c u,c≠Fd->H3 c=some u->H5 c=some u:=fun no=>by
     refine⟨_,_,_,_,_,_,us,ys,rfl,hF5,JK (fun c xs e=>s5 _ _ e) po,by rw[tkz];exact sl1.trans (List.sublist_append_left _ _),fun rc m=> ?_,fun c u n e=>s5 _ _ (fr c u n e)⟩
     rw[tkz] at m
     rcases List.mem_append.mp m with old|new
     ·exact iff rc old
     ·rw[List.mem_singleton.mp new];exact⟨fun y=>absurd (sl1.subset y) (ZaW ndz erc),fun y=>(no y).elim⟩
    refine⟨_,rfl,rfl,_,rfl,Yp (fun e=> ?_) (fun e=>ZW (next fun⟨j',is',e'⟩=>e (decide_eq_true (by rw[is.one is',e']))))⟩;have e:j.word=Str.ofString "due":=by injection of_decide_eq_true e
    refine⟨_,rfl,_,rfl,D,_,rfl,.inl ⟨[],Sum.inr rc,.inl (s05 _ _ hD),rfl,rfl⟩,_,rfl,XX ?_⟩;have lus:us.length<=63:=by
     have h1:=Paired.length po;have h2:=sl1.length_le;have h3:=List.length_take_le' i zs;omega
    refine⟨_,rfl,.inl ⟨rfl,_,SqL.of hF5⟩,_,rfl,_,rfl,_,rfl,_,rfl,_,rfl,_,rfl,_,rfl,_,rfl,p,qa,s.rs,s.ws,rc,day,j,rfl,⟨bs,s05 _ _ hp,Xr s05 pb⟩,bk,lr,Yd s5 rq4,ok,is,e,fun v5 H6 s6 why=>⟨show 5<=sizeLine from sl,fun tt htt=> ?_⟩⟩;have hF6:=s6 _ _ hF5;refine⟨Fd,_,V.ref tt,rfl,rfl,Zk htt _ _ hF6,by omega, ?_⟩;have nF:Fd≠tt:=Zf hF6 htt;have kp:∀c u,c≠Fd->H6 c=some u->upd (upd H6 tt (.tup [.str rc,oS j.ser,oS j.own,oV j.due,v5])) Fd (.lst (us++[.ref tt])) c=some u:=fun c u n e=>by rw[Zm n,Zm (Zf e htt)];exact e
    have kt:∀c xs,H6 c=some (.tup xs)->upd (upd H6 tt (.tup [.str rc,oS j.ser,oS j.own,oV j.due,v5])) Fd (.lst (us++[.ref tt])) c=some (.tup xs):=fun c xs e=>kp c _ (Yj e hF6 (fun z=>nomatch z)) e;refine⟨_,_,_,_,_,_,us++[.ref tt],ys++[rc],rfl,Zc,Paired.snoc (JK (fun c xs e=>kt _ _ (s6 _ _ (s5 _ _ e))) po) ⟨tt,j,v5,rfl,by rw[Zm (Ne.symm nF),Zc],is,e,⟨why.no,fun z=> ?_⟩⟩,by rw[tkz];exact List.Sublist.append sl1 (List.Sublist.refl _),fun rc' m=> ?_,fun c u n y=>kp c u n (s6 _ _ (s5 _ _ (fr c u n y)))⟩
    ·obtain⟨y,r0,t,top,ow,ht,no,yes⟩:=why.yes z;refine⟨y,r0,t,top,ow,ht,no,fun D e=> ?_⟩;obtain⟨a,k,d,n,e1,ha,r⟩:=yes D e;exact⟨a,k,d,n,e1,kt _ _ ha,r⟩
    ·rw[tkz] at m
     rcases List.mem_append.mp m with old|new
     ·have ne:rc'≠rc:=fun z=>ZaW ndz erc (z▸old);rw[List.mem_append,iff rc' old];exact⟨fun y=>y.elim id fun z=>absurd (List.mem_singleton.mp z) ne,fun y=> .inl y⟩
     ·rw[List.mem_singleton.mp new];exact⟨fun _=>⟨j,is,e⟩,fun _=>List.mem_append_right _ (List.mem_singleton_self _)⟩
   ·rintro σ H4 ⟨v5,v6,v7,v8,v9,v10,us,ys,rfl,hF4,po,sl1,iff,fr⟩;rw[List.length_map,List.take_length] at sl1 iff
    refine⟨_,rfl,q Fd us ys H4 hFd (fun c u e=>fr c u (Zf e hFd) (s03 _ _ e)) hF4 po (strict.sublist sl1) fun rc=>⟨fun m=>(iff rc (sl1.subset m)).mp m,fun dn=> ?_⟩⟩;have dn':=dn;obtain⟨j,is,e⟩:=dn';obtain⟨_,_,_,_,ip,_⟩:=Zlv is e;exact(iff rc (pz.mem_iff.mpr (ZoP ip))).mpr dn
theorem Zqp(ns:List Int)(lo hi:Option Int):∃ms:List Int,Ze8 (ns.map V.int) lo hi=ms.map V.int/\ms.length<=ns.length:=by
 unfold Ze8;refine⟨(ns.drop (HT.sIx (ns.map V.int).length 0 lo)).take (HT.sIx (ns.map V.int).length (ns.map V.int).length hi-HT.sIx (ns.map V.int).length 0 lo), ?_, ?_⟩
 ·rw[List.map_take,List.map_drop]
 ·rw[List.length_take,List.length_drop];omega
def rwD(w:Rw):Dt:=.tup (w.vs.map Dt.v)
theorem ZnX(w:Rw):∀x∈w.vs,Xy x=true:=by
 have:w.vs.all Xy=true:=by cases w<;>rfl
 exact List.all_eq_true.mp this
theorem Zqq{H:Hp}:∀xs:List V,(∀x∈xs,Xy x=true)->ZfX K H (xs.map Dt.v) xs
 |[],_=> .nil
 |x::xs,h=> .cons (.flat (h x (List.mem_cons_self ..))) (Zqq xs fun y hy=>h y (List.mem_cons_of_mem _ hy))
theorem Zgn{H:Hp}:∀{ds:List Addr} {ws:List Rw},Paired (Zd5 H) ds ws->ZfX K H (ws.map rwD) (ds.map V.ref)
 |_,_,.nil=> .nil
 |_,_,.cons (b:=w) h t=> .cons (.tup (SqT.of h) (Zqq _ (ZnX w))) (Zgn t)
theorem Zgo(ws:List Rw):Zfd 2 (.lst (ws.map rwD)):=Zms fun d hd=>by
 obtain⟨w,_,rfl⟩:=List.mem_map.mp hd;refine Zjj fun d hd=> ?_;obtain⟨x,hx,rfl⟩:=List.mem_map.mp hd;exact Zh5 (ZnX w x hx)
theorem Zsq{ls:List Lf}{x y:Lf}(hx:x∈ls)(hy:y∈ls)(bx:∀z∈ls,ZcB z x=false)(by_:∀z∈ls,ZcB z y=false):x=y:=by
 rcases Zc1.tri x y with a|a|a
 ·rw[by_ x hx] at a;cases a
 ·exact a
 ·rw[bx y hy] at a;cases a
structure ZoQ where
 s:Str
 o:Str
 d:Int
 k:Str
 e:Int
 n:Int
def ZnY(s:Hs)(day:Int)(r:Str)(x:ZoQ):Prop:=∃(y:ZaI) (r0:Sr) (t:Tr),Top (Ym (ZL s.ws day) r) y/\Zer s.rs.reverse (some y.2)=some r0/\r0.tm=some t/\x.s=y.2/\x.o=r0.nm/\t.due (Yc (ZL s.ws day) r)=some x.d/\lk (Yc (ZL s.ws day) r) x.k=some x.e/\(x.k,x.n)∈Zcu (Yc (ZL s.ws day) r) x.d t.lvs/\∀z∈Zcu (Yc (ZL s.ws day) r) x.d t.lvs,ZcB z (x.k,x.n)=false
theorem ZnY.one{s:Hs}{day:Int}{r:Str}{x x':ZoQ}:ZnY s day r x->ZnY s day r x'->x=x'
 |⟨y,r0,t,top,ow,ht,e1,e2,e3,e4,e5,e6⟩,⟨y',r0',t',top',ow',ht',e1',e2',e3',e4',e5',e6'⟩=>by
  obtain rfl:=top.one top';obtain rfl:r0=r0':=by rw[ow] at ow';injection ow'
  obtain rfl:t=t':=by rw[ht] at ht';injection ht'
  obtain⟨s1,o1,d1,k1,f1,n1⟩:=x;obtain⟨s2,o2,d2,k2,f2,n2⟩:=x';obtain rfl:d1=d2:=by rw[show t.due _=some d1 from e3] at e3';injection e3'
  have e:=Zsq e5 e5' e6 e6'
  injection e with g1 g2
  have g1:k1=k2:=g1;have g2:n1=n2:=g2;subst g1 g2;obtain rfl:f1=f2:=by rw[show lk _ k1=some f1 from e4] at e4';injection e4'
  have e1:s1=y.2:=e1;have e1':s2=y.2:=e1';have e2:o1=r0.nm:=e2;have e2':o2=r0.nm:=e2';subst e1 e1' e2 e2'
  rfl
def Zti(H:Hp)(r:Str)(x:ZoQ)(v:V):Prop:=∃p q,v=.ref p/\H p=some (.tup [.str r,.str x.s,.str x.o,.int x.d,.ref q])/\H q=some (.tup [.str x.k,.int x.e,.int x.n])
theorem Znn{s:Hs}{day:Int}{H:Hp}{r:Str}{v:V}:ZbF s day H r v->∃x,ZnY s day r x/\Zti H r x v
 |⟨p,j,v5,e,h,is,wd,wy⟩=>by
  obtain⟨y,r0,t,D,ip,top,ow,ht,e4,e5,e6,hd⟩:=Zlv is wd;obtain⟨y',r0',t',top',ow',ht',no,yes⟩:=wy.yes ip;obtain rfl:=top.one top';obtain rfl:r0=r0':=by rw[ow] at ow';injection ow'
  obtain rfl:t=t':=by rw[ht] at ht';injection ht'
  obtain⟨a,k,d,n,rfl,ha,ek,mem,best⟩:=yes D hd;rw[e4,e5,e6] at h
  exact⟨⟨y.2,r0.nm,D,k,d,n⟩,⟨y,r0,t,top,ow,ht,rfl,rfl,hd,ek,mem,best⟩,p,a,e,h,ha⟩
def Zsr(r:Str)(x:ZoQ):Dt:=.tup [.v (.str r),.v (.str x.s),.v (.str x.o),.v (.int x.d),.tup [.v (.str x.k),.v (.int x.e),.v (.int x.n)]]
theorem ZnZ{H:Hp}{r:Str}{x:ZoQ}{v:V}:Zti H r x v->Rep K H (Zsr r x) v
 |⟨p,q,e,h1,h2⟩=>by
  rw[e];exact .tup (SqT.of h1) (.cons (.flat rfl) (.cons (.flat rfl) (.cons (.flat rfl) (.cons (.flat rfl) (.cons (.tup (SqT.of h2) (.cons (.flat rfl) (.cons (.flat rfl) (.cons (.flat rfl) .nil)))) .nil)))))
theorem Zqr(r:Str)(x:ZoQ):Zfd 2 (Zsr r x):=Zjj fun d hd=>by
 simp only [List.mem_cons,List.mem_nil_iff,or_false] at hd
 rcases hd with rfl|rfl|rfl|rfl|rfl
 ·exact Zh5 rfl
 ·exact Zh5 rfl
 ·exact Zh5 rfl
 ·exact Zh5 rfl
 ·refine Zjj fun d hd=> ?_;simp only [List.mem_cons,List.mem_nil_iff,or_false] at hd
  rcases hd with rfl|rfl|rfl<;>exact Zh5 rfl
theorem Zmu{s:Hs}{day:Int}{H:Hp}:∀{zs:List Str} {us vs:List V},Paired (ZbF s day H) zs us->Paired (ZbF s day H) zs vs->∃ds:List Dt,ZfX K H ds us/\ZfX K H ds vs/\∀d∈ds,Zfd 2 d
 |_,_,_,.nil,.nil=>⟨[],.nil,.nil,fun _ h=>nomatch h⟩
 |_,_,_,.cons (a:=r) a t,.cons b u=>by
  obtain⟨ds,h1,h2,h3⟩:=Zmu t u;obtain⟨x,x1,x2⟩:=Znn a;obtain⟨x',y1,y2⟩:=Znn b;obtain rfl:=x1.one y1;refine⟨Zsr r x::ds,.cons (ZnZ x2) h1,.cons (ZnZ y2) h2,fun d hd=> ?_⟩;rcases List.mem_cons.mp hd with rfl|hd
  ·exact Zqr r x
  ·exact h3 d hd
def ZaZ:Sp:=fun vs H Q _=>∃(L:Addr) (us:List V) (zs:List Str) (s:Hs) (day:Int),vs=[.ref L]/\H L=some (.lst us)/\Paired (ZbF s day H) zs us/\∀H',Zy H H'->Q (.bl true) H'
theorem Zdh:ZG ["_law_found","_law_row"] ["_law_found"] (Zw Zbr):=⟨rfl,rfl,rfl,by decide+kernel,rfl,by decide+kernel,by decide+kernel⟩
theorem Zh6{f:Addr}{fd:FuncData}(F:Fun K "_law_gone_form" "_law_gone_form" Zbr f fd)(T:Txt K mg Zj Zg Zh Zb Zo)(Zbh:Cal P w K mg base CX0 1 "_law_whole" ["_law_found"] ZdJ):Yn P w K mg base CX0 2 f fd ["_law_found"] ZaZ:=by
 refine F.ok Zdh (fun vs H Q E h=> ?_) (fun cdv A outer s H vs Q E hr h=> ?_)
 ·obtain⟨L,us,zs,s,day,rfl,_⟩:=h
  rfl
 ·obtain⟨L,us,zs,s,day,rfl,hL,po,q⟩:=h;refine⟨_,(Ze (ZS (ZbT (Zaq (ZM Zag (by rfl) T.z_isinstance Jv (Za (pv 0) (Za (ZeP (v:=.ty "list") rfl T.z_list ZkI rfl) Zi))))) (Zn (Zx Zf9)) ZF) (Ze (Xw PassesOwn.never rfl (Yg (pv 0)) (ZK (i:=1) Zdh.nd rfl (Or.inl rfl)) (Ze (ZS (PW.pt (Zb5 (ZbT (Zaq (ZM Zag (by rfl) T.z_isinstance Jv (Za (pv 1) (Za (ZeP (v:=.ty "tuple") rfl T.z_tuple Zit rfl) Zi))))) (Zb5 (Zq Znx (ZM Js (by rfl) T.z_len Zbm (Za (pv 1) Zi)) Zd (Zt _)) (Zb5 (ZbT (Zaq (ZM Zag (by rfl) T.z_isinstance Jv (Za (Zr Zu (pv 1) Zd (fun _ _=>rfl)) (Za (ZeP (v:=.ty "str") rfl T.z_str ZrT rfl) Zi))))) (ZbS (ZbT (Zaq (ZQ Zbh (hr.mono (by omega)) rfl ZJ (Za (Zr Zu (pv 1) Zd (fun _ _=>rfl)) Zi))))))))) (Zn (Zx Zf9)) ZF) (Zn (ZS (PW.pt (Zb5 (ZbT (Zaq (ZM Zag (by rfl) T.z_isinstance Jv (Za (Zr Zu (pv 1) Zd (fun _ _=>rfl)) (Za (ZeP (v:=.ty "tuple") rfl T.z_tuple Zit rfl) Zi))))) (Zb5 (Zq Znx (ZM Js (by rfl) T.z_len Zbm (Za (Zr Zu (pv 1) Zd (fun _ _=>rfl)) Zi)) Zd (Zt _)) (Zb5 (ZbT (Zaq (ZQ Zbh (hr.mono (by omega)) rfl ZJ (Za (Zr Zu (Zr Zu (pv 1) Zd (fun _ _=>rfl)) Zd (fun _ _=>rfl)) Zi)))) (ZbS (ZbT (Zaq (ZQ Zbh (hr.mono (by omega)) rfl ZJ (Za (Zr Zu (Zr Zu (pv 1) Zd (fun _ _=>rfl)) Zd (fun _ _=>rfl)) Zi))))))))) (Zn (Zx Zf9)) ZF)))) (Zn (Zx Zf9)))), ?_⟩
  refine⟨_,rfl,_,_,_,_,true,rfl,rfl,Zdr.lst hL,T.kll,_,rfl,ZW ?_⟩;refine⟨_,rfl,L,rfl,⟨_,SqL.of hL⟩,YQ (xs:=us) (fun i σ H'=>(∃v:Option V,σ=[some (.ref L),v])/\Zy H H') ?_ ?_ ?_ ?_⟩
  ·exact⟨⟨none,rfl⟩,Zy.refl _⟩
  ·rintro i σ H1 _ ⟨_,s1⟩;exact SqL.of (s1 _ _ hL)
  ·rintro i x σ H1 hx ⟨⟨v,rfl⟩,s1⟩;obtain⟨r,_,oa⟩:=Zle po i x hx;obtain⟨x,_,p,qa,rfl,hp,hq⟩:=Znn oa;have hp1:=s1 _ _ hp;have hq1:=s1 _ _ hq;refine⟨_,rfl,_,_,_,_,true,rfl,rfl,Zdr.tup hp1,T.ktt,_,rfl,ZW ?_⟩;refine⟨_,rfl,_,_,rfl,.inr ⟨_,SqT.of hp1,rfl⟩,rfl,_,rfl,ZrA rfl ?_⟩;refine(ixT rfl (SqT.of hp1) rfl ⟨_,_,_,_,true,rfl,rfl,Zdr.str r,T.kss,_,rfl,ZW ?_⟩);refine(ixT rfl (SqT.of hp1) rfl ⟨x.d,rfl,fun H2 s2=>⟨_,rfl,ZW ?_⟩⟩)
   have hp2:=s2 _ _ hp1;have hq2:=s2 _ _ hq1;refine(ixT rfl (SqT.of hp2) rfl ⟨_,_,_,_,true,rfl,rfl,Zdr.tup hq2,T.ktt,_,rfl,ZW ?_⟩);refine(ixT rfl (SqT.of hp2) rfl ⟨_,_,rfl,.inr ⟨_,SqT.of hq2,rfl⟩,rfl,_,rfl,ZrA rfl ?_⟩);refine ixT rfl (SqT.of hp2) rfl ⟨qa,_,_,_,rfl,rfl,SqT.of hq2,rfl,x.e,rfl,fun H3 s3=>⟨_,rfl,ZW ?_⟩⟩;refine ixT rfl (SqT.of (s3 _ _ hp2)) rfl ⟨qa,_,_,_,rfl,rfl,SqT.of (s3 _ _ hq2),rfl,x.n,rfl,fun H4 s4=>⟨_,rfl,ZW ?_⟩⟩
   exact⟨⟨_,rfl⟩,s1.trans (s2.trans (s3.trans s4))⟩
  ·rintro σ H1 ⟨_,s1⟩;exact q H1 s1
def ZeE(F0:List Addr)(H0:Hp)(F:List Addr)(H:Hp):Prop:=ZiN F0 H0 H/\(∀b∈F,b∈F0\/H0 b=none)/\∀b∈F0,b∈F
theorem ZeE.refl(F:List Addr)(H:Hp):ZeE F H F H:=⟨fun _ _ _ e=>e,fun _ h=> .inl h,fun _ h=>h⟩
theorem ZeE.trans{F0 F F':List Addr}{H0 H H':Hp}(x:ZeE F0 H0 F H)(y:ZeE F H F' H'):ZeE F0 H0 F' H':=by
 obtain⟨k1,s1,p1⟩:=x;obtain⟨k2,s2,p2⟩:=y;refine⟨fun c u m e=>k2 c u (fun z=> ?_) (k1 c u m e),fun b h=> ?_,fun b h=>p2 b (p1 b h)⟩
 ·rcases s1 c z with a|a
  ·exact m a
  ·rw[e] at a;cases a
 ·rcases s2 b h with a|a
  ·exact s1 b a
  ·by_cases m:b∈F0
   ·exact .inl m
   ·refine .inr ?_;cases e:H0 b with
    |none=>rfl
    |some u=>rw[k1 b u m e] at a;cases a
theorem ZeE.same{F:List Addr}{H H':Hp}(s:Zy H H'):ZeE F H F H':=⟨fun c u _ e=>s c u e,fun _ h=> .inl h,fun _ h=>h⟩
theorem ZeE.at{F0 F:List Addr}{H0 H:Hp}(x:ZeE F0 H0 F H){c:Addr}{u:HO}(m:c∉F0)(e:H0 c=some u):H c=some u:=x.1 c u m e
theorem ZeE.off{F0 F:List Addr}{H0 H:Hp}(x:ZeE F0 H0 F H){c:Addr}{u:HO}(m:c∉F0)(e:H0 c=some u):c∉F:=fun z=>by
 rcases x.2.1 c z with a|a
 ·exact m a
 ·rw[e] at a;cases a
theorem ZV.off{cn ca cl ce C a:Addr}{H:Hp}{s:Hs}{F:List Addr}(h:ZV cn ca cl ce C H a s F){c:Addr}(e:H c=none):c∉F:=fun m=>by
 rcases h.kinds c m with ⟨_,z⟩|⟨_,z⟩<;>rw[e] at z<;>cases z
theorem ZV.tup{cn ca cl ce C a:Addr}{H:Hp}{s:Hs}{F:List Addr}(h:ZV cn ca cl ce C H a s F){c:Addr}{xs:List V}(e:H c=some (.tup xs)):c∉F:=fun m=>by
 rcases h.kinds c m with ⟨_,z⟩|⟨_,z⟩<;>rw[e] at z<;>cases z
theorem ZV.write{cn ca cl ce C a:Addr}{H0 H H':Hp}{s0 s:Hs}{F0 F:List Addr}{L:Addr}{v:HO}(h0:ZV cn ca cl ce C H0 a s0 F0)(h:ZV cn ca cl ce C H a s F)(kp:ZiN F0 H0 H)(n0:H0 L=none)(nF:L∉F)(e:H L=some v)(fr:∀c u,c≠L->H c=some u->H' c=some u)(nt:∀xs,v≠.tup xs:=by exact fun _ z=>nomatch z)(ni:∀C dx fs,v≠.ins C dx fs:=by exact fun _ _ _ z=>nomatch z):ZV cn ca cl ce C H' a s F:=by
 obtain⟨dx0,b0,t0,o0,h_0,r0,k0,w0,os0,kvs0,ha0,⟨bs0,hb0,_⟩,_⟩:=id h0;have ha1:=h0.kinds.ins kp _ _ _ _ ha0;obtain⟨dx,b,t,oo,hh,r,k,w,os,kvs,ha,hb,ht,ho,oa,hhh,hr,hk,pk,hw,eF,nd,nb⟩:=h;have eb:b0=b:=by
  rw[ha] at ha1
  injection ha1 with z
  injection z with _ _ z
  have:=congrArg (fun f=>f.lookup ("book":Str)) z;simp only [Zge] at this
  injection this with this
  injection this with this
  exact this.symm
 have nbL:b≠L:=fun z=>by rw[<-eb] at z;rw[z,n0] at hb0;cases hb0
 have kt:∀c xs,H c=some (.tup xs)->H' c=some (.tup xs):=fun c xs z=>fr c _ (fun y=>by rw[y,e] at z;injection z with z;exact nt xs z) z
 have ki:∀c C dx fs,H c=some (.ins C dx fs)->H' c=some (.ins C dx fs):=fun c C dx fs z=>fr c _ (fun y=>by rw[y,e] at z;injection z with z;exact ni C dx fs z) z
 have m:∀{c:Addr},c∈F->∀u,H c=some u->H' c=some u:=fun hc u z=>fr _ _ (fun y=>nF (y▸hc)) z;have rw_:∀{p:Addr} {us:List Rw},p∈F->Ys H p us->Ys H' p us:=fun hp ⟨ds,e,pp⟩=>⟨ds,m hp _ e,Xj kt pp⟩
 have mt:t∈F:=by rw[eF];simp
 have mo:oo∈F:=by rw[eF];simp
 have mh:hh∈F:=by rw[eF];simp
 have mr:r∈F:=by rw[eF];simp
 have mk:k∈F:=by rw[eF];simp
 have mw:w∈F:=by rw[eF];simp
 have mx:∀x∈os,x.2∈F:=fun x hx=>by
  rw[eF];simp only [List.mem_cons];exact .inr (.inr (.inr (.inr (.inr (.inr (List.mem_map_of_mem hx))))))
 exact⟨dx,b,t,oo,hh,r,k,w,os,kvs,ki _ _ _ _ ha,Zf1 kt ki (fun u z=>fr _ _ nbL z) hb,rw_ mt ht,m mo _ ho,⟨oa.one,oa.mem,fun x hx=>rw_ (mx x hx) (oa.at_ x hx)⟩,rw_ mh hhh,m mr _ hr,m mk _ hk,Ja kt pk,m mw _ hw,eF,nd,nb⟩
theorem ZoR{cn ca cl ce C x dx b t o h r k w:Addr}{H:Hp}{rs:List Sr}(nd:[b,t,o,h,r,k,w].Nodup)(hx:H x=some (.ins C dx (fH b t o h r k w)))(hb:Zg6 cn ca cl ce H b rs)(ht:H t=some (.lst []))(ho:H o=some (.dK []))(hh:H h=some (.lst []))(hr:H r=some (.lst []))(hk:H k=some (.dK []))(hw:H w=some (.dK [])):ZV cn ca cl ce C H x ⟨rs,[],[],[],[]⟩ [t,o,h,r,k,w]:=
 ⟨dx,b,t,o,h,r,k,w,[],[],hx,hb,⟨[],ht,.nil⟩,ho,⟨.nil,(fun r=>⟨(fun z=>nomatch z),fun z=>absurd rfl z⟩),(fun x hx=>nomatch hx)⟩,⟨[],hh,.nil⟩,hr,hk,.nil,hw,rfl,(List.nodup_cons.mp nd).2,(List.nodup_cons.mp nd).1⟩
theorem Zno{r:Str}{w:Rw}{y:ZaI}(h:ZaP r w=some y):y.2∈Zay w:=by
 cases w with
 |put x s d=>
  have h:(if x=r then some (d,s) else none)=some y:=h
  split at h
  ·injection h with h;rw[<-h];exact List.mem_singleton_self _
  ·cases h
 |move x s d=>
  have h:(if x=r then some (d,s) else none)=some y:=h
  split at h
  ·injection h with h;rw[<-h];exact List.mem_singleton_self _
  ·cases h
 |deed x k d=>cases h
 |lift a d=>cases h
 |hold a b c d=>cases h
theorem Xq.of{rs:List Sr}{i:Nat}{xs:List Str}{ws:List Rw}(h:Xq rs i xs ws)(hi:i<=63):ZdI rs ws:=⟨by have:=h.len;omega,by have:=h.held;omega,fun r y hy=>by
 obtain⟨w,hw,e⟩:=List.mem_filterMap.mp hy;exact h.named w hw _ (Zno e)⟩
theorem Xq.take{rs:List Sr}{i:Nat}{xs:List Str}{ws:List Rw}(h:Xq rs i xs ws)(n:Nat):Xq rs i xs (ws.take n):=
 ⟨by have:=h.len;have:=List.length_take_le' n ws;omega,Nat.le_trans (List.Sublist.length_le ((List.take_sublist n ws).filter _)) h.held,fun w hw=>h.named w (List.mem_of_mem_take hw),h.one.sublist (List.take_sublist n ws),h.nl,fun w hw=>h.few w (List.mem_of_mem_take hw)⟩
theorem Xq.recs{rs:List Sr}{i:Nat}{xs:List Str}{ws:List Rw}(h:Xq rs i xs ws)(hi:i<64):Znh ws:=⟨xs,by have:=h.nl;omega,fun r hr=>by
 obtain⟨w,hw⟩:=List.exists_mem_of_ne_nil _ hr;obtain⟨h1,h2⟩:=List.mem_filter.mp hw;rcases Zna w with ⟨_,no⟩|⟨y,yes⟩
 ·rw[no r] at h2;cases h2
 ·rw[yes r] at h2
  rw[<-of_decide_eq_true h2];exact h.few w h1 y⟩
theorem Xq.takes{rs:List Sr}{i:Nat}{xs:List Str}{ws:List Rw}{w:Rw}{s:Hs}(h:Xq rs i xs (ws++[w]))(e1:s.rs=rs)(e2:s.ws=ws):Zqa s w:=by
 have no:=(List.pairwise_append.mp h.one).2.2;refine⟨fun e=> ?_,fun e=> ?_,fun n hn=> ?_⟩
 ·rw[e2];cases z:YL ws w.one with
  |false=>rfl
  |true=>
   obtain⟨v,hv,q⟩:=List.any_eq_true.mp z;cases v with
   |put x s d=>exact absurd ⟨.inl e,e.symm,of_decide_eq_true q⟩ (no _ hv w (List.mem_singleton_self _))
   |_=>cases q
 ·rw[e2];cases z:ws.any (Jj w.one) with
  |false=>rfl
  |true=>
   obtain⟨v,hv,q⟩:=List.any_eq_true.mp z;cases v with
   |hold x s d f=>exact absurd ⟨.inr e,e.symm,of_decide_eq_true q⟩ (no _ hv w (List.mem_singleton_self _))
   |_=>cases q
 ·rw[e1];exact h.named w (List.mem_append_right _ (List.mem_singleton_self _)) n hn
theorem ZaC{zs:List Str}(h:zs.Pairwise fun a b=>XD a b=true):zs.Nodup:=List.nodup_iff_pairwise_ne.mpr (h.imp fun{x y} h z=>by rw[z,XN.irr] at h;cases h)
theorem Znp{zs ys:List Str}(h:zs.Pairwise fun a b=>XD a b=true)(k:ys.Pairwise fun a b=>XD a b=true)(m:∀r,r∈zs↔r∈ys):zs=ys:=by
 have go:∀{l:List Str},(l.Pairwise fun a b=>XD a b=true)->M4.Asc XD l:=fun h=>h.imp fun{a b} x=>by
  cases e:XD b a with
  |false=>rfl
  |true=>have:=XN.tr _ _ _ x e;rw[XN.irr] at this;cases this
 exact M4.ZkS XN ((List.perm_ext_iff_of_nodup (ZaC h) (ZaC k)).mpr m) (go h) (go k)
theorem ZoS(fs:List (Str×Str)):JF [] fs=[]:=by
 unfold JF;rw[List.map_eq_nil_iff,List.filter_eq_nil_iff];intro f _ h;unfold Zaa at h
 rw[decide_eq_false (fun z=>nomatch z),Bool.false_and] at h
 cases h
theorem Znq(fs:List (Str×Str)):Zae [] fs=[]:=by
 have:=congrArg List.length (Zal fs []);rw[List.length_map] at this
 exact List.eq_nil_of_length_eq_zero this
theorem Zqs{H:Hp}{gs:List Gn}{ka kb:List (Key×V)}(nd:(gs.map (·.1)).Nodup)(pa:Paired (Zg7 H) gs ka)(pb:Paired (Zg7 H) gs kb):ka.length=kb.length/\∀kv∈ka,ZpS K H kb kv:=by
 refine⟨(Paired.length pa).symm.trans (Paired.length pb),fun kv hkv=> ?_⟩;have go:∀{gs':List Gn} {ka:List (Key×V)},Paired (Zg7 H) gs' ka->∀kv∈ka,∃g∈gs',Zg7 H g kv:=fun{gs' ka} p=>by
  induction p with
  |nil=>exact fun kv h=>nomatch h
  |cons h t ih=>
   intro kv hm;rcases List.mem_cons.mp hm with rfl|hm
   ·exact⟨_,List.mem_cons_self ..,h⟩
   ·obtain⟨g,hg,z⟩:=ih kv hm;exact⟨g,List.mem_cons_of_mem _ hg,z⟩
 obtain⟨g,hg,p,e,hp⟩:=go pa kv hkv;obtain⟨q,ev,hq⟩:=Znc pb nd g hg;subst e;refine⟨p,q,_,rfl,ev,SqT.of hp,SqT.of hq,fun x hx=> ?_⟩;simp only [List.mem_cons,List.mem_nil_iff,or_false] at hx
 rcases hx with rfl|rfl<;>rfl
theorem Zh7{H:Hp}{L:Addr}{o:HO}:∀c u,c≠L->H c=some u->upd H L o c=some u:=fun c u n e=>by rw[Zm n];exact e
theorem Zdi{a b:TS}{D:Zkw}{σ:L2.St}{H:Hp}(h:∀B:TS,(∀σ' H',b D σ' H'->B D σ' H')->Zkx a B D σ H):Zkx a b D σ H:=h b fun _ _ x=>x
structure Aft (cn ca cl ce C x:Addr) (s:Hs) (F:List Addr) (R A:Addr) (kv:List (Key×V)) (H:Hp):Prop where
 ho:ZV cn ca cl ce C H x s F
 rw_:Ys H R s.ws
 aw:H A=some (.dK kv)
 gn:Paired (Zg7 H) s.gs kv
theorem Aft.same{cn ca cl ce C x R A:Addr}{s:Hs}{F:List Addr}{kv:List (Key×V)}{H H':Hp}(h:Aft cn ca cl ce C x s F R A kv H)(sm:Zy H H'):Aft cn ca cl ce C x s F R A kv H':=⟨h.ho.same sm,Yd sm h.rw_,sm _ _ h.aw,Ja (fun b xs e=>sm _ _ e) h.gn⟩
theorem Aft.write{cn ca cl ce C x R A L:Addr}{s:Hs}{F:List Addr}{kv:List (Key×V)}{H H':Hp}{v o:HO}(h:Aft cn ca cl ce C x s F R A kv H)(sm:Zy H H')(n:H L=none)(e:H' L=some v)(nt:∀xs,v≠.tup xs:=by exact fun _ z=>nomatch z)(ni:∀C dx fs,v≠.ins C dx fs:=by exact fun _ _ _ z=>nomatch z):Aft cn ca cl ce C x s F R A kv (upd H' L o):=by
 have kt:∀c xs,H c=some (.tup xs)->upd H' L o c=some (.tup xs):=fun c xs z=>Zh7 c _ (Zf z n) (sm _ _ z);refine⟨ZV.write h.ho (h.ho.same sm) (fun c u _ e=>sm _ _ e) n (h.ho.off n) e Zh7 nt ni, ?_,Zh7 _ _ (Zf h.aw n) (sm _ _ h.aw),Ja kt h.gn⟩;obtain⟨es,he,pe⟩:=h.rw_;exact⟨es,Zh7 _ _ (Zf he n) (sm _ _ he),Za7 kt pe⟩
theorem ZaD:ZG ["_law_script","_law_names_by","_law_by","_law_book","_law_far","_law_rows","_law_handed","_law_house","_law_row","_law_day","_law_due_here","_law_found","_law_away"] ["_law_script"] (Zw Zg1):=⟨rfl,rfl,rfl,by decide+kernel,rfl,by decide+kernel,by decide+kernel⟩
theorem Zss{f:Addr}{fd:FuncData}(F:Fun K "law" "law" Zg1 f fd)(T:Txt K mg Zj Zg Zh Zb Zo)(Zlw:ZkM P w K mg base CX0 1 "House" Zo ["self","book"] (ZcM Zo))(ZcR:Cal P w K mg base CX0 3 "_law_book_by" ["_law_script","_law_names_by"] (Zc9 K))(Xz:Cal P w K mg base CX0 1 "_law_cell_at" ["_law_script","_law_k"] (Zax K))(Zbx:Cal P w K mg base CX0 2 "_law_gone_form" ["_law_found"] ZaZ)(ZcS:Cal P w K mg base CX0 4 "_law_rows_by" ["_law_cells","_law_names_by","_law_far","_law_book"] Zca)(Zh8:Cal P w K mg base CX0 16 "_law_run" ["_law_book","_law_rows","_law_away","_law_day"] ZfG)(ZeF:Cal P w K mg base CX0 17 "_law_terms" ["_law_book"] (ZdK Zj Zg Zh Zb))(Zjl:Zap P w K mg base CX0 13 "gone" ["self"] (ZhY Zj Zg Zh Zb 12) (fun C=>C=Zo))(Zdj:Zap P w K mg base CX0 13 "regrets" ["self"] (ZdV Zj Zg Zh Zb 12) (fun C=>C=Zo))(Zjm:Zap P w K mg base CX0 13 "rows" ["self"] (ZhX Zj Zg Zh Zb 12) (fun C=>C=Zo))(Zo0:Zap P w K mg base CX0 40 "run" ["self","day"] (Zld Zj Zg Zh Zb 12) (fun C=>C=Zo))(Znr:Zap P w K mg base CX0 40 "tell" ["self","row"] (Zi4 Zj Zg Zh Zb 12) (fun C=>C=Zo)):Yn P w K mg base CX0 41 f fd ["_law_script"] (Zpk K):=by
 refine F.ok ZaD (fun vs H Q E h=> ?_) (fun cdv A outer s H vs Q E hr h=> ?_)
 ·obtain⟨a,ns,rfl,_⟩:=h
  rfl
 ·obtain⟨a,ns,rfl,hS,hlen,_,fin⟩:=h;have l5:=YZ;have hu:=ZaJ hr;have hu3:=ZlQ hr;refine⟨_,(Ze (Zz (i:=1) ZaD.nd rfl (Or.inl rfl) (ZQ Xz (hr.mono (by omega)) rfl ZJ (Za (pv 0) (Za Zd Zi)))) (Ze (Zz (i:=2) ZaD.nd rfl (Or.inl rfl) (ZM Zie (by rfl) T.z_abs ZmJ (Za (ZQ Xz (hr.mono (by omega)) rfl ZJ (Za (pv 0) (Za Zd Zi))) Zi))) (Ze (Zz (i:=3) ZaD.nd rfl (Or.inl rfl) (ZQ ZcR (hr.mono (by omega)) rfl ZJ (Za (pv 0) (Za (pv 1) Zi)))) (Ze (Zz (i:=4) ZaD.nd rfl (Or.inl rfl) (Zr YJ (ZX (Za Zd (Za Zd (Za (ZC XM (ZC Zp0 Zd Zd) Zd) Zi)))) (ZC Yb (pv 1) Zd) (fun _ _=>rfl))) (Ze (Zz (i:=5) ZaD.nd rfl (Or.inl rfl) (ZQ ZcS (hr.mono (by omega)) rfl ZJ (Za (Zd0 ZqF (pv 0) (Zco Zd) (Zco Zd)) (Za (pv 1) (Za (pv 4) (Za (pv 3) Zi)))))) (Ze (Zz (i:=6) ZaD.nd rfl (Or.inl rfl) (ZQ ZeF (hr.mono (by omega)) rfl ZJ (Za (pv 3) Zi))) (Ze (Zz (i:=7) ZaD.nd rfl (Or.inl rfl) (ZkN Zlw (hr.mono (by omega)) rfl ZJ (Za (pv 6) Zi))) (Ze (YB (Zii PySem.F.plainAttrs_list PySem.F.slot_list_clear PySem.F.type_list_clear Zpb (pv 6))) (Ze (Xw PassesOwn.never rfl (Yg (pv 5)) (ZK (i:=8) ZaD.nd rfl (Or.inl rfl)) (Zn (ZS (Zq (ZgC hu3) (Zau (pv 7) Znr (hr.mono (by omega)) ZJ (Za (pv 8) Zi)) (ZX Zi) (Zt _)) (Zn (Zx Zf9)) ZF))) (Ze (Zz (i:=9) ZaD.nd rfl (Or.inl rfl) (ZC XM (pv 4) (Zr YJ (ZX (Za Zd (Za (ZC Yb (pv 2) Zd) (Za (ZC Yb (pv 2) Zd) Zi)))) (ZC Yb (pv 2) Zd) (fun _ _=>rfl)))) (Ze (Zz (i:=10) ZaD.nd rfl (Or.inl rfl) (ZQ Zh8 (hr.mono (by omega)) rfl ZJ (Za (pv 3) (Za (pv 5) (Za Za4 (Za (pv 9) Zi)))))) (Ze (Zz (i:=11) ZaD.nd rfl (Or.inl rfl) (Zau (pv 7) Zo0 (hr.mono (by omega)) ZJ (Za (pv 9) Zi))) (Ze (ZS (PW.pt (Zb5 (ZbT (Zaq (ZQ Zbx (hr.mono (by omega)) rfl ZJ (Za (pv 11) Zi)))) (ZbS (Zq (ZgC hu3) (pv 11) (pv 10) (Zt _))))) (Zn (Zx Zf9)) ZF) (Ze (YB (JG PySem.F.plainAttrs_list PySem.F.slot_list_append PySem.F.type_list_append Yk (pv 11) (Za ZD Zi))) (Ze (Zz (i:=12) ZaD.nd rfl (Or.inl rfl) Za4) (Ze (Xw PassesOwn.never rfl (Yg (pv 10)) (ZK (i:=8) ZaD.nd rfl (Or.inl rfl)) (Zn (ZbG hu (pv 12) (Zr Zu (pv 8) Zd (fun _ _=>rfl)) (Yr (Za Zd (Za (pv 9) Zi))) rfl))) (Ze (ZS (PW.pt (Zb5 (Zq (Zsj hu3) (JC (pv 7) Zjl (hr.mono (by omega)) ZJ) (pv 12) (Zt _)) (Zb5 (Zq (ZgC hu3) (Zau (pv 7) Zo0 (hr.mono (by omega)) ZJ (Za (pv 9) Zi)) (ZX Zi) (Zt _)) (Zb5 (Zq (ZgC hu3) (JC (pv 7) Zjm (hr.mono (by omega)) ZJ) (pv 5) (Zt _)) (ZbS (Zq (ZgC hu3) (JC (pv 7) Zdj (hr.mono (by omega)) ZJ) (ZX Zi) (Zt _))))))) (Zn (Zx Zf9)) ZF) (Ze (YB (Zou (JC (pv 7) Zjl (hr.mono (by omega)) ZJ))) (Ze (YB (JG PySem.F.plainAttrs_list PySem.F.slot_list_append PySem.F.type_list_append Yk (JC (pv 7) Zjm (hr.mono (by omega)) ZJ) (Za ZD Zi))) (Ze (YB (JG PySem.F.plainAttrs_list PySem.F.slot_list_append PySem.F.type_list_append Yk (JC (pv 7) Zdj (hr.mono (by omega)) ZJ) (Za ZD Zi))) (Zn (Zx (Zib (Jz (Zsi hu3) (JC (pv 7) Zjl (hr.mono (by omega)) ZJ) (pv 12) (Zt _)) (Zib (Jz (ZmO hu3) (JC (pv 7) Zjm (hr.mono (by omega)) ZJ) (pv 5) (Zt _)) (Zia (Jz (ZmO hu3) (JC (pv 7) Zdj (hr.mono (by omega)) ZJ) (ZX Zi) (Zt _))))))))))))))))))))))))))), ?_⟩
  obtain⟨ms,em,lm⟩:=Zqp ns (some 2) (some 63);refine Zdi fun B_ hB=> ?_;refine⟨_,rfl,a,ns,0,rfl,hS,fun H0 s0=> ?_⟩;refine hB _ _ ?_;refine Zdi fun B_ hB=> ?_;refine⟨_,rfl,a,ns,1,rfl,s0.seq hS,fun H1 s01=>⟨_,rfl, ?_⟩⟩;refine hB _ _ ?_;generalize (if ns[1]?.getD 0<0 then-(ns[1]?.getD 0) else ns[1]?.getD 0)=B;have s1:=s0.trans s01;refine Zdi fun B_ hB=> ?_;refine⟨_,rfl,_,rfl,a,ns,ns[0]?.getD 0,rfl,s1.seq hS,fun p rs H2 hp2 s2 ⟨bs,hb,pb⟩ bk lo hi=> ?_⟩
  refine hB _ _ ?_;obtain⟨far,_,efar⟩:=ZnU [0,0,10^(43:Int).toNat+7] (ns[0]?.getD 0%3) rfl (Int.emod_nonneg _ (by decide)) (Int.emod_lt_of_pos _ (by decide));refine Zdi fun B_ hB=> ?_;refine⟨_,_,rfl,rfl,ZpT (by decide) (by decide),_,_,rfl,rfl,(show 3<=sizeLine from sl),fun t1 ht1=>vI rfl (by show(0:Int)<3;decide) ⟨t1,_,_,_,rfl,rfl,SqL.of Zc,efar, ?_⟩⟩
  refine hB _ _ ?_;have s3:=Zk ht1 (o:=.lst [.int 0,.int 0,.int (10^(43:Int).toNat+7)]);refine Zdi fun B_ hB=> ?_;refine⟨_,rfl,_,rfl,_,rfl,a,_,rfl,(s1.trans (s2.trans s3)).seq hS,fun Pc hP=> ?_⟩;have s4:=Zk hP (o:=.lst (Ze8 (ns.map V.int) (some 2) (some 63)));have s34:=s3.trans s4;refine⟨_,rfl,_,rfl,_,rfl,Pc,ms,ns[0]?.getD 0,far,p,rs,rfl,by rw[<-em];exact Zc,by omega,⟨bs,s34 _ _ hb,Xr s34 pb⟩,lo,hi,fun ws xs R H7 hR s5 ⟨ds,hR7,pw7⟩ ri=> ?_⟩
  refine hB _ _ ?_;have s37:=s34.trans s5;refine Zdi fun B_ hB=> ?_;refine⟨_,rfl,p,rs,rfl,⟨bs,s37 _ _ hb,Xr s37 pb⟩,hi,ZdM bk,fun S H6 hS6 s6 ⟨cs,hc,pc⟩=> ?_⟩;refine hB _ _ ?_;have s36:=s37.trans s6;have hb6:=s36 _ _ hb;have pb6:=Xr s36 pb;have hR6:=s6 _ _ hR7;have pw6:=ZR s6 pw7;have nSR:R≠S:=Zf hR7 hS6;have nSp:p≠S:=Zf (s37 _ _ hb) hS6;refine Zdi fun B_ hB=> ?_;refine⟨_,rfl,fun x dx hx hdx _=> ?_⟩
  have hcS:upd (upd H6 dx (.own x)) x (.ins Zo dx []) S=some (.lst (cs.map V.ref)):=by rw[Zm (Zf hc hx),Zm (Zf hc hdx)];exact hc
  refine⟨x,dx,S,_,rfl,Zc,hcS,fun b t o h r k w HA nd fr kp hxA hbA htA hoA hhA hrA hkA hwA=>⟨rfl, ?_⟩⟩;refine hB _ _ ?_;have nS:∀c∈[b,t,o,h,r,k,w],c≠S:=fun c hc z=>by
   have:=fr c hc;rw[z,hcS] at this
   cases this
  have sA:Zy H6 HA:=fun c u e=>kp c u (Zf e hx) (by rw[Zm (Zf e hx),Zm (Zf e hdx)];exact e)
  have off6:∀c u,H6 c=some u->c∉[b,t,o,h,r,k,w]:=fun c u e m=>by
   have:=fr c m;rw[Zm (Zf e hx),Zm (Zf e hdx),e] at this
   cases this
  have hSA:=sA _ _ hc;refine Zdi fun B_ hB=> ?_;refine⟨_,rfl,.inl ⟨rfl,_,SqL.of hSA⟩,S,_,rfl,rfl,hSA, ?_⟩;refine hB _ _ ?_;have kt:∀c ys,H6 c=some (.tup ys)->upd HA S (.lst []) c=some (.tup ys):=fun c ys e=>by rw[Zm (Yj e hc (fun z=>nomatch z))];exact sA _ _ e
  have ki:∀c C dx fs,H6 c=some (.ins C dx fs)->upd HA S (.lst []) c=some (.ins C dx fs):=fun c C dx fs e=>by rw[Zm (Yj e hc (fun z=>nomatch z))];exact sA _ _ e
  have f6:∀c u,c≠S->H6 c=some u->upd HA S (.lst []) c=some u:=fun c u n e=>by rw[Zm n];exact sA _ _ e
  have hA0:ZV Zj Zg Zh Zb Zo (upd HA S (.lst [])) x ⟨rs,[],[],[],[]⟩ [t,o,h,r,k,w]:=ZoR (b:=b) (dx:=dx) nd (by rw[Zm (Ne.symm (Zf hc hx))];exact hxA) ⟨cs,by rw[Zm (nS b (by simp))];exact hbA,Zd8 kt ki pc⟩ (by rw[Zm (nS t (by simp))];exact htA) (by rw[Zm (nS o (by simp))];exact hoA) (by rw[Zm (nS h (by simp))];exact hhA) (by rw[Zm (nS r (by simp))];exact hrA) (by rw[Zm (nS k (by simp))];exact hkA) (by rw[Zm (nS w (by simp))];exact hwA)
  have off0:∀c u,H6 c=some u->c∉[t,o,h,r,k,w]:=fun c u e m=>off6 c u e (List.mem_cons_of_mem _ m);generalize [t,o,h,r,k,w]=F0 at hA0 off0
  have hpC:=f6 _ _ nSp hb6;have pbC:=Zaf kt pb6;have hRC:=f6 _ _ nSR hR6;have pwC:=Za7 kt pw6;have oR:=off0 _ _ hR6;have op_:=off0 _ _ hb6;clear kp fr hxA hbA htA hoA hhA hrA hkA hwA nS off6 hcS nd kt ki f6 hSA sA;show Zkx _ _ _ _ (upd HA S (.lst []));generalize upd HA S (.lst [])=HC at hA0 hpC pbC hRC pwC
  have lw:ws.length<=163:=by have:=ri.len;omega
  have le:=Paired.length pwC;have ok:∀n,ZoF ⟨rs,ws.take n,[],[],[]⟩:=fun n=>⟨bk,by show rs.length<=63;omega,(ri.take n).of (by omega),by have:=List.length_take_le' n ws;show(ws.take n).length<=400;omega,.nil,(fun g hg=>nomatch hg)⟩
  refine Zdi fun B_ hB=> ?_;refine⟨_,rfl,R,rfl,⟨_,SqL.of hRC⟩,YQ (xs:=ds.map V.ref) (fun i σ H'=>∃(v8:Option V) (F:List Addr),σ=[some (.ref a),some (.int (ns[0]?.getD 0)),some (.int B),some (.ref p),some (.int far),some (.ref R),some (.ref S),some (.ref x),v8,none,none,none,none]/\ZV Zj Zg Zh Zb Zo H' x ⟨rs,ws.take i,[],[],[]⟩ F/\ZeE F0 HC F H') ?_ ?_ ?_ ?_⟩
  ·exact⟨none,F0,rfl,hA0,ZeE.refl _ _⟩
  ·rintro i σ H4 _ ⟨v8,F,rfl,_,gr⟩;exact SqL.of (gr.at oR hRC)
  ·rintro i y σ H4 hy ⟨v8,F,rfl,hA,gr⟩;obtain⟨d,rfl,ed⟩:=YX hy;obtain⟨w,ew,row⟩:=Yh pwC i d ed;have row:HC d=some (.tup w.vs):=row;have hd:H4 d=some (.tup w.vs):=gr.at (hA0.tup row) row
   have tk:ws.take (i+1)=ws.take i++[w]:=by rw[List.take_add_one,ew];rfl
   obtain⟨dx',b',t',o',h',r',k',w',ha,_⟩:=hA.ins;refine⟨_,rfl,x,_,dx',_,rfl,ha,rfl,Zbg (by decide+kernel),_,rfl,x,d,w,⟨rs,ws.take i,[],[],[]⟩,F,rfl,by decide,hA,hd,Xq.takes (tk▸ri.take (i+1)) rfl rfl,by show rs.length<=63;omega,tk▸ok (i+1),⟨rfl,(fun f hf=>nomatch hf)⟩,(by show 0<64;decide),fun L zs wd H5 F5 kp sub sup hA5 wo5 hL nL hl5 sz ⟨fs,_,_,pz,ewd⟩=> ?_⟩
   have pz:zs.Perm (JF [] fs):=pz;rw[ZoS] at pz
   obtain rfl:=pz.eq_nil;have ewd:wd=Zae [] fs:=ewd;rw[Znq] at ewd
   subst ewd;refine⟨Nat.zero_le _,fun l hl=>⟨2,.lst [],.lst [],by decide,rfl,.lst (SqL.of (Zk hl _ _ hl5)) .nil,.lst (SqL.of Zc) .nil,rfl,_,rfl,ZW ⟨_,F5,rfl, ?_,(gr.trans ⟨kp,sub,sup⟩).trans (ZeE.same (Zk hl))⟩⟩⟩;rw[tk];exact hA5.same (Zk hl)
  ·rintro σ H4 ⟨v8,F,rfl,hA,gr⟩;refine hB _ _ ?_;have e1:ws.take (ds.map V.ref).length=ws:=by rw[List.length_map,le,List.take_length]
   rw[e1] at hA
   have oks:=ok ws.length;rw[List.take_length] at oks
   obtain⟨e,_,eday⟩:=ZnU [9000,B%4500,B%900] (B%3) rfl (Int.emod_nonneg _ (by decide)) (Int.emod_lt_of_pos _ (by decide));refine Zdi fun B_ hB=> ?_;refine⟨_,rfl,vI rfl (by show(0:Int)<4500;decide) (vI rfl (by show(0:Int)<900;decide) ⟨(show 3<=sizeLine from sl),fun t2 ht2=>vI rfl (by show(0:Int)<3;decide) ⟨t2,_,_,_,rfl,rfl,SqL.of Zc,eday,_,_,rfl,rfl, ?_⟩⟩)⟩
   refine hB _ _ ?_;have st:=Zk ht2 (o:=.lst [.int 9000,.int (B%4500),.int (B%900)]);show Zkx _ _ _ [some (.ref a),some (.int (ns[0]?.getD 0)),some (.int B),some (.ref p),some (.int far),some (.ref R),some (.ref S),some (.ref x),v8,some (.int (far+e)),none,none,none] (upd H4 t2 (.lst [.int 9000,.int (B%4500),.int (B%900)]));generalize far+e=day;generalize upd H4 t2 (.lst [.int 9000,.int (B%4500),.int (B%900)])=H5 at st
   replace hA:=hA.same st;replace gr:=gr.trans (ZeE.same st);clear st ht2 eday;refine Zdi fun B_ hB=> ?_;refine⟨_,rfl,_,rfl,fun Dd hDd=> ?_⟩;have sD:=Zk hDd (o:=.dK []);have hDd2:upd H5 Dd (.dK []) Dd=some (.dK []):=Zc;generalize upd H5 Dd (.dK [])=H6 at sD hDd2
   replace hA:=hA.same sD;replace gr:=gr.trans (ZeE.same sD);have kt:∀c ys,HC c=some (.tup ys)->H6 c=some (.tup ys):=fun c ys e=>gr.at (hA0.tup e) e
   have lb6:LBk H6 p rs:=⟨bs,gr.at op_ hpC,Zaf kt pbC⟩
   have rw6:Ys H6 R ws:=⟨ds,gr.at oR hRC,Za7 kt pwC⟩
   refine⟨_,rfl,p,R,Dd,⟨rs,ws,[],[],[]⟩,xs,ms.length,day,rfl,lb6,bk,hi,rw6,ri.of (by omega),ri,by omega,hDd2,fun L1 us1 zs1 H7 hL1 s7 hl1 po1 st1 iff1=> ?_⟩;refine hB _ _ ?_;have oL1:L1∉F:=hA.off hL1;replace hA:=hA.same s7;have oRF:R∉F:=gr.off oR hRC;have rw7:=Yd s7 rw6;obtain⟨dx',b',t',o',h',r',k',w',ha7,_⟩:=hA.ins;refine Zdi fun B_ hB=> ?_;refine⟨_,rfl,x,_,dx',_,rfl,ha7,rfl,Zbg (by decide+kernel),_,rfl,x,day,⟨rs,ws,[],[],[]⟩,F,rfl,by decide,hA,oks,ri.recs (by omega),rfl,(by show 0<=900;decide),(by show 0<=900;decide),(fun d z=>nomatch z),fun L2 us2 zs2 H8 kp8 hA8 hL2 nL2 hl2 po2 st2 iff2=> ?_⟩
   refine hB _ _ ?_;obtain rfl:zs1=zs2:=Znp st1 st2 fun r=>(iff1 r).trans ⟨fun h=>(iff2 r).mpr ⟨(fun z=>nomatch z),h⟩,fun h=>((iff2 r).mp h).2⟩;have kt8:∀c ys,H7 c=some (.tup ys)->H8 c=some (.tup ys):=hA.kinds.tup kp8;have hl18:=kp8 _ _ oL1 hl1;have po18:=JK kt8 po1;have rw8:Ys H8 R ws:=by
    obtain⟨es,he,pe⟩:=rw7;exact⟨es,kp8 _ _ oRF he,Za7 kt8 pe⟩
   have n12:L1≠L2:=Zf hl1 hL2;have lz1:=Paired.length po1;have lz2:=Paired.length po2;have lzs:zs1.length<=63:=by
    obtain⟨nm,l,sub⟩:=ri.recs (by omega);have:=(ZaC st1).length_le_of_subset fun r hr=>sub r (Zi5 ((iff1 r).mp hr));omega
   refine Zdi fun B_ hB=> ?_;refine⟨_,rfl,L2,us2,zs1,⟨rs,ws,[],[],[]⟩,day,rfl,hl2,po2,fun H9 s9=>⟨_,rfl,ZW ?_⟩⟩;obtain⟨dd,q1,q2,q3⟩:=Zmu (K:=K) (JK (fun c xs e=>s9 _ _ e) po2) (JK (fun c xs e=>s9 _ _ e) po18);have q3:Zfd 3 (.lst dd):=Zms q3;refine⟨_,rfl,_,rfl,3,.lst dd,.lst dd,by decide,rfl,.lst (SqL.of (s9 _ _ hl2)) q1,.lst (SqL.of (s9 _ _ hl18)) q2,q3.2,_,rfl, ?_⟩;rw[q3.1];refine ZW ?_;refine hB _ _ ?_
   have hl29:=s9 _ _ hl2;refine Zdi fun B_ hB=> ?_;refine⟨_,rfl,.inl ⟨rfl,_,SqL.of hl29⟩,L2,_,_,rfl,rfl,hl29,by omega, ?_⟩;refine hB _ _ ?_;have hA9:ZV Zj Zg Zh Zb Zo (upd H9 L2 (.lst (us2++[.str "more"]))) x (Zam ⟨rs,ws,[],[],[]⟩ day zs1) F:=ZV.write hA (hA8.same s9) (fun c u m e=>s9 _ _ (kp8 c u m e)) hL2 nL2 hl29 Zh7;have fr9:∀c u,c≠L2->H8 c=some u->upd H9 L2 (.lst (us2++[.str "more"])) c=some u:=fun c u n e=>Zh7 c u n (s9 _ _ e)
   have kt9:∀c ys,H8 c=some (.tup ys)->upd H9 L2 (.lst (us2++[.str "more"])) c=some (.tup ys):=fun c ys e=>fr9 c _ (Yj e hl2 (fun z=>nomatch z)) e;have hl19:=fr9 _ _ n12 hl18;have po19:=JK kt9 po18;have nR2:R≠L2:=by
    obtain⟨es,he,_⟩:=rw7;exact Zf he hL2
   have rw9:Ys (upd H9 L2 (.lst (us2++[.str "more"]))) R ws:=by
    obtain⟨es,he,pe⟩:=rw8;exact⟨es,fr9 _ _ nR2 he,Za7 kt9 pe⟩
   show Zkx _ _ _ _ (upd H9 L2 (.lst (us2++[.str "more"])));generalize upd H9 L2 (.lst (us2++[.str "more"]))=HA2 at hA9 hl19 po19 rw9
   clear fr9 kt9 hl29 q1 q2 hl2 po2 hA8 hl1 po1 hl18 po18 rw8 rw7 kt8 kp8 s9 ha7;refine Zdi fun B_ hB=> ?_;refine(fun Aw hAw=> ?_);refine hB _ _ ?_;have sB:=Zk hAw (o:=.dK []);have hAw2:upd HA2 Aw (.dK []) Aw=some (.dK []):=Zc;have oA:Aw∉F:=hA9.off hAw;generalize upd HA2 Aw (.dK [])=HB at sB hAw2
   have hl1B:=sB _ _ hl19;have poB:=JK (fun c xs e=>sB _ _ e) po19;have rwB:=Yd sB rw9;have nA1:L1≠Aw:=Zf hl19 hAw;refine Zdi fun B_ hB=> ?_;refine⟨_,rfl,L1,rfl,⟨_,SqL.of hl1B⟩,YQ (xs:=us1) (fun i σ H'=>∃(v8:Option V) (kv:List (Key×V)),σ=[some (.ref a),some (.int (ns[0]?.getD 0)),some (.int B),some (.ref p),some (.int far),some (.ref R),some (.ref S),some (.ref x),v8,some (.int day),some (.ref L1),some (.ref L2),some (.ref Aw)]/\H' Aw=some (.dK kv)/\Paired (Zg7 H') ((zs1.take i).map fun r=>(r,(1:Int),day)) kv/\∀c u,c≠Aw->HB c=some u->H' c=some u) ?_ ?_ ?_ ?_⟩
   ·exact⟨_,[],rfl,hAw2,.nil,fun c u _ e=>e⟩
   ·rintro i σ H3 _ ⟨v8,kv,rfl,_,_,fr⟩;exact SqL.of (fr _ _ nA1 hl1B)
   ·rintro i y σ H3 hy ⟨v8,kv,rfl,hk3,pk3,fr⟩;obtain⟨rc,erc,p1,j,v5,rfl,hp1,_⟩:=Zle poB i y hy;have tkz:zs1.take (i+1)=zs1.take i++[rc]:=by rw[List.take_add_one,erc];rfl
    have nin:rc∉zs1.take i:=ZaW (ZaC st1) erc;have hp3:=fr _ _ (Yj hp1 hAw2 (fun z=>nomatch z)) hp1;have l3:=Paired.length pk3;have ltk:=List.length_take_le' i zs1;rw[List.length_map] at l3
    have nk:(YM kv (Sum.inr rc)).isSome=false:=by
     rw[Zlc pk3];refine decide_eq_false fun m=> ?_;rw[List.map_map] at m
     obtain⟨y,hy,e⟩:=List.mem_map.mp m;exact nin (e▸hy)
    refine⟨_,rfl,show 2<=sizeLine by omega,fun tt htt=> ?_⟩;have s4:=Zk htt (o:=.tup [.int 1,.int day]);have ht4:upd H3 tt (.tup [.int 1,.int day]) tt=some (.tup [.int 1,.int day]):=Zc;show Zo5 _ _ (upd H3 tt (.tup [.int 1,.int day])) _;generalize upd H3 tt (.tup [.int 1,.int day])=H4 at s4 ht4
    have hk4:=s4 _ _ hk3;refine⟨_,rfl,ixT rfl (SqT.of (s4 _ _ hp3)) rfl ⟨Aw,_,rfl,Zgz.k (k:=Sum.inr rc) hk4 (by omega), ?_⟩⟩;rw[Zj6 nk];have kt5:∀c xs,H4 c=some (.tup xs)->upd H4 Aw (.dK (kv++[(Sum.inr rc,V.ref tt)])) c=some (.tup xs):=fun c xs e=>by rw[Zm (Yj e hk4 (fun z=>nomatch z))];exact e
    refine⟨_,_,rfl,Zc, ?_,fun c u n e=>by rw[Zm n];exact s4 _ _ (fr c u n e)⟩
    rw[tkz,List.map_append];exact Paired.snoc (Ja (fun b xs e=>kt5 _ _ (s4 _ _ e)) pk3) ⟨tt,rfl,kt5 _ _ ht4⟩
   ·rintro σ HE ⟨v8,kv,rfl,hkE,pkE,fr⟩;refine hB _ _ ?_;rw[<-lz1,List.take_length] at pkE
    have hAE:ZV Zj Zg Zh Zb Zo HE x (Zam ⟨rs,ws,[],[],[]⟩ day zs1) F:=ZV.write hA9 (hA9.same sB) (fun c u _ e=>sB _ _ e) hAw oA hAw2 fr;have rwE:Ys HE R ws:=by
     obtain⟨es,he,pe⟩:=rw9;exact⟨es,fr _ _ (Zf he hAw) (sB _ _ he),Za7 (fun c xs e=>fr _ _ (Zf e hAw) (sB _ _ e)) pe⟩
    have keys:((Zam ⟨rs,ws,[],[],[]⟩ day zs1).gs.map (·.1))=zs1:=by
     show(zs1.map fun r=>(r,((([]:List Int).length+1:Nat):Int),day)).map (·.1)=zs1;rw[List.map_map];exact(List.map_congr_left fun _ _=>rfl).trans (List.map_id _)
    have keysw:((Zam ⟨rs,ws,[],[],[]⟩ day zs1).wd.map (·.1))=zs1:=by
     show(zs1.map fun r=>(r,Str.ofString "due")).map (·.1)=zs1;rw[List.map_map];exact(List.map_congr_left fun _ _=>rfl).trans (List.map_id _)
    have alldue:∀f∈(Zam ⟨rs,ws,[],[],[]⟩ day zs1).wd,f.2=Str.ofString "due":=fun f hf=>by
     obtain⟨r,_,rfl⟩:=List.mem_map.mp (show f∈zs1.map fun r=>(r,Str.ofString "due") from hf)
     rfl
    have lgs:(Zam ⟨rs,ws,[],[],[]⟩ day zs1).gs.length=zs1.length:=by
     have:=congrArg List.length keys
     rwa [List.length_map] at this
    have lwd:(Zam ⟨rs,ws,[],[],[]⟩ day zs1).wd.length=zs1.length:=by
     have:=congrArg List.length keysw
     rwa [List.length_map] at this
    have ok1:ZoF (Zam ⟨rs,ws,[],[],[]⟩ day zs1):=⟨oks.bk,oks.lr,oks.rows,oks.few,by rw[keys];exact ZaC st1,fun g hg=>Zi5 ((iff1 g.1).mp (by rw[<-keys];exact List.mem_map_of_mem hg))⟩
    have af:Aft Zj Zg Zh Zb Zo x (Zam ⟨rs,ws,[],[],[]⟩ day zs1) F R Aw kv HE:=⟨hAE,rwE,hkE,pkE⟩
    have ndg:((Zam ⟨rs,ws,[],[],[]⟩ day zs1).gs.map (·.1)).Nodup:=ok1.one;have runs1:(Zam ⟨rs,ws,[],[],[]⟩ day zs1).runs=[day]:=rfl;have due1:∀r,Zch (Zam ⟨rs,ws,[],[],[]⟩ day zs1) day r->r∈zs1:=fun r h=>(iff1 r).mpr h;have ws1:(Zam ⟨rs,ws,[],[],[]⟩ day zs1).ws=ws:=rfl;generalize Zam ⟨rs,ws,[],[],[]⟩ day zs1=S1 at af keys keysw alldue lgs lwd ok1 ndg runs1 due1 ws1
    clear hAE rwE hkE pkE fr hA9 rw9 po19 hl19 hAw2 sB hl1B poB rwB hAw;obtain⟨dx1,b1,t1',o1,h1,r1,k1,w1,ha1,_⟩:=af.ho.ins;refine Zdi fun B_ hB=> ?_;refine⟨_,rfl,x,_,dx1,_,rfl,ha1,rfl,Zbg (by decide+kernel),x,S1,F,rfl,by decide,af.ho,fun G kg HF hG sF hg pg=> ?_⟩;replace af:=af.same sF;have g2:=Zqs (K:=K) ndg pg af.gn;refine⟨_,rfl,G,Aw,kg,kv,rfl,rfl,.inl hg,.inl af.aw,g2.1,g2.2,_,rfl,ZW ?_⟩;clear g2 pg hg hG sF ha1
    obtain⟨dx1,b1,t1',o1,h1,r1,k1,w1,ha1,_⟩:=af.ho.ins;refine⟨_,rfl,x,_,dx1,_,rfl,ha1,rfl,Zbg (by decide+kernel),_,rfl,x,day,S1,F,rfl,by decide,af.ho,ok1,by rw[ws1];exact ri.recs (by omega),by rw[keysw,keys],by rw[runs1];show 1<=900;decide,by omega,(fun d z=>by rw[runs1] at z;exact Int.le_of_eq (Option.some.inj (show some day=some d from z)).symm),fun L3 us3 zs3 HG kpG hAG hL3 nL3 hl3 po3 st3 iff3=> ?_⟩
    obtain rfl:zs3=[]:=List.eq_nil_iff_forall_not_mem.mpr fun r hr=>by
     obtain⟨h1,h2⟩:=(iff3 r).mp hr;rw[keys] at h1
     exact h1 (due1 r h2)
    cases po3;have ktG:=af.ho.kinds.tup kpG;have oAF:Aw∉F:=oA;replace af:Aft Zj Zg Zh Zb Zo x (Zam S1 day []) F R Aw kv HG:=by
     refine⟨hAG, ?_,kpG _ _ oAF af.aw, ?_⟩
     ·obtain⟨es,he,pe⟩:=af.rw_;exact⟨es,kpG _ _ oRF he,Za7 ktG pe⟩
     ·show Paired _ (S1.gs++[]) _;rw[List.append_nil];exact Ja ktG af.gn
    have e2:(Zam S1 day []).gs=S1.gs:=List.append_nil _;have e3:(Zam S1 day []).wd=S1.wd:=List.append_nil _;have e4:(Zam S1 day []).ws=ws:=ws1;generalize Zam S1 day []=S2 at af e2 e3 e4
    have ndg:(S2.gs.map (·.1)).Nodup:=by rw[e2];exact ndg
    have alldue:∀f∈S2.wd,f.2=Str.ofString "due":=by rw[e3];exact alldue
    have lwd:S2.wd.length<=900:=by rw[e3];omega
    refine⟨Nat.zero_le _,fun l hl=>⟨2,.lst [],.lst [],by decide,rfl,.lst (SqL.of (Zk hl _ _ hl3)) .nil,.lst (SqL.of Zc) .nil,rfl,_,rfl,ZW ?_⟩⟩;replace af:=af.same (Zk hl (o:=.lst []));generalize upd HG l (.lst [])=HH at af
    clear hAG hl3 hl kpG ktG ha1;obtain⟨dx1,b1,t1',o1,h1,r1,k1,w1,ha1,_⟩:=af.ho.ins;refine⟨_,rfl,x,_,dx1,_,rfl,ha1,rfl,Zbg (by decide+kernel),x,S2,F,rfl,by decide,af.ho,fun RL HI hRL sI rg=> ?_⟩;clear ha1;replace af:=af.same sI;obtain⟨es,hes,pes⟩:=rg;obtain⟨gs_,hgs,pgs⟩:=id af.rw_;refine⟨_,rfl,2,.lst (S2.ws.map rwD),.lst (S2.ws.map rwD),by decide,rfl,.lst (SqL.of hes) (Zgn pes),.lst (SqL.of hgs) (Zgn pgs),(Zgo _).2,_,rfl, ?_⟩
    rw[(Zgo _).1];refine ZW ?_;clear hes pes hgs pgs sI hRL;obtain⟨dx1,b1,t1',o1,h1,r1,k1,w1,ha1,_⟩:=af.ho.ins;refine⟨_,rfl,x,_,dx1,_,rfl,ha1,rfl,Zbg (by decide+kernel),x,S2,F,rfl,by decide,af.ho,alldue,lwd,fun RL HI hRL sI rg=> ?_⟩;clear ha1;replace af:=af.same sI;refine⟨Nat.zero_le _,fun l hl=>⟨2,.lst [],.lst [],by decide,rfl,.lst (SqL.of (Zk hl _ _ rg)) .nil,.lst (SqL.of Zc) .nil,rfl,_,rfl,ZW ?_⟩⟩
    refine hB _ _ ?_;replace af:=af.same (Zk hl (o:=.lst []));generalize upd HI l (.lst [])=HJ at af
    clear rg hl sI hRL;obtain⟨dx1,b1,t1',o1,h1,r1,k1,w1,ha1,_⟩:=af.ho.ins;refine Zdi fun B_ hB=> ?_;refine⟨_,rfl,x,_,dx1,_,rfl,ha1,rfl,Zbg (by decide+kernel),x,S2,F,rfl,by decide,af.ho,fun G2 kg2 HK hG2 sK hg2 _=>⟨G2,_,rfl,hg2, ?_⟩⟩;refine hB _ _ ?_;clear ha1;replace af:=af.write sK hG2 hg2 (o:=.dK []);generalize upd HK G2 (.dK [])=HL at af
    clear hg2 sK hG2;obtain⟨dx1,b1,t1',o1,h1,r1,k1,w1,ha1,_⟩:=af.ho.ins;have lws:S2.ws.length<=163:=by rw[e4];exact lw
    refine Zdi fun B_ hB=> ?_;refine⟨_,rfl,x,_,dx1,_,rfl,ha1,rfl,Zbg (by decide+kernel),x,S2,F,rfl,by decide,af.ho,fun RL HM hRL sM rg=> ?_⟩;clear ha1;obtain⟨es,hes,pes⟩:=rg;have les:=Paired.length pes;refine⟨.inl ⟨rfl,_,SqL.of hes⟩,RL,_,_,rfl,rfl,hes,by rw[List.length_map];omega, ?_⟩
    refine hB _ _ ?_;replace af:=af.write sM hRL hes (o:=.lst (es.map V.ref++[.str "more"]));generalize upd HM RL (.lst (es.map V.ref++[.str "more"]))=HN at af
    clear hes sM hRL pes;obtain⟨dx1,b1,t1',o1,h1,r1,k1,w1,ha1,_⟩:=af.ho.ins;refine Zdi fun B_ hB=> ?_;refine⟨_,rfl,x,_,dx1,_,rfl,ha1,rfl,Zbg (by decide+kernel),x,S2,F,rfl,by decide,af.ho,alldue,lwd,fun RL HO hRL sO rg=> ?_⟩;clear ha1;refine⟨.inl ⟨rfl,_,SqL.of rg⟩,RL,_,_,rfl,rfl,rg,by show 0<sizeLine;omega, ?_⟩
    refine hB _ _ ?_;replace af:=af.write sO hRL rg (o:=.lst ([]++[.str "more"]));generalize upd HO RL (.lst ([]++[.str "more"]))=HP at af
    clear rg sO hRL;obtain⟨dx1,b1,t1',o1,h1,r1,k1,w1,ha1,_⟩:=af.ho.ins;refine⟨_,rfl,x,_,dx1,_,rfl,ha1,rfl,Zbg (by decide+kernel),x,S2,F,rfl,by decide,af.ho,fun G kg HF hG sF hg pg=> ?_⟩;replace af:=af.same sF;have g2:=Zqs (K:=K) ndg pg af.gn;refine⟨_,rfl,G,Aw,kg,kv,rfl,rfl,.inl hg,.inl af.aw,g2.1,g2.2,_,rfl,XX ?_⟩;clear g2 pg hg hG sF ha1;obtain⟨dx1,b1,t1',o1,h1,r1,k1,w1,ha1,_⟩:=af.ho.ins;refine⟨_,rfl,x,_,dx1,_,rfl,ha1,rfl,Zbg (by decide+kernel),x,S2,F,rfl,by decide,af.ho,fun RL HI hRL sI rg=> ?_⟩
    clear ha1;replace af:=af.same sI;obtain⟨es,hes,pes⟩:=rg;obtain⟨gs_,hgs,pgs⟩:=id af.rw_;refine⟨_,rfl,2,.lst (S2.ws.map rwD),.lst (S2.ws.map rwD),by decide,rfl,.lst (SqL.of hes) (Zgn pes),.lst (SqL.of hgs) (Zgn pgs),(Zgo _).2,_,rfl, ?_⟩;rw[(Zgo _).1];refine XX ?_;clear hes pes hgs pgs sI hRL;obtain⟨dx1,b1,t1',o1,h1,r1,k1,w1,ha1,_⟩:=af.ho.ins;refine⟨_,rfl,x,_,dx1,_,rfl,ha1,rfl,Zbg (by decide+kernel),x,S2,F,rfl,by decide,af.ho,alldue,lwd,fun RL HI hRL sI rg=> ?_⟩
    exact⟨Nat.zero_le _,fun l hl=>⟨2,.lst [],.lst [],by decide,rfl,.lst (SqL.of (Zk hl _ _ rg)) .nil,.lst (SqL.of Zc) .nil,rfl,fin _⟩⟩
end
def Gd(K:PySem.W.Frag)(x:Str)(st:Stmt):Prop:=∃A fd,PySem.W.nsIn K mainGlobals x=some (some (.ref A))/\Fun K x x st A fd
def Md(K:PySem.W.Frag)(C:Addr)(x q:Str)(st:Stmt):Prop:=∃A fd,PySem.W.findIn K (.ref C) x=some (some (.ref A))/\PySem.W.isFn K (.ref A)=true/\Fun K x q st A fd
theorem all_mk{l:PySem.W.OpenLaw}{w:World}{K:PySem.W.Frag}{h:Heap}{mg:Str->Option Value}{fa:Addr}{A_law:Addr}{oc_law kV_law dc_law pm_law cd_law ct_law:Value}{od_law an_law:Option Addr}{sl_law:Array (Option Value)}{Zj:Addr}{Zg:Addr}{Zh:Addr}{Zb:Addr}{Zo:Addr}
  (X:K.In h)(G:h.Ns mainGlobals mg)(hfa:mg "law"=some (.ref fa))
  (Z0V:Gd K "never" ZkV)
  (Z0W:Gd K "after" ZkW)
  (Z0X:Gd K "later" ZkX)
  (Z0A:Gd K "earlier" ZgF)
  (Z0B:Gd K "line_of" ZgG)
  (Z0m:Gd K "owner_of" Zfk)
  (Z0C:Gd K "term_of" ZgH)
  (Y0:Gd K "owning_series" Zbn)
  (Z0N:Gd K "judged" ZiF)
  (Z0O:Gd K "reason" ZiG)
  (Z0D:Gd K "counted" ZgI)
  (Z0P:Gd K "is_put" ZiH)
  (Z0h:Gd K "series_of" Zei)
  (Z0E:Gd K "life_of" ZgJ)
  (Z0n:Gd K "holds_on" Zfl)
  (Z0o:Gd K "standing" Zfm)
  (Z06:Gd K "is_laid_on" Zdw)
  (Z0p:Gd K "word_for" Zfn)
  (Z0F:Gd K "is_laid" ZgK)
  (Y9:Gd K "series_named" Zc3)
  (J3:Gd K "_law_cell_at" ZcD)
  (Z0i:Gd K "_law_whole" Zej)
  (J5:Gd K "_law_name_by" ZcE)
  (Y4:Gd K "_law_length_by" Zbo)
  (J6:Gd K "_law_tree_by" ZcF)
  (Z0f:Gd K "_law_made" Zfo)
  (Z0l:Gd K "_law_due" ZgL)
  (J7:Gd K "_law_book_by" ZcG)
  (Z0j:Gd K "_law_terms" Zek)
  (Y5:Gd K "_law_record_by" Zbp)
  (Y6:Gd K "_law_number_by" Zbq)
  (Z07:Gd K "_law_row_by" Zdx)
  (J8:Gd K "_law_rows_by" ZcH)
  (Z0q:Gd K "_law_line" Zfp)
  (Z0k:Gd K "_law_owner" Zel)
  (Z0r:Gd K "_law_life" Zfq)
  (Z08:Gd K "_law_judged" Zdy)
  (X5:Gd K "_law_leaves" Zdz)
  (Z09:Gd K "_law_reason" ZdA)
  (Z0G:Gd K "_law_run" ZgM)
  (Y7:Gd K "_law_gone_form" Zbr)
  (Z1y:PySem.W.nsIn K mainGlobals "law"=some (some (.ref A_law)))
  (l_law:K.lookup A_law=some ⟨oc_law,od_law,.func (PySem.W.fnOf "law" "law" (ZeR Zg1) (Zdt Zg1) (Zw Zg1) .none kV_law dc_law pm_law an_law cd_law ct_law),sl_law⟩)
  (cd_law':PySem.W.codeIn K cd_law "law"=true)
  (k_law:PySem.W.keepIn K (.ref A_law)=true)
  (Z1e:PySem.W.nsIn K mainGlobals "Never"=some (some (.ref Zj)))
  (Z1f:PySem.W.nsIn K mainGlobals "After"=some (some (.ref Zg)))
  (Z1g:PySem.W.nsIn K mainGlobals "Later"=some (some (.ref Zh)))
  (Z0Q:PySem.W.nsIn K mainGlobals "Earlier"=some (some (.ref Zb)))
  (Z1h:PySem.W.nsIn K mainGlobals "House"=some (some (.ref Zo)))
  (Z0Y:PySem.W.plainGet K Zj Str.empty=true)
  (Z0Z:PySem.W.hasDictIn K Zj=true)
  (Z10:PySem.W.plainOver K Zj=true)
  (Z11:PySem.W.findIn K (.ref Zj) "__setattr__"=some (some (.builtin "object.__setattr__")))
  (Z1i:PySem.W.makesIn K Zj=true)
  (Z1j:PySem.W.keepIn K (.ref Zj)=true)
  (in_Never:PySem.W.findIn K (.ref Zj) "__init__"=some (some (.builtin "object.__init__")))
  (Z1k:PySem.W.findIn K (.ref Zj) "__class__"=some (some (.builtin "object.__class__")))
  (Z1l:PySem.W.mroIn K Zj (.type "object")=some true)
  (Z12:PySem.W.plainGet K Zg Str.empty=true)
  (Z13:PySem.W.hasDictIn K Zg=true)
  (Z14:PySem.W.plainOver K Zg=true)
  (Z15:PySem.W.findIn K (.ref Zg) "__setattr__"=some (some (.builtin "object.__setattr__")))
  (Z1m:PySem.W.makesIn K Zg=true)
  (Z1n:PySem.W.keepIn K (.ref Zg)=true)
  (Z0a:Md K Zg "__init__" "After.__init__" ZdB)
  (Z0w:PySem.W.findIn K (.ref Zg) "kind"=some none)
  (Z0x:PySem.W.findIn K (.ref Zg) "days"=some none)
  (Z1o:PySem.W.findIn K (.ref Zg) "__class__"=some (some (.builtin "object.__class__")))
  (Z1p:PySem.W.mroIn K Zg (.type "object")=some true)
  (Z16:PySem.W.plainGet K Zh Str.empty=true)
  (Z17:PySem.W.hasDictIn K Zh=true)
  (Z18:PySem.W.plainOver K Zh=true)
  (Z19:PySem.W.findIn K (.ref Zh) "__setattr__"=some (some (.builtin "object.__setattr__")))
  (Z1q:PySem.W.makesIn K Zh=true)
  (Z1r:PySem.W.keepIn K (.ref Zh)=true)
  (Z0b:Md K Zh "__init__" "Pair.__init__" Zcq)
  (Z0H:PySem.W.findIn K (.ref Zh) "one"=some none)
  (Z0s:PySem.W.findIn K (.ref Zh) "other"=some none)
  (Z1s:PySem.W.findIn K (.ref Zh) "__class__"=some (some (.builtin "object.__class__")))
  (Z1t:PySem.W.mroIn K Zh (.type "object")=some true)
  (Z0I:PySem.W.plainGet K Zb Str.empty=true)
  (Z0J:PySem.W.hasDictIn K Zb=true)
  (Z0K:PySem.W.plainOver K Zb=true)
  (Z0L:PySem.W.findIn K (.ref Zb) "__setattr__"=some (some (.builtin "object.__setattr__")))
  (Z0R:PySem.W.makesIn K Zb=true)
  (Z0S:PySem.W.keepIn K (.ref Zb)=true)
  (X3:Md K Zb "__init__" "Pair.__init__" Zcq)
  (Z0t:PySem.W.findIn K (.ref Zb) "one"=some none)
  (Z0g:PySem.W.findIn K (.ref Zb) "other"=some none)
  (Z0T:PySem.W.findIn K (.ref Zb) "__class__"=some (some (.builtin "object.__class__")))
  (Z0U:PySem.W.mroIn K Zb (.type "object")=some true)
  (Z1a:PySem.W.plainGet K Zo Str.empty=true)
  (Z1b:PySem.W.hasDictIn K Zo=true)
  (Z1c:PySem.W.plainOver K Zo=true)
  (Z1d:PySem.W.findIn K (.ref Zo) "__setattr__"=some (some (.builtin "object.__setattr__")))
  (Z1u:PySem.W.makesIn K Zo=true)
  (Z1v:PySem.W.keepIn K (.ref Zo)=true)
  (Z0c:Md K Zo "__init__" "House.__init__" ZdC)
  (Z0y:PySem.W.findIn K (.ref Zo) "book"=some none)
  (Z0z:PySem.W.findIn K (.ref Zo) "told"=some none)
  (Z0M:PySem.W.findIn K (.ref Zo) "own"=some none)
  (Z0d:PySem.W.findIn K (.ref Zo) "holdings"=some none)
  (Z0e:PySem.W.findIn K (.ref Zo) "run_days"=some none)
  (Z0u:PySem.W.findIn K (.ref Zo) "taken"=some none)
  (Z0v:PySem.W.findIn K (.ref Zo) "words"=some none)
  (Z1w:PySem.W.findIn K (.ref Zo) "__class__"=some (some (.builtin "object.__class__")))
  (Z1x:PySem.W.mroIn K Zo (.type "object")=some true)
  (hn:PySem.W.specialIn K (.builtin "object.__class__") "__get__"=some (some (.builtin "getset_descriptor.__get__")))
  (htk:PySem.W.takesIn K (.builtin "object.__class__")=some true)
  (J9:Md K Zj "due" "Never.due" Zem)
  (Z00:Md K Zg "due" "After.due" Zen)
  (Z01:Md K Zh "due" "Later.due" Zeo)
  (Y8:Md K Zb "due" "Earlier.due" ZcI)
  (Z6:Md K Zj "leaves" "Never.leaves" Zc4)
  (Z7:Md K Zg "leaves" "After.leaves" Zc5)
  (Z8:Md K Zh "leaves" "Pair.leaves" Zb1)
  (Z3:Md K Zb "leaves" "Pair.leaves" Zb1)
  (X6:Md K Zo "tell" "House.tell" ZdD)
  (Z0:Md K Zo "refuse_row" "House.refuse_row" Zab)
  (Z4:Md K Zo "keep_row" "House.keep_row" ZaN)
  (Z1:Md K Zo "touched_by" "House.touched_by" Zac)
  (Z2:Md K Zo "words_now" "House.words_now" Zav)
  (Z02:Md K Zo "run" "House.run" Zep)
  (Z9:Md K Zo "due_on" "House.due_on" Zc6)
  (Z5:Md K Zo "regrets" "House.regrets" Zbs)
  (X7:Md K Zo "rows" "House.rows" ZdE)
  (X8:Md K Zo "gone" "House.gone" ZdF)
  (z_abs:PySem.W.nsIn K mainGlobals "abs"=some none)
  (z_any:PySem.W.nsIn K mainGlobals "any"=some none)
  (z_bool:PySem.W.nsIn K mainGlobals "bool"=some none)
  (z_dict:PySem.W.nsIn K mainGlobals "dict"=some none)
  (z_int:PySem.W.nsIn K mainGlobals "int"=some none)
  (z_isinstance:PySem.W.nsIn K mainGlobals "isinstance"=some none)
  (z_len:PySem.W.nsIn K mainGlobals "len"=some none)
  (z_list:PySem.W.nsIn K mainGlobals "list"=some none)
  (z_max:PySem.W.nsIn K mainGlobals "max"=some none)
  (z_min:PySem.W.nsIn K mainGlobals "min"=some none)
  (z_range:PySem.W.nsIn K mainGlobals "range"=some none)
  (z_reversed:PySem.W.nsIn K mainGlobals "reversed"=some none)
  (z_sorted:PySem.W.nsIn K mainGlobals "sorted"=some none)
  (z_str:PySem.W.nsIn K mainGlobals "str"=some none)
  (z_tuple:PySem.W.nsIn K mainGlobals "tuple"=some none)
  (kib:PySem.W.kitOne K (.type "int") (.type "bool")=some false)
  (kii:PySem.W.kitOne K (.type "int") (.type "int")=some true)
  (kll:PySem.W.kitOne K (.type "list") (.type "list")=some true)
  (ktt:PySem.W.kitOne K (.type "tuple") (.type "tuple")=some true)
  (kss:PySem.W.kitOne K (.type "str") (.type "str")=some true)
  (ne_Never_After:Zj≠Zg)
  (ne_Never_Later:Zj≠Zh)
  (ne_Never_Earlier:Zj≠Zb)
  (Z03:Zj≠Zo)
  (ne_After_Later:Zg≠Zh)
  (ne_After_Earlier:Zg≠Zb)
  (Z04:Zg≠Zo)
  (ne_Later_Earlier:Zh≠Zb)
  (Z05:Zh≠Zo)
  (X4:Zb≠Zo)
  :∃fd:FuncData,(∀(s:Shared) (v:Value),BindsTo s fd ⟨[v],[]⟩ [("_law_script",v)])/\∀base:Heap,K.In base->base.Ns mainGlobals mg->Yn l.prog w K mg base CX0 41 fa fd ["_law_script"] (Zpk K):=by
 have e:=hfa.symm.trans (PySem.W.mg_of X G Z1y);cases e;have T:Txt K mg Zj Zg Zh Zb Zo:=⟨PySem.W.mg_none_of X G z_abs,PySem.W.mg_none_of X G z_any,PySem.W.mg_none_of X G z_bool,PySem.W.mg_none_of X G z_dict,PySem.W.mg_none_of X G z_int,PySem.W.mg_none_of X G z_isinstance,PySem.W.mg_none_of X G z_len,PySem.W.mg_none_of X G z_list,PySem.W.mg_none_of X G z_max,PySem.W.mg_none_of X G z_min,PySem.W.mg_none_of X G z_range,PySem.W.mg_none_of X G z_reversed,PySem.W.mg_none_of X G z_sorted,PySem.W.mg_none_of X G z_str,PySem.W.mg_none_of X G z_tuple,kib,kii,kll,ktt,kss,⟨Z0Y,Z0Z,Z10,Z11⟩,⟨⟨Z0Y,Z0Z,Z10,Z11⟩,Z1k,hn,htk,Z1l⟩,⟨Z12,Z13,Z14,Z15⟩,Z0w,Z0x,⟨⟨Z12,Z13,Z14,Z15⟩,Z1o,hn,htk,Z1p⟩,⟨Z16,Z17,Z18,Z19⟩,Z0H,Z0s,⟨⟨Z16,Z17,Z18,Z19⟩,Z1s,hn,htk,Z1t⟩,⟨Z0I,Z0J,Z0K,Z0L⟩,Z0t,Z0g,⟨⟨Z0I,Z0J,Z0K,Z0L⟩,Z0T,hn,htk,Z0U⟩,⟨Z1a,Z1b,Z1c,Z1d⟩,Z0y,Z0z,Z0M,Z0d,Z0e,Z0u,Z0v,⟨⟨Z1a,Z1b,Z1c,Z1d⟩,Z1w,hn,htk,Z1x⟩,ne_Never_After,ne_Never_Later,ne_Never_Earlier,Z03,ne_After_Later,ne_After_Earlier,Z04,ne_Later_Earlier,Z05,X4⟩
 have Ztj:=ZmF (st:=Zg1) l_law cd_law' k_law;obtain⟨_,_,Z0V,Zlx⟩:=Z0V;obtain⟨_,_,Z0W,Zly⟩:=Z0W;obtain⟨_,_,Z0X,Zlz⟩:=Z0X;obtain⟨_,_,Z0A,Zh9⟩:=Z0A;obtain⟨_,_,Z0B,Zha⟩:=Z0B;obtain⟨_,_,Z0m,ZfH⟩:=Z0m;obtain⟨_,_,Z0C,Zhb⟩:=Z0C;obtain⟨_,_,Y0,Zby⟩:=Y0;obtain⟨_,_,Z0N,Zjn⟩:=Z0N;obtain⟨_,_,Z0O,Zjo⟩:=Z0O;obtain⟨_,_,Z0D,Zhc⟩:=Z0D;obtain⟨_,_,Z0P,Zjp⟩:=Z0P;obtain⟨_,_,Z0h,ZeG⟩:=Z0h;obtain⟨_,_,Z0E,Zhd⟩:=Z0E;obtain⟨_,_,Z0n,ZfI⟩:=Z0n
 obtain⟨_,_,Z0o,ZfJ⟩:=Z0o;obtain⟨_,_,Z06,Ze0⟩:=Z06;obtain⟨_,_,Z0p,ZfK⟩:=Z0p;obtain⟨_,_,Z0F,Zhe⟩:=Z0F;obtain⟨_,_,Y9,Zcj⟩:=Y9;obtain⟨_,_,J3,ZcT⟩:=J3;obtain⟨_,_,Z0i,ZeH⟩:=Z0i;obtain⟨_,_,J5,ZcU⟩:=J5;obtain⟨_,_,Y4,Zbz⟩:=Y4;obtain⟨_,_,J6,ZcV⟩:=J6;obtain⟨_,_,Z0f,Zck⟩:=Z0f;obtain⟨_,_,Z0l,Zdk⟩:=Z0l;obtain⟨_,_,J7,ZcW⟩:=J7;obtain⟨_,_,Z0j,ZeI⟩:=Z0j;obtain⟨_,_,Y5,ZbA⟩:=Y5;obtain⟨_,_,Y6,ZbB⟩:=Y6;obtain⟨_,_,Z07,Ze1⟩:=Z07
 obtain⟨_,_,J8,ZcX⟩:=J8;obtain⟨_,_,Z0q,ZfL⟩:=Z0q;obtain⟨_,_,Z0k,ZeJ⟩:=Z0k;obtain⟨_,_,Z0r,ZfM⟩:=Z0r;obtain⟨_,_,Z08,Ze2⟩:=Z08;obtain⟨_,_,X5,ZaE⟩:=X5;obtain⟨_,_,Z09,Ze3⟩:=Z09;obtain⟨_,_,Z0G,Zhf⟩:=Z0G;obtain⟨_,_,Y7,ZbC⟩:=Y7;obtain⟨_,_,Z0a,ZlA,Zgp⟩:=Z0a;obtain⟨_,_,Z0b,ZlB,Zgq⟩:=Z0b;obtain⟨_,_,X3,Zjq,ZeK⟩:=X3;obtain⟨_,_,Z0c,ZlC,Zgr⟩:=Z0c;obtain⟨_,_,J9,Zhr,Zbi⟩:=J9;obtain⟨_,_,Z00,Zhs,Zbj⟩:=Z00;obtain⟨_,_,Z01,Zht,Zbk⟩:=Z01
 obtain⟨_,_,Y8,Zfe,Za8⟩:=Y8;obtain⟨_,_,Z6,ZeL,JP⟩:=Z6;obtain⟨_,_,Z7,ZeM,JQ⟩:=Z7;obtain⟨_,_,Z8,ZeN,JR⟩:=Z8;obtain⟨_,_,Z3,Zdl,Jk⟩:=Z3;obtain⟨_,_,X6,Zgs,ZaF⟩:=X6;obtain⟨_,_,Z0,Zcl,XF⟩:=Z0;obtain⟨_,_,Z4,Zdm,Jl⟩:=Z4;obtain⟨_,_,Z1,Zcm,XH⟩:=Z1;obtain⟨_,_,Z2,ZcA,Jc⟩:=Z2;obtain⟨_,_,Z02,Zhu,Zbl⟩:=Z02;obtain⟨_,_,Z9,ZeO,JS⟩:=Z9;obtain⟨_,_,Z5,Ze7,Ju⟩:=Z5;obtain⟨_,_,X7,Zgt,ZaG⟩:=X7;obtain⟨_,_,X8,Zgu,ZaH⟩:=X8;refine⟨PySem.W.fnOf "law" "law" (ZeR Zg1) (Zdt Zg1) (Zw Zg1) .none kV_law dc_law pm_law an_law cd_law ct_law,fun s v=> .of_eq rfl,fun base Kb _=> ?_⟩
 have Zl2:Zs4 K mg "Never" Zj:=⟨PySem.W.mg_of X G Z1e,Z1i,in_Never,Z1j⟩
 have Zlk:Cal l.prog w K mg base CX0 1 "never" [] (ZiJ Zj Zg Zh Zb):=⟨_,_,PySem.W.mg_of X G Z0V,Zlx.kp,Zlx.binds (fun _ _ _ _ _ _=>ZtF rfl),ZpX Zlx T Zl2⟩
 have Zl3:ZkM l.prog w K mg base CX0 1 "After" Zg ["self","kind","days"] (ZcJ Zg):=⟨_,_,PySem.W.mg_of X G Z1f,⟨Z1m,Z0a,ZlA,Z1n⟩,Zgp.binds (fun _ _ _ _ _ _=>ZlR fun _ _ _=>rfl),Zjx Zgp T T.cl_After T.n_After_kind T.n_After_days⟩
 have Zli:Cal l.prog w K mg base CX0 3 "after" ["kind","days"] (ZiK Zj Zg Zh Zb):=⟨_,_,PySem.W.mg_of X G Z0W,Zly.kp,Zly.binds (fun _ _ _ _ _ _=>XC fun _ _=>rfl),ZpZ Zly T Zl3⟩
 have Zl4:ZkM l.prog w K mg base CX0 1 "Later" Zh ["self","one","other"] (Zaw Zh):=⟨_,_,PySem.W.mg_of X G Z1g,⟨Z1q,Z0b,ZlB,Z1r⟩,Zgq.binds (fun _ _ _ _ _ _=>ZlR fun _ _ _=>rfl),Zg9 Zgq T T.cl_Later T.n_Later_one T.n_Later_other⟩
 have Zlj:Cal l.prog w K mg base CX0 3 "later" ["one","other"] (ZiL Zj Zg Zh Zb):=⟨_,_,PySem.W.mg_of X G Z0X,Zlz.kp,Zlz.binds (fun _ _ _ _ _ _=>XC fun _ _=>rfl),Zq1 Zlz T Zl4⟩
 have ZgO:ZkM l.prog w K mg base CX0 1 "Earlier" Zb ["self","one","other"] (Zaw Zb):=⟨_,_,PySem.W.mg_of X G Z0Q,⟨Z0R,X3,Zjq,Z0S⟩,ZeK.binds (fun _ _ _ _ _ _=>ZlR fun _ _ _=>rfl),Zg9 ZeK T T.cl_Earlier T.n_Earlier_one T.n_Earlier_other⟩
 have ZgZ:Cal l.prog w K mg base CX0 3 "earlier" ["one","other"] (Zfr Zj Zg Zh Zb):=⟨_,_,PySem.W.mg_of X G Z0A,Zh9.kp,Zh9.binds (fun _ _ _ _ _ _=>XC fun _ _=>rfl),ZmZ Zh9 T ZgO⟩
 have ZgR:Cal l.prog w K mg base CX0 1 "line_of" ["book","name"] (Zfs Zj Zg Zh Zb):=⟨_,_,PySem.W.mg_of X G Z0B,Zha.kp,Zha.binds (fun _ _ _ _ _ _=>XC fun _ _=>rfl),Zn0 Zha T⟩
 have XQ:Cal l.prog w K mg base CX0 1 "owning_series" ["book","name"] (JW Zj Zg Zh Zb):=⟨_,_,PySem.W.mg_of X G Y0,Zby.kp,Zby.binds (fun _ _ _ _ _ _=>XC fun _ _=>rfl),ZgQ Zby T⟩
 have Zfz:Cal l.prog w K mg base CX0 2 "owner_of" ["book","name"] (Zes Zj Zg Zh Zb):=⟨_,_,PySem.W.mg_of X G Z0m,ZfH.kp,ZfH.binds (fun _ _ _ _ _ _=>XC fun _ _=>rfl),Zm4 ZfH T XQ⟩
 have ZbP:Cal l.prog w K mg base CX0 2 "term_of" ["book","name"] (ZdG Zj Zg Zh Zb):=⟨_,_,PySem.W.mg_of X G Z0C,Zhb.kp,Zhb.binds (fun _ _ _ _ _ _=>XC fun _ _=>rfl),Zn2 Zhb T XQ⟩
 have XR:Cal l.prog w K mg base CX0 1 "counted" ["rows","day"] ZaR:=⟨_,_,PySem.W.mg_of X G Z0D,Zhc.kp,Zhc.binds (fun _ _ _ _ _ _=>XC fun _ _=>rfl),Zn4 Zhc T⟩
 have Ze6:∀n,Zap l.prog w K mg base CX0 (0+n+1) "due" ["self","life"] (ZcK Zj Zg Zh Zb n) (fun C=>C=Zj\/C=Zg\/C=Zh\/C=Zb):=fun n=>by
  induction n with
  |zero=>
   refine⟨fun C hC=> ?_⟩;rcases hC with hC|hC|hC|hC
   ·cases hC.symm;exact⟨T.cl_Never,_,_,⟨J9,Zhr,Zbi.kp⟩,Zbi.binds (fun _ _ _ _ _ _=>XC fun _ _=>rfl),Xe Zg5⟩
   ·cases hC.symm;exact⟨T.cl_After,_,_,⟨Z00,Zhs,Zbj.kp⟩,Zbj.binds (fun _ _ _ _ _ _=>XC fun _ _=>rfl),Xe Zg5⟩
   ·cases hC.symm;exact⟨T.cl_Later,_,_,⟨Z01,Zht,Zbk.kp⟩,Zbk.binds (fun _ _ _ _ _ _=>XC fun _ _=>rfl),Xe Zg5⟩
   ·cases hC.symm;exact⟨T.cl_Earlier,_,_,⟨Y8,Zfe,Za8.kp⟩,Za8.binds (fun _ _ _ _ _ _=>XC fun _ _=>rfl),Xe Zg5⟩
  |succ n ih=>
   refine⟨fun C hC=> ?_⟩;rcases hC with hC|hC|hC|hC
   ·cases hC.symm;exact⟨T.cl_Never,_,_,⟨J9,Zhr,Zbi.kp⟩,Zbi.binds (fun _ _ _ _ _ _=>XC fun _ _=>rfl),Zlm Zbi T n⟩
   ·cases hC.symm;exact⟨T.cl_After,_,_,⟨Z00,Zhs,Zbj.kp⟩,Zbj.binds (fun _ _ _ _ _ _=>XC fun _ _=>rfl),Zlo Zbj T n⟩
   ·cases hC.symm;exact⟨T.cl_Later,_,_,⟨Z01,Zht,Zbk.kp⟩,Zbk.binds (fun _ _ _ _ _ _=>XC fun _ _=>rfl),Zlp Zbk T n ih⟩
   ·cases hC.symm;exact⟨T.cl_Earlier,_,_,⟨Y8,Zfe,Za8.kp⟩,Za8.binds (fun _ _ _ _ _ _=>XC fun _ _=>rfl),Zjb Za8 T n ih⟩
 have ZdP:Cal l.prog w K mg base CX0 1 "is_laid_on" ["row","record","over"] ZcL:=⟨_,_,PySem.W.mg_of X G Z06,Ze0.kp,Ze0.binds (fun _ _ _ _ _ _=>ZlR fun _ _ _=>rfl),Zjz Ze0 T⟩
 have Jr:Cal l.prog w K mg base CX0 1 "standing" ["rows"] Zbc:=⟨_,_,PySem.W.mg_of X G Z0o,ZfJ.kp,ZfJ.binds (fun _ _ _ _ _ _=>ZbI fun _=>rfl),Zmb ZfJ T⟩
 have Zfy:Cal l.prog w K mg base CX0 2 "holds_on" ["rows","record","line"] Zet:=⟨_,_,PySem.W.mg_of X G Z0n,ZfI.kp,ZfI.binds (fun _ _ _ _ _ _=>ZlR fun _ _ _=>rfl),Zmc ZfI T ZdP Jr⟩
 have Zaz:Cal l.prog w K mg base CX0 1 "is_put" ["rows","record"] Zd6:=⟨_,_,PySem.W.mg_of X G Z0P,Zjp.kp,Zjp.binds (fun _ _ _ _ _ _=>XC fun _ _=>rfl),ZoA Zjp T⟩
 have ZbO:Cal l.prog w K mg base CX0 1 "life_of" ["rows","record"] ZdH:=⟨_,_,PySem.W.mg_of X G Z0E,Zhd.kp,Zhd.binds (fun _ _ _ _ _ _=>XC fun _ _=>rfl),Zn5 Zhd T⟩
 have Zak:Cal l.prog w K mg base CX0 1 "series_of" ["rows","record"] ZbJ:=⟨_,_,PySem.W.mg_of X G Z0h,ZeG.kp,ZeG.binds (fun _ _ _ _ _ _=>XC fun _ _=>rfl),Zl6 ZeG T⟩
 have ZfA:Cal l.prog w K mg base CX0 1 "word_for" ["due","holds","day"] Zeu:=⟨_,_,PySem.W.mg_of X G Z0p,ZfK.kp,ZfK.binds (fun _ _ _ _ _ _=>ZlR fun _ _ _=>rfl),Zm9 ZfK T⟩
 have Zdd:Cal l.prog w K mg base CX0 14 "judged" ["book","rows","record","day"] (ZeW Zj Zg Zh Zb):=⟨_,_,PySem.W.mg_of X G Z0N,Zjn.kp,Zjn.binds (fun _ _ _ _ _ _=>ZmQ fun _ _ _ _=>rfl),ZoC Zjn T XR (Ze6 12) Zfy Zaz ZbO ZgR Zfz Zak ZbP ZfA⟩
 have Zbf:∀n,Zap l.prog w K mg base CX0 (0+n+1) "leaves" ["self"] (Zaj Zj Zg Zh Zb n) (fun C=>C=Zj\/C=Zg\/C=Zh\/C=Zb):=fun n=>by
  induction n with
  |zero=>
   refine⟨fun C hC=> ?_⟩;rcases hC with hC|hC|hC|hC
   ·cases hC.symm;exact⟨T.cl_Never,_,_,⟨Z6,ZeL,JP.kp⟩,JP.binds (fun _ _ _ _ _ _=>ZbI fun _=>rfl),Xe Zcr⟩
   ·cases hC.symm;exact⟨T.cl_After,_,_,⟨Z7,ZeM,JQ.kp⟩,JQ.binds (fun _ _ _ _ _ _=>ZbI fun _=>rfl),Xe Zcr⟩
   ·cases hC.symm;exact⟨T.cl_Later,_,_,⟨Z8,ZeN,JR.kp⟩,JR.binds (fun _ _ _ _ _ _=>ZbI fun _=>rfl),Xe Zcr⟩
   ·cases hC.symm;exact⟨T.cl_Earlier,_,_,⟨Z3,Zdl,Jk.kp⟩,Jk.binds (fun _ _ _ _ _ _=>ZbI fun _=>rfl),Xe Zcr⟩
  |succ n ih=>
   refine⟨fun C hC=> ?_⟩;rcases hC with hC|hC|hC|hC
   ·cases hC.symm;exact⟨T.cl_Never,_,_,⟨Z6,ZeL,JP.kp⟩,JP.binds (fun _ _ _ _ _ _=>ZbI fun _=>rfl),ZhG JP T n⟩
   ·cases hC.symm;exact⟨T.cl_After,_,_,⟨Z7,ZeM,JQ.kp⟩,JQ.binds (fun _ _ _ _ _ _=>ZbI fun _=>rfl),ZhI JQ T n⟩
   ·cases hC.symm;exact⟨T.cl_Later,_,_,⟨Z8,ZeN,JR.kp⟩,JR.binds (fun _ _ _ _ _ _=>ZbI fun _=>rfl),Zey JR T n (.inl rfl) ih⟩
   ·cases hC.symm;exact⟨T.cl_Earlier,_,_,⟨Z3,Zdl,Jk.kp⟩,Jk.binds (fun _ _ _ _ _ _=>ZbI fun _=>rfl),Zey Jk T n (.inr (rfl)) ih⟩
 have Zj5:Cal l.prog w K mg base CX0 14 "reason" ["book","rows","record","day"] (ZgN Zj Zg Zh Zb):=⟨_,_,PySem.W.mg_of X G Z0O,Zjo.kp,Zjo.binds (fun _ _ _ _ _ _=>ZmQ fun _ _ _ _=>rfl),ZoD Zjo T XR (Ze6 12) (Zbf 12) Zaz ZbO Zak ZbP⟩
 have ZgV:Cal l.prog w K mg base CX0 1 "is_laid" ["rows","hold"] Zft:=⟨_,_,PySem.W.mg_of X G Z0F,Zhe.kp,Zhe.binds (fun _ _ _ _ _ _=>XC fun _ _=>rfl),Zn9 Zhe T⟩
 have Zcg:Cal l.prog w K mg base CX0 1 "series_named" ["row"] Zbt:=⟨_,_,PySem.W.mg_of X G Y9,Zcj.kp,Zcj.binds (fun _ _ _ _ _ _=>ZbI fun _=>rfl),ZhK Zcj T⟩
 have Xz:Cal l.prog w K mg base CX0 1 "_law_cell_at" ["_law_script","_law_k"] (Zax K):=⟨_,_,PySem.W.mg_of X G J3,ZcT.kp,ZcT.binds (fun _ _ _ _ _ _=>XC fun _ _=>rfl),Zjd ZcT T⟩
 have Zbh:Cal l.prog w K mg base CX0 1 "_law_whole" ["_law_found"] ZdJ:=⟨_,_,PySem.W.mg_of X G Z0i,ZeH.kp,ZeH.binds (fun _ _ _ _ _ _=>ZbI fun _=>rfl),Zlr ZeH T⟩
 have Yo:Cal l.prog w K mg base CX0 1 "_law_name_by" ["_law_cell","_law_k"] Ji:=⟨_,_,PySem.W.mg_of X G J5,ZcU.kp,ZcU.binds (fun _ _ _ _ _ _=>XC fun _ _=>rfl),Zj8 ZcU T⟩
 have Zbu:Cal l.prog w K mg base CX0 1 "_law_length_by" ["_law_cell"] ZaO:=⟨_,_,PySem.W.mg_of X G Y4,Zbz.kp,Zbz.binds (fun _ _ _ _ _ _=>ZbI fun _=>rfl),Zh0 Zbz T⟩
 have ZcP:Cal l.prog w K mg base CX0 2 "_law_tree_by" ["_law_cells","_law_names_by","_law_most"] Zc8:=⟨_,_,PySem.W.mg_of X G J6,ZcV.kp,ZcV.binds (fun _ _ _ _ _ _=>ZlR fun _ _ _=>rfl),Zja ZcV T Zbu Yo⟩
 have JL:∀n,Cal l.prog w K mg base CX0 (3+n+1) "_law_made" ["_law_tree"] (Zba Zj Zg Zh Zb n):=fun n=>by
  induction n with
  |zero=>exact⟨_,_,PySem.W.mg_of X G Z0f,Zck.kp,Zck.binds (fun _ _ _ _ _ _=>ZbI fun _=>rfl),Xe Zjv⟩
  |succ n ih=>exact⟨_,_,PySem.W.mg_of X G Z0f,Zck.kp,Zck.binds (fun _ _ _ _ _ _=>ZbI fun _=>rfl),Zmm Zck T n ih Zli ZgZ Zlj Zlk⟩
 have ZbQ:∀n,Cal l.prog w K mg base CX0 (0+n+1) "_law_due" ["_law_tree","_law_life_here"] (Zc7 n):=fun n=>by
  induction n with
  |zero=>exact⟨_,_,PySem.W.mg_of X G Z0l,Zdk.kp,Zdk.binds (fun _ _ _ _ _ _=>XC fun _ _=>rfl),Xe ZkY⟩
  |succ n ih=>exact⟨_,_,PySem.W.mg_of X G Z0l,Zdk.kp,Zdk.binds (fun _ _ _ _ _ _=>XC fun _ _=>rfl),Zni Zdk T n ih⟩
 have ZcR:Cal l.prog w K mg base CX0 3 "_law_book_by" ["_law_script","_law_names_by"] (Zc9 K):=⟨_,_,PySem.W.mg_of X G J7,ZcW.kp,ZcW.binds (fun _ _ _ _ _ _=>XC fun _ _=>rfl),Zje ZcW T Xz Yo ZcP⟩
 have ZeF:Cal l.prog w K mg base CX0 17 "_law_terms" ["_law_book"] (ZdK Zj Zg Zh Zb):=⟨_,_,PySem.W.mg_of X G Z0j,ZeI.kp,ZeI.binds (fun _ _ _ _ _ _=>ZbI fun _=>rfl),Zls ZeI T (JL 12)⟩
 have Zbw:Cal l.prog w K mg base CX0 2 "_law_record_by" ["_law_number","_law_names_by"] ZaS:=⟨_,_,PySem.W.mg_of X G Y5,ZbA.kp,ZbA.binds (fun _ _ _ _ _ _=>XC fun _ _=>rfl),Zh4 ZbA T Yo⟩
 have Zbv:Cal l.prog w K mg base CX0 1 "_law_number_by" ["_law_cell","_law_names_by"] ZaT:=⟨_,_,PySem.W.mg_of X G Y6,ZbB.kp,ZbB.binds (fun _ _ _ _ _ _=>XC fun _ _=>rfl),Zh2 ZbB T⟩
 have ZdX:Cal l.prog w K mg base CX0 3 "_law_row_by" ["_law_cell","_law_names_by","_law_far","_law_book"] ZcN:=⟨_,_,PySem.W.mg_of X G Z07,Ze1.kp,Ze1.binds (fun _ _ _ _ _ _=>ZmQ fun _ _ _ _=>rfl),ZjN Ze1 T Yo Zbv Zbw⟩
 have ZcS:Cal l.prog w K mg base CX0 4 "_law_rows_by" ["_law_cells","_law_names_by","_law_far","_law_book"] Zca:=⟨_,_,PySem.W.mg_of X G J8,ZcX.kp,ZcX.binds (fun _ _ _ _ _ _=>ZmQ fun _ _ _ _=>rfl),Zjh ZcX T ZdX⟩
 have ZaX:Cal l.prog w K mg base CX0 1 "_law_line" ["_law_book","_law_name"] Zcs:=⟨_,_,PySem.W.mg_of X G Z0q,ZfL.kp,ZfL.binds (fun _ _ _ _ _ _=>XC fun _ _=>rfl),Zmq ZfL T⟩
 have Zan:Cal l.prog w K mg base CX0 2 "_law_owner" ["_law_book","_law_name"] ZbK:=⟨_,_,PySem.W.mg_of X G Z0k,ZeJ.kp,ZeJ.binds (fun _ _ _ _ _ _=>XC fun _ _=>rfl),Zlt ZeJ T ZaX⟩
 have ZaY:Cal l.prog w K mg base CX0 1 "_law_life" ["_law_rows","_law_record","_law_day"] Zct:=⟨_,_,PySem.W.mg_of X G Z0r,ZfM.kp,ZfM.binds (fun _ _ _ _ _ _=>ZlR fun _ _ _=>rfl),Zmr ZfM T⟩
 have Za0:Cal l.prog w K mg base CX0 14 "_law_judged" ["_law_book","_law_rows","_law_record","_law_day"] Zb2:=⟨_,_,PySem.W.mg_of X G Z08,Ze2.kp,Ze2.binds (fun _ _ _ _ _ _=>ZmQ fun _ _ _ _=>rfl),ZjO Ze2 T (ZbQ 12) ZaY ZaX Zan⟩
 have JZ:∀n,Cal l.prog w K mg base CX0 (0+n+1) "_law_leaves" ["_law_tree"] (Za5 n):=fun n=>by
  induction n with
  |zero=>exact⟨_,_,PySem.W.mg_of X G X5,ZaE.kp,ZaE.binds (fun _ _ _ _ _ _=>ZbI fun _=>rfl),Xe ZhD⟩
  |succ n ih=>exact⟨_,_,PySem.W.mg_of X G X5,ZaE.kp,ZaE.binds (fun _ _ _ _ _ _=>ZbI fun _=>rfl),ZjM ZaE T n ih⟩
 have ZdZ:Cal l.prog w K mg base CX0 15 "_law_reason" ["_law_book","_law_rows","_law_record","_law_day"] ZcQ:=⟨_,_,PySem.W.mg_of X G Z09,Ze3.kp,Ze3.binds (fun _ _ _ _ _ _=>ZmQ fun _ _ _ _=>rfl),ZjP Ze3 T Za0 (JZ 12) ZaY Zan⟩
 have Zh8:Cal l.prog w K mg base CX0 16 "_law_run" ["_law_book","_law_rows","_law_away","_law_day"] ZfG:=⟨_,_,PySem.W.mg_of X G Z0G,Zhf.kp,Zhf.binds (fun _ _ _ _ _ _=>ZmQ fun _ _ _ _=>rfl),Znm Zhf T Za0 ZdZ⟩
 have Zbx:Cal l.prog w K mg base CX0 2 "_law_gone_form" ["_law_found"] ZaZ:=⟨_,_,PySem.W.mg_of X G Y7,ZbC.kp,ZbC.binds (fun _ _ _ _ _ _=>ZbI fun _=>rfl),Zh6 ZbC T Zbh⟩
 have Zlw:ZkM l.prog w K mg base CX0 1 "House" Zo ["self","book"] (ZcM Zo):=⟨_,_,PySem.W.mg_of X G Z1h,⟨Z1u,Z0c,ZlC,Z1v⟩,Zgr.binds (fun _ _ _ _ _ _=>XC fun _ _=>rfl),ZjB Zgr T T.cl_House T.n_House_book T.n_House_told T.n_House_own T.n_House_holdings T.n_House_run_days T.n_House_taken T.n_House_words⟩
 have Zjl:∀n,Zap l.prog w K mg base CX0 (0+n+1) "gone" ["self"] (ZhY Zj Zg Zh Zb n) (fun C=>C=Zo):=fun n=>by
  induction n with
  |zero=>
   refine⟨fun C hC=> ?_⟩;rcases hC with hC
   ·cases hC.symm;exact⟨T.cl_House,_,_,⟨X8,Zgu,ZaH.kp⟩,ZaH.binds (fun _ _ _ _ _ _=>ZbI fun _=>rfl),Xe Zoy⟩
  |succ n ih=>
   refine⟨fun C hC=> ?_⟩;rcases hC with hC
   ·cases hC.symm;exact⟨T.cl_House,_,_,⟨X8,Zgu,ZaH.kp⟩,ZaH.binds (fun _ _ _ _ _ _=>ZbI fun _=>rfl),ZjF ZaH T n⟩
 have Zdj:∀n,Zap l.prog w K mg base CX0 (0+n+1) "regrets" ["self"] (ZdV Zj Zg Zh Zb n) (fun C=>C=Zo):=fun n=>by
  induction n with
  |zero=>
   refine⟨fun C hC=> ?_⟩;rcases hC with hC
   ·cases hC.symm;exact⟨T.cl_House,_,_,⟨Z5,Ze7,Ju.kp⟩,Ju.binds (fun _ _ _ _ _ _=>ZbI fun _=>rfl),Xe Zlg⟩
  |succ n ih=>
   refine⟨fun C hC=> ?_⟩;rcases hC with hC
   ·cases hC.symm;exact⟨T.cl_House,_,_,⟨Z5,Ze7,Ju.kp⟩,Ju.binds (fun _ _ _ _ _ _=>ZbI fun _=>rfl),ZgY Ju T n⟩
 have Zjm:∀n,Zap l.prog w K mg base CX0 (0+n+1) "rows" ["self"] (ZhX Zj Zg Zh Zb n) (fun C=>C=Zo):=fun n=>by
  induction n with
  |zero=>
   refine⟨fun C hC=> ?_⟩;rcases hC with hC
   ·cases hC.symm;exact⟨T.cl_House,_,_,⟨X7,Zgt,ZaG.kp⟩,ZaG.binds (fun _ _ _ _ _ _=>ZbI fun _=>rfl),Xe Zox⟩
  |succ n ih=>
   refine⟨fun C hC=> ?_⟩;rcases hC with hC
   ·cases hC.symm;exact⟨T.cl_House,_,_,⟨X7,Zgt,ZaG.kp⟩,ZaG.binds (fun _ _ _ _ _ _=>ZbI fun _=>rfl),ZjD ZaG T n⟩
 have Zj7:∀n,Zap l.prog w K mg base CX0 (14+n+1) "due_on" ["self","day"] (Zf4 Zj Zg Zh Zb n) (fun C=>C=Zo):=fun n=>by
  induction n with
  |zero=>
   refine⟨fun C hC=> ?_⟩;rcases hC with hC
   ·cases hC.symm;exact⟨T.cl_House,_,_,⟨Z9,ZeO,JS.kp⟩,JS.binds (fun _ _ _ _ _ _=>XC fun _ _=>rfl),Xe Zmj⟩
  |succ n ih=>
   refine⟨fun C hC=> ?_⟩;rcases hC with hC
   ·cases hC.symm;exact⟨T.cl_House,_,_,⟨Z9,ZeO,JS.kp⟩,JS.binds (fun _ _ _ _ _ _=>XC fun _ _=>rfl),ZhN JS T n XR Zdd Zj5 Jr⟩
 have Zo0:∀n,Zap l.prog w K mg base CX0 (27+n+1) "run" ["self","day"] (Zld Zj Zg Zh Zb n) (fun C=>C=Zo):=fun n=>by
  induction n with
  |zero=>
   refine⟨fun C hC=> ?_⟩;rcases hC with hC
   ·cases hC.symm;exact⟨T.cl_House,_,_,⟨Z02,Zhu,Zbl.kp⟩,Zbl.binds (fun _ _ _ _ _ _=>XC fun _ _=>rfl),Xe Zqf⟩
  |succ n ih=>
   refine⟨fun C hC=> ?_⟩;rcases hC with hC
   ·cases hC.symm;exact⟨T.cl_House,_,_,⟨Z02,Zhu,Zbl.kp⟩,Zbl.binds (fun _ _ _ _ _ _=>XC fun _ _=>rfl),Zlf Zbl T n (Zj7 12)⟩
 have ZfD:∀n,Zap l.prog w K mg base CX0 (0+n+1) "keep_row" ["self","row"] (Zcx Zj Zg Zh Zb n) (fun C=>C=Zo):=fun n=>by
  induction n with
  |zero=>
   refine⟨fun C hC=> ?_⟩;rcases hC with hC
   ·cases hC.symm;exact⟨T.cl_House,_,_,⟨Z4,Zdm,Jl.kp⟩,Jl.binds (fun _ _ _ _ _ _=>XC fun _ _=>rfl),Xe ZjG⟩
  |succ n ih=>
   refine⟨fun C hC=> ?_⟩;rcases hC with hC
   ·cases hC.symm;exact⟨T.cl_House,_,_,⟨Z4,Zdm,Jl.kp⟩,Jl.binds (fun _ _ _ _ _ _=>XC fun _ _=>rfl),Zgh Jl T n⟩
 have ZdR:∀n,Zap l.prog w K mg base CX0 (1+n+1) "refuse_row" ["self","row"] (Zb3 Zj Zg Zh Zb n) (fun C=>C=Zo):=fun n=>by
  induction n with
  |zero=>
   refine⟨fun C hC=> ?_⟩;rcases hC with hC
   ·cases hC.symm;exact⟨T.cl_House,_,_,⟨Z0,Zcl,XF.kp⟩,XF.binds (fun _ _ _ _ _ _=>XC fun _ _=>rfl),Xe ZhL⟩
  |succ n ih=>
   refine⟨fun C hC=> ?_⟩;rcases hC with hC
   ·cases hC.symm;exact⟨T.cl_House,_,_,⟨Z0,Zcl,XF.kp⟩,XF.binds (fun _ _ _ _ _ _=>XC fun _ _=>rfl),Zf6 XF T n ZgV Zaz Zcg⟩
 have ZdS:∀n,Zap l.prog w K mg base CX0 (0+n+1) "touched_by" ["self","row"] (Zb4 Zj Zg Zh Zb n) (fun C=>C=Zo):=fun n=>by
  induction n with
  |zero=>
   refine⟨fun C hC=> ?_⟩;rcases hC with hC
   ·cases hC.symm;exact⟨T.cl_House,_,_,⟨Z1,Zcm,XH.kp⟩,XH.binds (fun _ _ _ _ _ _=>XC fun _ _=>rfl),Xe ZhM⟩
  |succ n ih=>
   refine⟨fun C hC=> ?_⟩;rcases hC with hC
   ·cases hC.symm;exact⟨T.cl_House,_,_,⟨Z1,Zcm,XH.kp⟩,XH.binds (fun _ _ _ _ _ _=>XC fun _ _=>rfl),Zf8 XH T n⟩
 have ZeA:∀n,Zap l.prog w K mg base CX0 (14+n+1) "words_now" ["self","records"] (ZbN Zj Zg Zh Zb n) (fun C=>C=Zo):=fun n=>by
  induction n with
  |zero=>
   refine⟨fun C hC=> ?_⟩;rcases hC with hC
   ·cases hC.symm;exact⟨T.cl_House,_,_,⟨Z2,ZcA,Jc.kp⟩,Jc.binds (fun _ _ _ _ _ _=>XC fun _ _=>rfl),Xe Zj1⟩
  |succ n ih=>
   refine⟨fun C hC=> ?_⟩;rcases hC with hC
   ·cases hC.symm;exact⟨T.cl_House,_,_,⟨Z2,ZcA,Jc.kp⟩,Jc.binds (fun _ _ _ _ _ _=>XC fun _ _=>rfl),ZfC Jc T n XR Zdd Jr⟩
 have Znr:∀n,Zap l.prog w K mg base CX0 (27+n+1) "tell" ["self","row"] (Zi4 Zj Zg Zh Zb n) (fun C=>C=Zo):=fun n=>by
  induction n with
  |zero=>
   refine⟨fun C hC=> ?_⟩;rcases hC with hC
   ·cases hC.symm;exact⟨T.cl_House,_,_,⟨X6,Zgs,ZaF.kp⟩,ZaF.binds (fun _ _ _ _ _ _=>XC fun _ _=>rfl),Xe ZoJ⟩
  |succ n ih=>
   refine⟨fun C hC=> ?_⟩;rcases hC with hC
   ·cases hC.symm;exact⟨T.cl_House,_,_,⟨X6,Zgs,ZaF.kp⟩,ZaF.binds (fun _ _ _ _ _ _=>XC fun _ _=>rfl),ZjK ZaF T n (ZfD 12) (ZdR 12) (ZdS 12) (ZeA 12)⟩
 exact Zss Ztj T Zlw ZcR Xz Zbx ZcS Zh8 ZeF (Zjl 12) (Zdj 12) (Zjm 12) (Zo0 12) (Znr 12)
end K30
namespace PySem.W.Fast
theorem tw6331344630430651392:0=0:=rfl
theorem tw6819596117245763584:0=0:=rfl
theorem tw10059153533286947936:0=0:=rfl
theorem tw15048692751054266560:0=0:=rfl
theorem tw4215474758839207104:0=0:=rfl
theorem tw7907183027848679648:0=0:=rfl
theorem tw11921055018461297920:0=0:=rfl
theorem tw3147676094294822176:0=0:=rfl
theorem tw12608583598481520992:0=0:=rfl
theorem tw15257236342099342688:0=0:=rfl
theorem tw13507390577262797248:0=0:=rfl
theorem tw16764485929589770720:0=0:=rfl
theorem tw10453861596998919744:0=0:=rfl
theorem tw1525691999107143296:0=0:=rfl
theorem tw18315965932618046240:0=0:=rfl
theorem tw14151990924415427360:0=0:=rfl
theorem tw1932553761579199264:0=0:=rfl
theorem tw17952038300411433792:0=0:=rfl
theorem tw9916981862631725984:0=0:=rfl
theorem tw1846840874161236960:0=0:=rfl
theorem tw16463130477380427809:0=0:=rfl
theorem tw971305232058684801:0=0:=rfl
theorem tw9628860165685203361:0=0:=rfl
theorem tw2020810239322287617:0=0:=rfl
theorem tw1282662327097032257:0=0:=rfl
theorem tw788497557793311329:0=0:=rfl
theorem tw2906150673838110305:0=0:=rfl
theorem tw9498152007499859617:0=0:=rfl
theorem tw8163823260962533025:0=0:=rfl
theorem tw5093628291700144897:0=0:=rfl
theorem tw938045111817697057:0=0:=rfl
theorem tw17208192981859315521:0=0:=rfl
theorem tw12721350111202160481:0=0:=rfl
theorem tw15617199029974667201:0=0:=rfl
theorem tw11916634291742787586:0=0:=rfl
theorem tw3270600808328598530:0=0:=rfl
theorem tw15550840578730498082:0=0:=rfl
theorem tw15151121015470700578:0=0:=rfl
theorem tw8509360389603211298:0=0:=rfl
theorem tw6294462057623727234:0=0:=rfl
theorem tw17272039411724200066:0=0:=rfl
theorem tw17681367344151199906:0=0:=rfl
theorem tw13075090784153943234:0=0:=rfl
theorem tw7215478602749653218:0=0:=rfl
theorem tw17953888290833333506:0=0:=rfl
theorem tw5757882585298210082:0=0:=rfl
theorem tw15146314786362759522:0=0:=rfl
theorem tw6906748095808972130:0=0:=rfl
theorem tw5480905158651151906:0=0:=rfl
theorem tw8529313191284870690:0=0:=rfl
theorem tw16151784468706756162:0=0:=rfl
theorem tw5031376740124136034:0=0:=rfl
theorem tw4781245091049455234:0=0:=rfl
theorem tw2236180852961991362:0=0:=rfl
theorem tw15097965901084937986:0=0:=rfl
theorem tw6312311102684042018:0=0:=rfl
theorem tw14083599577146680098:0=0:=rfl
theorem tw193824441998343010:0=0:=rfl
theorem tw11022762245929854882:0=0:=rfl
theorem tw9544496228123671651:0=0:=rfl
theorem tw14750891034339807427:0=0:=rfl
theorem tw5074040454055161059:0=0:=rfl
theorem tw4112609652153835747:0=0:=rfl
theorem tw11536034904493966595:0=0:=rfl
theorem tw6665698231539579235:0=0:=rfl
theorem tw219187362713325955:0=0:=rfl
theorem tw16751581834817639843:0=0:=rfl
theorem tw5674722428507251171:0=0:=rfl
theorem tw12823820206951985699:0=0:=rfl
theorem tw3967811349498706499:0=0:=rfl
theorem tw6296819914886041155:0=0:=rfl
theorem tw4596326072247324259:0=0:=rfl
theorem tw16816383371804924643:0=0:=rfl
theorem tw18069891880522103555:0=0:=rfl
theorem tw13626200210745346819:0=0:=rfl
theorem tw11952279093617014563:0=0:=rfl
theorem tw2447992085582103331:0=0:=rfl
theorem tw15824981145469365059:0=0:=rfl
theorem tw12340063252581904227:0=0:=rfl
theorem tw14111983829432143747:0=0:=rfl
theorem tw17989309249218869155:0=0:=rfl
theorem tw15621695443050879012:0=0:=rfl
theorem tw14159019833164981284:0=0:=rfl
theorem tw15315399332842268708:0=0:=rfl
theorem tw6360160696833358916:0=0:=rfl
theorem tw2428751668667334852:0=0:=rfl
theorem tw2210325483949653188:0=0:=rfl
theorem tw11141739964377853156:0=0:=rfl
theorem tw3895529534089629956:0=0:=rfl
theorem tw17307613070931200292:0=0:=rfl
theorem tw15308226284928505124:0=0:=rfl
theorem tw8166264055190931748:0=0:=rfl
theorem tw15628516890040085924:0=0:=rfl
theorem tw1749377090237477284:0=0:=rfl
theorem tw17695624342436280740:0=0:=rfl
theorem tw15765035108553912772:0=0:=rfl
theorem tw1331442578239651300:0=0:=rfl
theorem tw15009886792387768004:0=0:=rfl
theorem tw8830074296636984004:0=0:=rfl
theorem tw1044966877874843332:0=0:=rfl
theorem tw554614108918752036:0=0:=rfl
theorem tw7100194624180060004:0=0:=rfl
theorem tw12956306044483524516:0=0:=rfl
theorem tw17406543408403771300:0=0:=rfl
theorem tw14878205894971373573:0=0:=rfl
theorem tw3881014512466837509:0=0:=rfl
theorem tw6744066074129586213:0=0:=rfl
theorem tw9616446388383319109:0=0:=rfl
theorem tw13161922900623852613:0=0:=rfl
theorem tw1942958512113789061:0=0:=rfl
theorem tw13626742180409772293:0=0:=rfl
theorem tw3464584806151091461:0=0:=rfl
theorem tw13841898633435809061:0=0:=rfl
theorem tw6069882327555636613:0=0:=rfl
theorem tw4455995782912190917:0=0:=rfl
theorem tw7050770811964004837:0=0:=rfl
theorem tw8027587144382022181:0=0:=rfl
theorem tw16382234017103483461:0=0:=rfl
theorem tw11282896476659008229:0=0:=rfl
theorem tw5701453136773519077:0=0:=rfl
theorem tw10956387351140078437:0=0:=rfl
theorem tw1615716358908263397:0=0:=rfl
theorem tw7688685142324956166:0=0:=rfl
theorem tw9677377607137318918:0=0:=rfl
theorem tw15856042871644254214:0=0:=rfl
theorem tw10497925548987612166:0=0:=rfl
theorem tw15388034372784051238:0=0:=rfl
theorem tw12047733322991046726:0=0:=rfl
theorem tw3020996159098729542:0=0:=rfl
theorem tw16520291991601375334:0=0:=rfl
theorem tw17133733793740202118:0=0:=rfl
theorem tw8702220752991384710:0=0:=rfl
theorem tw7702778942373564678:0=0:=rfl
theorem tw7309958653189737798:0=0:=rfl
theorem tw4336969151378103654:0=0:=rfl
theorem tw12164425722177210726:0=0:=rfl
theorem tw7231021947705416070:0=0:=rfl
theorem tw12284994938269802086:0=0:=rfl
theorem tw2511767546805627494:0=0:=rfl
theorem tw1101816049572790886:0=0:=rfl
theorem tw12114822698686180966:0=0:=rfl
theorem tw12369475491497067174:0=0:=rfl
theorem tw12840230408312177318:0=0:=rfl
theorem tw12383013101999817446:0=0:=rfl
theorem tw4513804466780713766:0=0:=rfl
theorem tw8931337790426877926:0=0:=rfl
theorem tw430070285268552775:0=0:=rfl
theorem tw9757452621284780103:0=0:=rfl
theorem tw3721549110199364711:0=0:=rfl
theorem tw5569926199069721799:0=0:=rfl
theorem tw8320172980911832263:0=0:=rfl
theorem tw5604747261538437639:0=0:=rfl
theorem tw10781675995399399975:0=0:=rfl
theorem tw326977630530827847:0=0:=rfl
theorem tw11088277894988795527:0=0:=rfl
theorem tw7119875362367527591:0=0:=rfl
theorem tw285850462599838407:0=0:=rfl
theorem tw3087870542992746183:0=0:=rfl
theorem tw12670026051927008007:0=0:=rfl
theorem tw13379003386654619431:0=0:=rfl
theorem tw2313862694474264519:0=0:=rfl
theorem tw9967761411497066568:0=0:=rfl
theorem tw12183100722989802632:0=0:=rfl
theorem tw10565501053693058216:0=0:=rfl
theorem tw9641889784103913640:0=0:=rfl
theorem tw14558054013829229736:0=0:=rfl
theorem tw14939055485977325768:0=0:=rfl
theorem tw5111515975797793992:0=0:=rfl
theorem tw1386623567107751176:0=0:=rfl
theorem tw10719245627832111432:0=0:=rfl
theorem tw6844704871655730536:0=0:=rfl
theorem tw5641732235041939848:0=0:=rfl
theorem tw6679191353273856424:0=0:=rfl
theorem tw9729187395455152584:0=0:=rfl
theorem tw621112993049379272:0=0:=rfl
theorem tw16240344513365675496:0=0:=rfl
theorem tw5146656978555211240:0=0:=rfl
theorem tw15545615920319885960:0=0:=rfl
theorem tw8253976939259800232:0=0:=rfl
theorem tw10519672304389958344:0=0:=rfl
theorem tw15316756172138882888:0=0:=rfl
theorem tw13967460825848323016:0=0:=rfl
theorem tw7330712345790865384:0=0:=rfl
theorem tw16155900118766055465:0=0:=rfl
theorem tw6157155057385567273:0=0:=rfl
theorem tw14816255614062434377:0=0:=rfl
theorem tw4402672164228666537:0=0:=rfl
theorem tw604326656245625033:0=0:=rfl
theorem tw3763613403974198569:0=0:=rfl
theorem tw15494569262131773769:0=0:=rfl
theorem tw9913003744186956137:0=0:=rfl
theorem tw12851503501226943881:0=0:=rfl
theorem tw17151870721430237673:0=0:=rfl
theorem tw6295111097074929129:0=0:=rfl
theorem tw5915637717402593801:0=0:=rfl
theorem tw11277664824984479305:0=0:=rfl
theorem tw11296446951577545321:0=0:=rfl
theorem tw1441699553632087689:0=0:=rfl
theorem tw3582887459380947625:0=0:=rfl
theorem tw2526400319674326761:0=0:=rfl
theorem tw7475122918620597001:0=0:=rfl
theorem tw4388591013505563401:0=0:=rfl
theorem tw2527111927791314793:0=0:=rfl
theorem tw15026907207749251977:0=0:=rfl
theorem tw7089660219812574121:0=0:=rfl
theorem tw11687012472315607977:0=0:=rfl
theorem tw2613400325452540905:0=0:=rfl
theorem tw9762511481619054602:0=0:=rfl
theorem tw10273692787712660490:0=0:=rfl
theorem tw1320622579308287050:0=0:=rfl
theorem tw9376073026148403274:0=0:=rfl
theorem tw13253494271948997738:0=0:=rfl
theorem tw13825370587139651818:0=0:=rfl
theorem tw11536063157257233674:0=0:=rfl
theorem tw3947873285283902730:0=0:=rfl
theorem tw6318461123343113578:0=0:=rfl
theorem tw11559379136534865258:0=0:=rfl
theorem tw6914285090738842250:0=0:=rfl
theorem tw6108992325350682314:0=0:=rfl
theorem tw2339275512025061098:0=0:=rfl
theorem tw13020053020061441770:0=0:=rfl
theorem tw482911079424338730:0=0:=rfl
theorem tw18145171653736349546:0=0:=rfl
theorem tw95149623500227434:0=0:=rfl
theorem tw5941287448875124586:0=0:=rfl
theorem tw1911580236696072138:0=0:=rfl
theorem tw923180651732082666:0=0:=rfl
theorem tw6529706779011834891:0=0:=rfl
theorem tw12254318364947785835:0=0:=rfl
theorem tw478242722394461291:0=0:=rfl
theorem tw11905542819976731755:0=0:=rfl
theorem tw12009829174048575627:0=0:=rfl
theorem tw11018121098750026891:0=0:=rfl
theorem tw18284318081230859403:0=0:=rfl
theorem tw13846527417193753739:0=0:=rfl
theorem tw17202447720291836107:0=0:=rfl
theorem tw5978019359939602635:0=0:=rfl
theorem tw6209955099901077739:0=0:=rfl
theorem tw13470701133349582155:0=0:=rfl
theorem tw11635699651975440747:0=0:=rfl
theorem tw9756900711965802859:0=0:=rfl
theorem tw17676541856480341387:0=0:=rfl
theorem tw13663486928803272107:0=0:=rfl
theorem tw416901308194859435:0=0:=rfl
theorem tw7661042212755928491:0=0:=rfl
theorem tw12210089040954797515:0=0:=rfl
theorem tw217177633097862603:0=0:=rfl
theorem tw9054375498656378347:0=0:=rfl
theorem tw18050305876935792171:0=0:=rfl
theorem tw5285018430302857867:0=0:=rfl
theorem tw4361986370460408619:0=0:=rfl
theorem tw14716485788289803083:0=0:=rfl
theorem tw9073968327990369099:0=0:=rfl
theorem tw56672866863615819:0=0:=rfl
theorem tw16233805502474305387:0=0:=rfl
theorem tw17691074933396966283:0=0:=rfl
theorem tw4948696973956287467:0=0:=rfl
theorem tw15335730765719468011:0=0:=rfl
theorem tw14717348099652286443:0=0:=rfl
theorem tw11153457978857893004:0=0:=rfl
theorem tw16817217913310482572:0=0:=rfl
theorem tw8621350493457156332:0=0:=rfl
theorem tw6314334480942688684:0=0:=rfl
theorem tw1529874710429839788:0=0:=rfl
theorem tw9026683849173191276:0=0:=rfl
theorem tw9355195644591589004:0=0:=rfl
theorem tw3337321419890979468:0=0:=rfl
theorem tw7307532090572398412:0=0:=rfl
theorem tw18121527047211884:0=0:=rfl
theorem tw13311842691496887180:0=0:=rfl
theorem tw3924664633025302508:0=0:=rfl
theorem tw4558836332268372045:0=0:=rfl
theorem tw8645565944780301453:0=0:=rfl
theorem tw15783205667352813741:0=0:=rfl
theorem tw12505151397426369773:0=0:=rfl
theorem tw18190039007544712461:0=0:=rfl
theorem tw16323104910817303917:0=0:=rfl
theorem tw9040061226011097453:0=0:=rfl
theorem tw10092300861554517517:0=0:=rfl
theorem tw14810841190212625005:0=0:=rfl
theorem tw2824629972459741805:0=0:=rfl
theorem tw16480209821965592205:0=0:=rfl
theorem tw3789316322910053037:0=0:=rfl
theorem tw5227132139910631117:0=0:=rfl
theorem tw3377746745461560077:0=0:=rfl
theorem tw7654625840550691629:0=0:=rfl
theorem tw2722307273875490605:0=0:=rfl
theorem tw16813034178175424333:0=0:=rfl
theorem tw1857530564933581645:0=0:=rfl
theorem tw9702165636744441709:0=0:=rfl
theorem tw817719305301332845:0=0:=rfl
theorem tw15693524690906324941:0=0:=rfl
theorem tw8328182472920486893:0=0:=rfl
theorem tw16491760230724228110:0=0:=rfl
theorem tw7901768547636119598:0=0:=rfl
theorem tw140448658502475854:0=0:=rfl
theorem tw13890812264399578318:0=0:=rfl
theorem tw1885197145369997582:0=0:=rfl
theorem tw4857055269977519406:0=0:=rfl
theorem tw13735843049275898190:0=0:=rfl
theorem tw17633607458819153294:0=0:=rfl
theorem tw11072181723582129550:0=0:=rfl
theorem tw18413623185386832366:0=0:=rfl
theorem tw1059253919944826382:0=0:=rfl
theorem tw15236083290666813966:0=0:=rfl
theorem tw2270752822017210990:0=0:=rfl
theorem tw11970341971901032078:0=0:=rfl
theorem tw13460269790276195086:0=0:=rfl
theorem tw8842579462154427214:0=0:=rfl
theorem tw11023212003920508782:0=0:=rfl
theorem tw1861621112176976750:0=0:=rfl
theorem tw12226991990312183694:0=0:=rfl
theorem tw4531261434976700302:0=0:=rfl
theorem tw12890509060953636846:0=0:=rfl
theorem tw13252675655508421711:0=0:=rfl
theorem tw8270492178914914383:0=0:=rfl
theorem tw17542456965005135983:0=0:=rfl
theorem tw15081456790398624911:0=0:=rfl
theorem tw7448291041598507247:0=0:=rfl
theorem tw11746509335100215599:0=0:=rfl
theorem tw3461217318426977647:0=0:=rfl
theorem tw9940728500326425967:0=0:=rfl
theorem tw14491645435093858735:0=0:=rfl
theorem tw3799203018962075151:0=0:=rfl
theorem tw10422585097013086799:0=0:=rfl
theorem tw5127569821700725359:0=0:=rfl
theorem tw14180093583348965071:0=0:=rfl
theorem tw86965019826803503:0=0:=rfl
theorem tw12591306009911419887:0=0:=rfl
theorem tw4778696571907323887:0=0:=rfl
theorem tw16263939547788590128:0=0:=rfl
theorem tw18123299808589559920:0=0:=rfl
theorem tw8766866400989505648:0=0:=rfl
theorem tw17850242103547298992:0=0:=rfl
theorem tw5942668871999301904:0=0:=rfl
theorem tw8616712581969106192:0=0:=rfl
theorem tw2414677252480208272:0=0:=rfl
theorem tw13951030531281590672:0=0:=rfl
theorem tw7461395010064286128:0=0:=rfl
theorem tw9756202647623603888:0=0:=rfl
theorem tw14742150665217034928:0=0:=rfl
theorem tw13700809003132136272:0=0:=rfl
theorem tw11617753434935573360:0=0:=rfl
theorem tw5874885255699761072:0=0:=rfl
theorem tw10955454690490374096:0=0:=rfl
theorem tw8599664375152525296:0=0:=rfl
theorem tw9323943599725836401:0=0:=rfl
theorem tw7872599950901329041:0=0:=rfl
theorem tw15503254843856554193:0=0:=rfl
theorem tw8554639148178454737:0=0:=rfl
theorem tw3360906734198022385:0=0:=rfl
theorem tw16986424762977029393:0=0:=rfl
theorem tw14806856981591307569:0=0:=rfl
theorem tw2063161310648780081:0=0:=rfl
theorem tw5356414930808387921:0=0:=rfl
theorem tw1814559047918331313:0=0:=rfl
theorem tw7409802679581852177:0=0:=rfl
theorem tw16387785012451156721:0=0:=rfl
theorem tw5857502276383139633:0=0:=rfl
theorem tw11113392731930943313:0=0:=rfl
theorem tw9771290362513056657:0=0:=rfl
theorem tw3127038135017507793:0=0:=rfl
theorem tw4235809867561366546:0=0:=rfl
theorem tw5792565802718789714:0=0:=rfl
theorem tw8540350016026505362:0=0:=rfl
theorem tw12605202537756433586:0=0:=rfl
theorem tw2489342789554737330:0=0:=rfl
theorem tw1960781511218060498:0=0:=rfl
theorem tw5530388845411325138:0=0:=rfl
theorem tw4945480169630245106:0=0:=rfl
theorem tw3353176101605392722:0=0:=rfl
theorem tw15153957535475509618:0=0:=rfl
theorem tw12591684792679723378:0=0:=rfl
theorem tw16685363755349886386:0=0:=rfl
theorem tw5355538064823030226:0=0:=rfl
theorem tw12586156475695364626:0=0:=rfl
theorem tw8728551740959417906:0=0:=rfl
theorem tw8764748759020697170:0=0:=rfl
theorem tw16944087230497257170:0=0:=rfl
theorem tw1862898578270212850:0=0:=rfl
theorem tw13350938828894650162:0=0:=rfl
theorem tw4118305822127384370:0=0:=rfl
theorem tw16766740227470786482:0=0:=rfl
theorem tw3294988816654809074:0=0:=rfl
theorem tw14731552685023383635:0=0:=rfl
theorem tw4801143753593507955:0=0:=rfl
theorem tw15357229789473180851:0=0:=rfl
theorem tw2632425843818141907:0=0:=rfl
theorem tw6018204878438316307:0=0:=rfl
theorem tw3008660537313579283:0=0:=rfl
theorem tw14777237131154258195:0=0:=rfl
theorem tw12571942441477842227:0=0:=rfl
theorem tw6104254950902320435:0=0:=rfl
theorem tw14185995950991380851:0=0:=rfl
theorem tw3669321243594787187:0=0:=rfl
theorem tw867312433981992339:0=0:=rfl
theorem tw9336060578732923347:0=0:=rfl
theorem tw2896830158737189363:0=0:=rfl
theorem tw7709957247528888819:0=0:=rfl
theorem tw2178745156823213619:0=0:=rfl
theorem tw18082797416772350547:0=0:=rfl
theorem tw546108751248044659:0=0:=rfl
theorem tw4084563887153668723:0=0:=rfl
theorem tw9714924977088262899:0=0:=rfl
theorem tw10316386395587817235:0=0:=rfl
theorem tw2250515921832288147:0=0:=rfl
theorem tw18377563623274515411:0=0:=rfl
theorem tw15993801960821111795:0=0:=rfl
theorem tw16566850146556868628:0=0:=rfl
theorem tw989214794145008660:0=0:=rfl
theorem tw8015396023970039892:0=0:=rfl
theorem tw12277016538167244884:0=0:=rfl
theorem tw2089435816734346356:0=0:=rfl
theorem tw14224883048095444116:0=0:=rfl
theorem tw15552074625975835988:0=0:=rfl
theorem tw13363975315793826132:0=0:=rfl
theorem tw880204023674711412:0=0:=rfl
theorem tw16667750930501861748:0=0:=rfl
theorem tw7375651729431458196:0=0:=rfl
theorem tw6447344047345817076:0=0:=rfl
theorem tw14231653631966046740:0=0:=rfl
theorem tw38102359798353428:0=0:=rfl
theorem tw10108941892467435060:0=0:=rfl
theorem tw10843307388256144020:0=0:=rfl
theorem tw2251511859682796276:0=0:=rfl
theorem tw4068236763551500052:0=0:=rfl
theorem tw7190091203971479316:0=0:=rfl
theorem tw10647347736183064404:0=0:=rfl
theorem tw450347163703329620:0=0:=rfl
theorem tw8558443393893835668:0=0:=rfl
theorem tw12561011292249330741:0=0:=rfl
theorem tw3849555727633680501:0=0:=rfl
theorem tw1473472110653780085:0=0:=rfl
theorem tw9115066288091076821:0=0:=rfl
theorem tw14101433239111463157:0=0:=rfl
theorem tw16771124817334605077:0=0:=rfl
theorem tw6288166492061105589:0=0:=rfl
theorem tw3714280162437134773:0=0:=rfl
theorem tw18374279388317901269:0=0:=rfl
theorem tw2878423134405697141:0=0:=rfl
theorem tw8606383942709012085:0=0:=rfl
theorem tw3147507261575756437:0=0:=rfl
theorem tw10883567236957046517:0=0:=rfl
theorem tw10245830174701516533:0=0:=rfl
theorem tw10279890339840851733:0=0:=rfl
theorem tw15516026455300293461:0=0:=rfl
theorem tw6624614449670212437:0=0:=rfl
theorem tw16391724413599271861:0=0:=rfl
theorem tw6235340489357508565:0=0:=rfl
theorem tw8554830358565920790:0=0:=rfl
theorem tw11973077756340137014:0=0:=rfl
theorem tw762206312920727606:0=0:=rfl
theorem tw5841864854504234070:0=0:=rfl
theorem tw2439970357631501462:0=0:=rfl
theorem tw1110085594575208662:0=0:=rfl
theorem tw5519801071334531286:0=0:=rfl
theorem tw1695559896885316854:0=0:=rfl
theorem tw15134851596711268598:0=0:=rfl
theorem tw455064590786056470:0=0:=rfl
theorem tw10611933174107907414:0=0:=rfl
theorem tw5583243115718753654:0=0:=rfl
theorem tw7892962095920489846:0=0:=rfl
theorem tw12921874134309618070:0=0:=rfl
theorem tw9545682200340574774:0=0:=rfl
theorem tw15318997825694091862:0=0:=rfl
theorem tw7529291169660513878:0=0:=rfl
theorem tw18226336893483486806:0=0:=rfl
theorem tw13347890510019193462:0=0:=rfl
theorem tw6700997563708338902:0=0:=rfl
theorem tw17252617084362022614:0=0:=rfl
theorem tw16382120773379461878:0=0:=rfl
theorem tw17618933164610282230:0=0:=rfl
theorem tw1286235574289970998:0=0:=rfl
theorem tw6405333903904008022:0=0:=rfl
theorem tw1741788836054766454:0=0:=rfl
theorem tw14914533196028595126:0=0:=rfl
theorem tw17179969380664048566:0=0:=rfl
theorem tw17756551678210878390:0=0:=rfl
theorem tw15336497897242849335:0=0:=rfl
theorem tw16460175991152814199:0=0:=rfl
theorem tw3748144514285352055:0=0:=rfl
theorem tw16629536837366047927:0=0:=rfl
theorem tw3135013359749632343:0=0:=rfl
theorem tw2148156435808159063:0=0:=rfl
theorem tw9934921989985178967:0=0:=rfl
theorem tw2607675674949804439:0=0:=rfl
theorem tw18405112690440510871:0=0:=rfl
theorem tw6186842380765624791:0=0:=rfl
theorem tw15261608115081664983:0=0:=rfl
theorem tw7688637507623155223:0=0:=rfl
theorem tw1261614814694635063:0=0:=rfl
theorem tw6972379533983533655:0=0:=rfl
theorem tw7866790167998743159:0=0:=rfl
theorem tw16544044376915287671:0=0:=rfl
theorem tw13817042506555000503:0=0:=rfl
theorem tw8658208573461987031:0=0:=rfl
theorem tw17297576440894450455:0=0:=rfl
theorem tw178781201643135767:0=0:=rfl
theorem tw13435089624422156183:0=0:=rfl
theorem tw6873045015425317815:0=0:=rfl
theorem tw2386596464684337111:0=0:=rfl
theorem tw12909156824257051607:0=0:=rfl
theorem tw4236136364457673687:0=0:=rfl
theorem tw12555340682416711704:0=0:=rfl
theorem tw16394644440004884536:0=0:=rfl
theorem tw75721962665931896:0=0:=rfl
theorem tw9171149036660054232:0=0:=rfl
theorem tw2904338711882381560:0=0:=rfl
theorem tw8933962117027414264:0=0:=rfl
theorem tw11343965425241569560:0=0:=rfl
theorem tw10493405601534162232:0=0:=rfl
theorem tw12348120724201235800:0=0:=rfl
theorem tw1230611718686299512:0=0:=rfl
theorem tw1215374129183175064:0=0:=rfl
theorem tw11062258877469702552:0=0:=rfl
theorem tw10294458397788079544:0=0:=rfl
theorem tw3178523329766639096:0=0:=rfl
theorem tw3670493546576203288:0=0:=rfl
theorem tw11732074833490803320:0=0:=rfl
theorem tw6315669188516584280:0=0:=rfl
theorem tw14873844511663689624:0=0:=rfl
theorem tw2683335554061615064:0=0:=rfl
theorem tw9972745684760462296:0=0:=rfl
theorem tw12901611398848239608:0=0:=rfl
theorem tw3958363517109987353:0=0:=rfl
theorem tw16123265599159346425:0=0:=rfl
theorem tw16947175184144699801:0=0:=rfl
theorem tw16984690442659339673:0=0:=rfl
theorem tw17360644693946999193:0=0:=rfl
theorem tw18356126502318911929:0=0:=rfl
theorem tw9018429008714791449:0=0:=rfl
theorem tw6939064600036115001:0=0:=rfl
theorem tw4220080371506239033:0=0:=rfl
theorem tw15082462686432296569:0=0:=rfl
theorem tw13897343931661263513:0=0:=rfl
theorem tw12102568290809744153:0=0:=rfl
theorem tw16555235888881393465:0=0:=rfl
theorem tw6977700100916446041:0=0:=rfl
theorem tw2184474590381673401:0=0:=rfl
theorem tw6071574789395635226:0=0:=rfl
theorem tw9381914596019828794:0=0:=rfl
theorem tw15349369523445520474:0=0:=rfl
theorem tw6327165102064664730:0=0:=rfl
theorem tw15910978028480385210:0=0:=rfl
theorem tw2757393230677519610:0=0:=rfl
theorem tw13616856187499357466:0=0:=rfl
theorem tw8151016288278940986:0=0:=rfl
theorem tw17363596818569235802:0=0:=rfl
theorem tw18137001253227015514:0=0:=rfl
theorem tw6722768089423530426:0=0:=rfl
theorem tw4598670345603404314:0=0:=rfl
theorem tw1982306722705039994:0=0:=rfl
theorem tw3975831913620680410:0=0:=rfl
theorem tw10213248394431946522:0=0:=rfl
theorem tw17058958559508073338:0=0:=rfl
theorem tw13547525017684377498:0=0:=rfl
theorem tw7463658998239539130:0=0:=rfl
theorem tw12168538291253646298:0=0:=rfl
theorem tw11352865558346268634:0=0:=rfl
theorem tw15635989556490417243:0=0:=rfl
theorem tw3072520499943006331:0=0:=rfl
theorem tw8813915317487431803:0=0:=rfl
theorem tw16135956864896213275:0=0:=rfl
theorem tw3457830518418958619:0=0:=rfl
theorem tw783741117466502491:0=0:=rfl
theorem tw7077274747429893467:0=0:=rfl
theorem tw4444771753322747259:0=0:=rfl
theorem tw7316591394884109755:0=0:=rfl
theorem tw1852856870807729691:0=0:=rfl
theorem tw1772520703771673179:0=0:=rfl
theorem tw2541319672832747163:0=0:=rfl
theorem tw16882360881611441851:0=0:=rfl
theorem tw1187122800921560923:0=0:=rfl
theorem tw14867285793127518075:0=0:=rfl
theorem tw15408907370100969339:0=0:=rfl
theorem tw8405765438015329147:0=0:=rfl
theorem tw17973607773632268316:0=0:=rfl
theorem tw5660448953660353596:0=0:=rfl
theorem tw4914925788837436476:0=0:=rfl
theorem tw11172868992062791740:0=0:=rfl
theorem tw12206508537878372444:0=0:=rfl
theorem tw1023525277422601436:0=0:=rfl
theorem tw2322318343735566556:0=0:=rfl
theorem tw8204672097948757212:0=0:=rfl
theorem tw6717974320854987004:0=0:=rfl
theorem tw14860109015014919452:0=0:=rfl
theorem tw8814308378367064348:0=0:=rfl
theorem tw6606005582660085052:0=0:=rfl
theorem tw6547321305580866908:0=0:=rfl
theorem tw8573561274649326972:0=0:=rfl
theorem tw7155661154974614012:0=0:=rfl
theorem tw9163244310910298620:0=0:=rfl
theorem tw1062018588183809596:0=0:=rfl
theorem tw11609700067762663004:0=0:=rfl
theorem tw7551894629033196124:0=0:=rfl
theorem tw18382651034185342620:0=0:=rfl
theorem tw5708968709659129756:0=0:=rfl
theorem tw11203908567700652988:0=0:=rfl
theorem tw325525182523940828:0=0:=rfl
theorem tw555232050869022813:0=0:=rfl
theorem tw7070562163254255709:0=0:=rfl
theorem tw9144054670216710301:0=0:=rfl
theorem tw7165858376868265149:0=0:=rfl
theorem tw10344146817399110877:0=0:=rfl
theorem tw15282560905333461213:0=0:=rfl
theorem tw17147942966788020445:0=0:=rfl
theorem tw13640601676746338589:0=0:=rfl
theorem tw3572674459193999709:0=0:=rfl
theorem tw16862988679339828669:0=0:=rfl
theorem tw5335377282423796189:0=0:=rfl
theorem tw18177143935513418269:0=0:=rfl
theorem tw15855652008216247869:0=0:=rfl
theorem tw10897782754624634461:0=0:=rfl
theorem tw8593175239904242333:0=0:=rfl
theorem tw11319460634181328541:0=0:=rfl
theorem tw16044188165551114973:0=0:=rfl
theorem tw10386029474805498653:0=0:=rfl
theorem tw8575716681545959229:0=0:=rfl
theorem tw12041436156722449213:0=0:=rfl
theorem tw1919730262687573917:0=0:=rfl
theorem tw9949460769185614749:0=0:=rfl
theorem tw3617717142288161757:0=0:=rfl
theorem tw7020220340737327134:0=0:=rfl
theorem tw10209931988633452638:0=0:=rfl
theorem tw18437339676624029886:0=0:=rfl
theorem tw6099444812939546814:0=0:=rfl
theorem tw7158939397430341886:0=0:=rfl
theorem tw5193857108919839006:0=0:=rfl
theorem tw11433396544012936542:0=0:=rfl
theorem tw6971383345577073150:0=0:=rfl
theorem tw658910852739130910:0=0:=rfl
theorem tw18155702091260160606:0=0:=rfl
theorem tw9049265995818725118:0=0:=rfl
theorem tw4300044193191460638:0=0:=rfl
theorem tw11137150426139459390:0=0:=rfl
theorem tw13014855232667560798:0=0:=rfl
theorem tw4008802470904383390:0=0:=rfl
theorem tw16098586615960839102:0=0:=rfl
theorem tw15013302757984439743:0=0:=rfl
theorem tw2927138440584427999:0=0:=rfl
theorem tw10977049624420422143:0=0:=rfl
theorem tw16353324524945410591:0=0:=rfl
theorem tw5439412951086210591:0=0:=rfl
theorem tw4859153664675527199:0=0:=rfl
theorem tw13835375013945398847:0=0:=rfl
theorem tw6552920177222931039:0=0:=rfl
theorem tw11284877005046544991:0=0:=rfl
theorem tw12755719529782797951:0=0:=rfl
theorem tw7656073197116928735:0=0:=rfl
theorem tw5305870412413713119:0=0:=rfl
theorem tw6970571470476015391:0=0:=rfl
theorem tw5586113457383312191:0=0:=rfl
theorem tw11108780485048012703:0=0:=rfl
theorem tw15258441411636866975:0=0:=rfl
theorem tw14378453009233021951:0=0:=rfl
theorem tw11098057001327176904:0=0:=rfl
end PySem.W.Fast
open PySem PySem.W PyProof.Rows
set_option maxRecDepth 100000 in
set_option maxHeartbeats 0 in
theorem PySem.Challenge.cw_disposehall_k30_one_run_holds : PySem.Challenge.rw_disposehall_k30_one_run.Holds := by
 w_on;o_law;k_head;(case hw=>w_witness2)
 k_fill
 refine L3.ZsS (l:=PySem.Challenge.rw_disposehall_k30_one_run) (k:=41) (x:="_law_script") rfl rfl ⟨rfl,by decide,by decide⟩ (fun w h Y=>PySem.W.kIn_of Y) ?F
 case F=>
  intro w mg fa h KX G hmg;refine' K30.all_mk KX G hmg ?Z0V ?Z0W ?Z0X ?Z0A ?Z0B ?Z0m ?Z0C ?Y0 ?Z0N ?Z0O ?Z0D ?Z0P ?Z0h ?Z0E ?Z0n ?Z0o ?Z06 ?Z0p ?Z0F ?Y9 ?J3 ?Z0i ?J5 ?Y4 ?J6 ?Z0f ?Z0l ?J7 ?Z0j ?Y5 ?Y6 ?Z07 ?J8 ?Z0q ?Z0k ?Z0r ?Z08 ?X5 ?Z09 ?Z0G ?Y7 ?Z1y ?l_law ?cd_law2 ?k_law ?Z1e ?Z1f ?Z1g ?Z0Q ?Z1h ?Z0Y ?Z0Z ?Z10 ?Z11 ?Z1i ?Z1j ?in_Never ?Z1k ?Z1l ?Z12 ?Z13 ?Z14 ?Z15 ?Z1m ?Z1n ?Z0a ?Z0w ?Z0x ?Z1o ?Z1p ?Z16 ?Z17 ?Z18 ?Z19 ?Z1q ?Z1r ?Z0b ?Z0H ?Z0s ?Z1s ?Z1t ?Z0I ?Z0J ?Z0K ?Z0L ?Z0R ?Z0S ?X3 ?Z0t ?Z0g ?Z0T ?Z0U ?Z1a ?Z1b ?Z1c ?Z1d ?Z1u ?Z1v ?Z0c ?Z0y ?Z0z ?Z0M ?Z0d ?Z0e ?Z0u ?Z0v ?Z1w ?Z1x ?hn ?htk ?J9 ?Z00 ?Z01 ?Y8 ?Z6 ?Z7 ?Z8 ?Z3 ?X6 ?Z0 ?Z4 ?Z1 ?Z2 ?Z02 ?Z9 ?Z5 ?X7 ?X8 ?z_abs ?z_any ?z_bool ?z_dict ?z_int ?z_isinstance ?z_len ?z_list ?z_max ?z_min ?z_range ?z_reversed ?z_sorted ?z_str ?z_tuple ?kib ?kii ?kll ?ktt ?kss ?ne_Never_After ?ne_Never_Later ?ne_Never_Earlier ?Z03 ?ne_After_Later ?ne_After_Earlier ?Z04 ?ne_Later_Earlier ?Z05 ?X4
  (case Z1y|Z1e|Z1f|Z1g|Z0Q|Z1h=>k_is)
  (case Z0V|Z0W|Z0X|Z0A|Z0B|Z0m|Z0C|Y0|Z0N|Z0O|Z0D|Z0P|Z0h|Z0E|Z0n|Z0o|Z06|Z0p|Z0F|Y9|J3|Z0i|J5|Y4|J6|Z0f|Z0l|J7|Z0j|Y5|Y6|Z07|J8|Z0q|Z0k|Z0r|Z08|X5|Z09|Z0G|Y7=>exact⟨_,_,by k_is,L2.ZmF (by k_is) (by k_is) (by k_is)⟩)
  (case l_law|cd_law2|k_law|Z0Y|Z0Z|Z10|Z11|Z1i|Z1j|in_Never|Z1k|Z1l|Z12|Z13|Z14|Z15|Z1m|Z1n|Z0w|Z0x|Z1o|Z1p|Z16|Z17|Z18|Z19|Z1q|Z1r|Z0H|Z0s|Z1s|Z1t|Z0I|Z0J|Z0K|Z0L|Z0R|Z0S|Z0t|Z0g|Z0T|Z0U|Z1a|Z1b|Z1c|Z1d|Z1u|Z1v|Z0y|Z0z|Z0M|Z0d|Z0e|Z0u|Z0v|Z1w|Z1x|hn|htk|z_abs|z_any|z_bool|z_dict|z_int|z_isinstance|z_len|z_list|z_max|z_min|z_range|z_reversed|z_sorted|z_str|z_tuple=>k_is)
  (case Z0a|Z0b|X3|Z0c|J9|Z00|Z01|Y8|Z6|Z7|Z8|Z3|X6|Z0|Z4|Z1|Z2|Z02|Z9|Z5|X7|X8=>exact⟨_,_,by k_is,by k_is,L2.ZmF (by k_is) (by k_is) (by k_is)⟩)
  (case kib|kii|kll|ktt|kss=>first|rfl|decide+kernel|k_is)
  (case ne_Never_After|ne_Never_Later|ne_Never_Earlier|Z03|ne_After_Later|ne_After_Earlier|Z04|ne_Later_Earlier|Z05|X4=>decide)
